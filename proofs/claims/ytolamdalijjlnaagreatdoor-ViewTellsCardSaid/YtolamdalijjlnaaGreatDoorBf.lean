/-
  The ground of the proof, part 6: the calculus and what is proved with it.
-/
import Derived.Test.YtolamdalijjlnaaGreatDoorBe
import Derived.Test.YtolamdalijjlnaaGreatDoorBc
/-
  Layer 7: awake, ArenaRefuses.
-/
namespace Go.Proofs.YtolamdalijjlnaaGreatDoor

open Go Go.LX
set_option maxRecDepth 100000
set_option linter.unusedVariables false
set_option linter.unusedSimpArgs false

theorem Kept.det {R : List Rw} {ws : List Int} {a k l k' l' : Int} (h : Kept R ws a k l) (h' : Kept R ws a k' l') : k' = k ∧ l' = l := by
  obtain ⟨w, _, h1, h2, h3, h4, _⟩ := h
  obtain ⟨w', _, h1', h2', h3', h4', _⟩ := h'
  rw [h1] at h1'
  have h1' : k + 16 * l = k' + 16 * l' := Option.some.inj h1'
  omega
theorem Kept.obj {R : List Rw} {ws : List Int} {a k l : Int} (h : Kept R ws a k l) : IsObj R a := by
  obtain ⟨w, h, _⟩ := h
  exact isObj_iff.2 ⟨w, h⟩
theorem stored_of {R : List Rw} {ws ws' : List Int} {a k l i x e : Int} (h : Kept R ws a k l) (hi : 0 ≤ i ∧ i < l) (hv : Stored R ws a i x e ws') : e = 0 ∧ ws' = ws.set (a + 1 + i).toNat x := by
  cases hv with
  | none hn => exact absurd h.obj hn
  | arg k' l' h' hi' => rw [(h.det h').2] at hi'; exact absurd hi hi'
  | ok k' l' h' hi' => exact ⟨rfl, rfl⟩
theorem loaded_of {R : List Rw} {ws : List Int} {a k l i x e : Int} (h : Kept R ws a k l) (hi : 0 ≤ i ∧ i < l) (hv : Loaded R ws a i x e) : e = 0 ∧ ws[(a + 1 + i).toNat]? = some x := by
  cases hv with
  | none hn => exact absurd h.obj hn
  | arg k' l' h' hi' => rw [(h.det h').2] at hi'; exact absurd hi hi'
  | ok k' l' x' h' hi' hx => exact ⟨rfl, hx⟩
/-- What was allotted: an object, all noughts, where there was none. -/
theorem alloct_ok {R R' : List Rw} {ws ws' : List Int} {kind n a e : Int} (hA : AOk R ws) (h : Alloct R ws kind n a e R' ws') (he : e = 0) :
    Kept R' ws' a kind n ∧ ¬ IsObj R a ∧ objCount R' = objCount R + 1 ∧ (∀ i, 0 ≤ i → i < n → ws'[(a + 1 + i).toNat]? = some 0) ∧ (∀ b k l, Kept R ws b k l → Kept R' ws' b k l) ∧ (∀ b, IsObj R' b → b = a ∨ IsObj R b) ∧ (∀ b k l i, Kept R ws b k l → 0 ≤ i → i < l → ws'[(b + 1 + i).toNat]? = ws[(b + 1 + i).toNat]?) := by
  cases h with
  | arg h => exact absurd he (by decide)
  | room i s R' h ha => exact absurd he (by decide)
  | ok i s _ R' h ha hi hat =>
    have hA' := (AOk.alloct hA (Alloct.ok i s a R' h ha hi hat)).1
    obtain ⟨w, hw⟩ : ∃ w, w = wordsOf (ofN n) := ⟨_, rfl⟩
    obtain ⟨h1, h2, h3, h4, h5⟩ := alloc_objs hA.rows ha a w (by rw [hat]) hw
    have hobj : ObjAt R' a w := (h5 _ _).2 (.inr ⟨rfl, rfl⟩)
    obtain ⟨f1, f2, f3, _⟩ := hobj.facts h1
    have hnw : n < w := by rw [hw]; exact (ofN_words ⟨h.1, h.2.1⟩).1
    have hlen := hA.len
    have hget : ∀ j, j < ws.length → (zer (ws.set a.toNat (kind + 16 * n)) (a.toNat + 1) n.toNat)[j]? = if a.toNat + 1 ≤ j ∧ j < a.toNat + 1 + n.toNat then some 0 else (ws.set a.toNat (kind + 16 * n))[j]? := fun j hj => zer_get _ _ _ _ (by rw [List.length_set]; exact hj)
    have hfar : ∀ j, j < ws.length → (j : Int) < a ∨ a + w ≤ j → (zer (ws.set a.toNat (kind + 16 * n)) (a.toNat + 1) n.toNat)[j]? = ws[j]? := by
      intro j hj hfar
      rw [hget j hj, if_neg (by omega), List.getElem?_set_ne (by omega)]
    refine ⟨?_, h4, h3, ?_, ?_, ?_, ?_⟩
    · refine .mk kind n w hobj ?_ (by omega) (by omega) h.1 hnw
      rw [hget _ (by omega), if_neg (by omega), List.getElem?_set_self (by omega)]
    · intro j hj0 hj1
      rw [hget _ (by omega), if_pos (by omega)]
    · rintro b k l ⟨v, hb, hx, g1, g2, g3, g4⟩
      have hb' := (h5 b v).2 (.inl hb)
      have hne : b ≠ a := fun e => h4 (isObj_iff.2 ⟨v, e ▸ hb⟩)
      obtain ⟨q1, q2, q3, _⟩ := hb'.facts h1
      refine .mk k l v hb' ?_ g1 g2 g3 g4
      rw [hfar _ (by omega) (by rcases hobj.apart h1 hb' with ⟨h, _⟩ | h | h <;> omega)]
      exact hx
    · intro b hb
      obtain ⟨v, hb⟩ := isObj_iff.1 hb
      rcases (h5 b v).1 hb with hb | ⟨hb, _⟩
      · exact .inr (isObj_iff.2 ⟨v, hb⟩)
      · exact .inl hb
    · rintro b k l j ⟨v, hb, hx, g1, g2, g3, g4⟩ hj0 hj1
      have hb' := (h5 b v).2 (.inl hb)
      have hne : b ≠ a := fun e => h4 (isObj_iff.2 ⟨v, e ▸ hb⟩)
      obtain ⟨q1, q2, q3, _⟩ := hb'.facts h1
      exact hfar _ (by omega) (by rcases hobj.apart h1 hb' with ⟨h, _⟩ | h | h <;> omega)
theorem alloct_err {R R' : List Rw} {ws ws' : List Int} {kind n a e : Int} (hA : AOk R ws) (h : Alloct R ws kind n a e R' ws') (hroom : objCount R < R.length) : e = if 0 ≤ n ∧ n ≤ 31 ∧ 1 ≤ kind ∧ kind ≤ 6 then 0 else 1 := by
  cases h with
  | arg h => rw [if_neg h]
  | room i s R' h ha => obtain ⟨_, h2⟩ := full_count hA.rows (ofN_slots n) ha; omega
  | ok i s _ R' h ha hi hat => rw [if_pos h]
end Go.Proofs.YtolamdalijjlnaaGreatDoor
/-
  Layer 9: a heap made, and a cycle begun.
-/
namespace Go.Proofs.YtolamdalijjlnaaGreatDoor

open Go Go.LX
set_option maxRecDepth 100000
set_option linter.unusedVariables false
set_option linter.unusedSimpArgs false

theorem zer_all (ws : List Int) : zer ws 0 ws.length = List.replicate ws.length 0 := by
  apply List.ext_getElem?
  intro i
  by_cases h : i < ws.length
  · rw [zer_get _ _ _ _ h, if_pos (by omega), List.getElem?_replicate, if_pos h]
  · rw [List.getElem?_eq_none (by rw [zer_length]; omega), List.getElem?_eq_none (by rw [List.length_replicate]; omega)]
theorem HM.new {N W : Int} (h2 : 2 ≤ N) (h8 : N ≤ 128) (hW : W = 32 * N) {L D Q : List PV} {z : ByteArray} (hL : L = rpv (List.replicate N.toNat (0, []))) (hD : D = ipv (List.replicate W.toNat 0)) (hQ : Q = ipv (List.replicate W.toNat 0)) (hz : z = ⟨(enc []).toArray⟩) :
    HM (List.replicate N.toNat (0, [])) (List.replicate W.toNat 0) (List.replicate W.toNat 0) [] N W L D Q z :=
  ⟨by rw [show W.toNat = 32 * N.toNat by omega]; exact AOk.new _, fun a k l hk => absurd hk.obj6 (new_none _ _), by rw [List.length_replicate]; omega, by rw [List.length_replicate]; omega, hW, hL, hD, hQ, by rw [List.length_replicate]; omega, hz, fun x hx => (by cases hx), Nat.zero_le _⟩
set_option maxHeartbeats 2000000 in
theorem newH_lx (N W : Int) (h2 : 2 ≤ N) (h8 : N ≤ 128) (hW : W = 32 * N) (L D Q : List PV) (z : ByteArray) (hL : L = rpv (List.replicate N.toNat (0, []))) (hD : D = ipv (List.replicate W.toNat 0)) (hQ : Q = ipv (List.replicate W.toNat 0)) (hz : z = ⟨(enc []).toArray⟩) : CallF (fun _ => Tryz.prog) 15 [.p (.int .i64 (.sym N))] [] 0 (fun r h n => r = .tup [.ptr 0 (.lit 0), .p (.int .i64 (.lit 0))] ∧ h = [(0, .mix [.ptr 1 (.lit 0), .ptr 5 (.lit 0), .sl 6 3 1 (.lit 0) (.sym W), .p (.int .i64 (.sym 0)), .p (.int .i64 (.sym 0)), .p (.int .i64 (.sym 0))]), (1, .mix [.ptr 2 (.lit 0), .sl 4 3 1 (.lit 0) (.sym W)]), (2, .mix [.sl 3 161 2 (.lit 0) (.sym N)]), (3, .pure true L), (4, .pure true D), (5, .pure false [.str fun _ => z, .bool false]), (6, .pure true Q)] ∧ n = 7) := by
  refine callF_of_body tok Tryz.func15 (by kernel_rfl) rfl rfl rfl ?_; conv => cbv
  refine callF_frame (newA_lx N W h2 h8 hW L D hL hD) [] rfl trivial rfl rfl (fun r h' n' ⟨e1, e2, e3⟩ => ?_)
  subst e1 e2 e3
  conv => cbv
  refine callF_frame greyNew_lx [] rfl trivial rfl rfl (fun r h' n' hrr => ?_)
  obtain ⟨z1, e1, e2, e3, hz1⟩ := hrr
  subst e1 e2 e3
  obtain rfl : z1 = z := by rw [hz1, hz]
  have hA0 : AOk (List.replicate N.toNat ((0, []) : Rw)) (List.replicate W.toNat 0) := by rw [show W.toNat = 32 * N.toNat by omega]; exact AOk.new _
  conv => cbv
  refine callF_frame (wordsA_lx (List.replicate N.toNat ((0, []) : Rw)) (List.replicate W.toNat 0) N W L D hL hD (by rw [List.length_replicate]; omega) (by rw [List.length_replicate]; omega) hA0 hW) [(0, 0), (1, 1), (2, 2), (3, 3)] rfl (by simp [hmapOk, nget, hget, renB, okB, renV, renVs, rn, okVs, okV]) rfl rfl (fun r h' n' ⟨e1, e2, e3⟩ => ?_)
  subst e1 e2 e3
  conv => cbv
  refine Need.mk ⟨by show 0 ≤ W; omega, Int.le_refl _, by show W * 8 ≤ 140737488355328; omega, by show W ≤ 9223372036854775807; omega⟩ ?_
  conv => cbv
  refine Upd.mk fun Q0 hQ0 => ?_
  have hle : pvles Q0 Q := by
    have hQ0 : Q0 = repsP [.int .i64 (.lit 0)] W.toNat := hQ0
    rw [hQ0, hQ]; exact zero_ipv _
  unfold pvles at hle
  clear hQ0
  conv => cbv
  refine RetF.mk [.ptr 0 (.lit 0), .p (.int .i64 (.lit 0))] [(0, .mix [.ptr 1 (.lit 0), .ptr 5 (.lit 0), .sl 6 3 1 (.lit 0) (.sym W), .p (.int .i64 (.sym 0)), .p (.int .i64 (.sym 0)), .p (.int .i64 (.sym 0))]), (1, .mix [.ptr 2 (.lit 0), .sl 4 3 1 (.lit 0) (.sym W)]), (2, .mix [.sl 3 161 2 (.lit 0) (.sym N)]), (3, .pure true L), (4, .pure true D), (5, .pure false [.str fun _ => z1, .bool false]), (6, .pure true Q)] 7 (Re.at [(6, 0), (0, 1), (1, 2), (2, 3), (3, 4), (4, 5), (5, 6)] []) rfl ⟨rfl, rfl, rfl⟩
/-- The state with which a cycle begins, its roots shaded. -/
def begS (R : List Rw) (W : Int) (A : List Int) : List Int × List Int × Bool := A.foldl (fun s a => shade R 1 a s) (List.replicate W.toNat 0, [], false)
set_option maxHeartbeats 4000000 in
theorem begin_lx (R : List Rw) (ws C G : List Int) (N W ph sp cy : Int) (L D Q : List PV) (z : ByteArray) (ov : Bool) (h : HM R ws C G N W L D Q z) (o : Unit → Obj) (ho : IsPow o) (A : List Int) (k : Int) (rs : List PV) (hrs : rs = ipv A) (hk : k = A.length) (hA : (A.length : Int) < 1000000) (hph : ph = 0) : CallF (fun _ => Tryz.prog) 22 [.ptr 0 (.lit 0), .p (.vsl (.sym k) true rs)] [(0, .mix [.ptr 1 (.lit 0), .ptr 5 (.lit 0), .sl 6 3 1 (.lit 0) (.sym W), .p (.int .i64 (.sym ph)), .p (.int .i64 (.sym sp)), .p (.int .i64 (.sym cy))]), (1, .mix [.ptr 2 (.lit 0), .sl 4 3 1 (.lit 0) (.sym W)]), (2, .mix [.sl 3 161 2 (.lit 0) (.sym N)]), (3, .pure true L), (4, .pure true D), (5, .pure false [.str fun _ => z, .bool ov]), (6, .pure true Q), (7, .fix 0 o)] 8 (fun r h n => ∃ (C' G' : List Int) (ov' : Bool) (Q' : List PV) (z' : ByteArray), r = .p (.int .i64 (.lit 0)) ∧ h = [(0, .mix [.ptr 1 (.lit 0), .ptr 8 (.lit 0), .sl 6 3 1 (.lit 0) (.sym W), .p (.int .i64 (.sym 1)), .p (.int .i64 (.sym sp)), .p (.int .i64 (.sym cy))]), (1, .mix [.ptr 2 (.lit 0), .sl 4 3 1 (.lit 0) (.sym W)]), (2, .mix [.sl 3 161 2 (.lit 0) (.sym N)]), (3, .pure true L), (4, .pure true D), (8, .pure false [.str fun _ => z', .bool ov']), (6, .pure true Q'), (7, .fix 0 o)] ∧ n = 9 ∧ HM R ws C' G' N W L D Q' z' ∧ (C', G', ov') = begS R W A) := by
  have hCl := h.c; have hWn := h.w; have hNr := h.n; have hRr := h.r
  have hQl : Q.length = C.length := by rw [h.q, ipv_length]
  refine callF_of_body tok Tryz.func22 (by kernel_rfl) rfl rfl rfl ?_; conv => cbv
  refine callF_frame (arena_lx R ws C G N W ph sp cy L D Q z ov) [(0, 0), (1, 1), (2, 2), (3, 3), (4, 4), (5, 5), (6, 6)] rfl (by simp [hmapOk, nget, hget, renB, okB, renV, renVs, rn, okVs, okV]) rfl rfl (fun r h' n' ⟨e1, e2, e3⟩ => ?_)
  subst e1 e2 e3
  conv => cbv
  refine Br.mk (fun g => ?_) (fun g => ?_)
  case refine_1 =>
    have g : ph ≠ 0 := g
    exact absurd hph g
  conv => cbv
  refine Need.mk ⟨Int.le_refl _, by show 0 ≤ W; omega, by show 0 + W * 1 ≤ (Q.length : Int); omega⟩ ?_
  conv => cbv
  obtain ⟨Q0, hQ0⟩ : ∃ Q0, Q0 = ipv (List.replicate W.toNat 0) := ⟨_, rfl⟩
  refine Upd.mk fun Q2 hQ2 => ?_
  have hle : pvles Q2 Q0 := by
    have hQ2 : Q2 = updL Q 0 (repsP [.int .i64 (.lit 0)] W.toNat) := hQ2
    rw [hQ2, hQ0, h.q, show W.toNat = C.length by omega, ← zer_all]
    exact upd_zer _ _ _ _ (pvles_refl _)
  unfold pvles at hle
  clear hQ2
  conv => cbv
  refine callF_frame greyNew_lx [] rfl trivial rfl rfl (fun r h' n' hrr => ?_)
  obtain ⟨z1, e1, e2, e3, hz1⟩ := hrr
  subst e1 e2 e3
  have hM0 : HM R ws (List.replicate W.toNat 0) [] N W L D Q0 z1 := ⟨h.a, h.k, h.n, h.r, h.w, h.l, h.d, hQ0, by rw [List.length_replicate]; omega, hz1, fun x hx => (by cases hx), Nat.zero_le _⟩
  conv => cbv
  refine LoopF.mk (fun kk s => ∃ (i : Int) (C' G' : List Int) (ov' : Bool) (Q' : List PV) (z' : ByteArray), s = ⟨.ptr 0 (.lit 0) :: (undefs 25 ++ .p (.vsl (.sym k) true rs) :: .p (.int .i64 (.sym k)) :: .p (.int .i64 (.sym i)) :: undefs 7), [(0, .mix [.ptr 1 (.lit 0), .ptr 8 (.lit 0), .sl 6 3 1 (.lit 0) (.sym W), .p (.int .i64 (.sym 1)), .p (.int .i64 (.sym sp)), .p (.int .i64 (.sym cy))]), (1, .mix [.ptr 2 (.lit 0), .sl 4 3 1 (.lit 0) (.sym W)]), (2, .mix [.sl 3 161 2 (.lit 0) (.sym N)]), (3, .pure true L), (4, .pure true D), (8, .pure false [.str fun _ => z', .bool ov']), (6, .pure true Q'), (7, .fix 0 o)], 9⟩ ∧ 0 ≤ i ∧ i ≤ k ∧ HM R ws C' G' N W L D Q' z' ∧ (C', G', ov') = begS R W (A.take i.toNat) ∧ kk = (k - i).toNat) k.toNat _
    (Re.at [(0, 0), (1, 1), (2, 2), (3, 3), (4, 4), (6, 6), (7, 7), (8, 8)] []) ⟨0, _, _, _, Q0, z1, rfl, by omega, by omega, hM0, rfl, by omega⟩ ?_
  rintro kk s ⟨i, C', G', ov', Q', z', rfl, hi0, hi1, h2, hS, hk2⟩
  conv => cbv
  refine Br.mk (fun gi => ?_) (fun gi => ?_)
  · have gi : i < k := gi
    obtain ⟨k', rfl⟩ : ∃ k', kk = k' + 1 := ⟨kk - 1, by omega⟩
    obtain ⟨a, ha⟩ : ∃ a, A[i.toNat]? = some a := ⟨_, List.getElem?_eq_getElem (by omega)⟩
    have hc : rs[i.toNat]? = some (.int .i64 (.sym a)) := by rw [hrs]; exact ipv_get ha
    conv => cbv
    refine Need.mk ⟨hi0, gi⟩ ?_
    conv => cbv
    refine Cell.at i _ hc (by simp [I.val]) rfl ?_
    conv => cbv
    refine callF_frame (shade_lx R ws C' G' N W 1 sp cy L D Q' z' ov' h2 o ho a) [(0, 0), (1, 1), (2, 2), (3, 3), (4, 4), (5, 8), (6, 6), (7, 7)] rfl (by simp [hmapOk, nget, hget, renB, okB, renV, renVs, rn, okVs, okV]) rfl rfl (fun r h' n' hrr => ?_)
    obtain ⟨C2, G2, ov2, Q2, z2, e1, e2, e3, h3, hS2⟩ := hrr
    subst e1 e2 e3
    have hS3 : (C2, G2, ov2) = begS R W (A.take (i.toNat + 1)) := by
      rw [hS2, hS]
      unfold begS
      rw [List.take_add_one, ha, Option.toList_some, List.foldl_append]; rfl
    conv => cbv
    refine Fit.mk (by show (-9223372036854775808 : Int) ≤ i + 1; omega) (by show i + 1 ≤ 9223372036854775807; omega) fun i2 hi2 => ?_
    have hi2 : i2 = i + 1 := hi2
    rw [show i.toNat + 1 = i2.toNat by omega] at hS3
    conv => cbv
    refine Again.mk k' _ (Nat.lt_succ_self _) (Re.at [(0, 0), (1, 1), (2, 2), (3, 3), (4, 4), (6, 6), (7, 7), (8, 8)] []) ⟨i2, C2, G2, ov2, Q2, z2, rfl, by omega, by omega, h3, hS3, by omega⟩
  · have gi : ¬ i < k := gi
    rw [List.take_of_length_le (by omega)] at hS
    conv => cbv
    refine RetF.mk [.p (.int .i64 (.lit 0))] [(0, .mix [.ptr 1 (.lit 0), .ptr 8 (.lit 0), .sl 6 3 1 (.lit 0) (.sym W), .p (.int .i64 (.sym 1)), .p (.int .i64 (.sym sp)), .p (.int .i64 (.sym cy))]), (1, .mix [.ptr 2 (.lit 0), .sl 4 3 1 (.lit 0) (.sym W)]), (2, .mix [.sl 3 161 2 (.lit 0) (.sym N)]), (3, .pure true L), (4, .pure true D), (8, .pure false [.str fun _ => z', .bool ov']), (6, .pure true Q'), (7, .fix 0 o)] 9 (Re.at [(0, 0), (1, 1), (2, 2), (3, 3), (4, 4), (6, 6), (7, 7), (8, 8)] []) rfl ⟨C', G', ov', Q', z', rfl, rfl, rfl, h2, hS⟩
/-- An object is looked at. -/
def scanS (R : List Rw) (ph a : Int) (X : List Int) (s : List Int × List Int × Bool) : List Int × List Int × Bool := ((X.foldl (fun s w => shadeW R ph w s) s).1.set a.toNat 2, (X.foldl (fun s w => shadeW R ph w s) s).2)
end Go.Proofs.YtolamdalijjlnaaGreatDoor
/-
  Layer 9: a step, where something is grey; HeapNil.
-/
namespace Go.Proofs.YtolamdalijjlnaaGreatDoor

open Go Go.LX
set_option maxRecDepth 100000
set_option linter.unusedVariables false
set_option linter.unusedSimpArgs false

theorem HM.pop {R : List Rw} {ws C A : List Int} {v : Int} {N W : Int} {L D Q : List PV} {z z' : ByteArray} (h : HM R ws C (A ++ [v]) N W L D Q z) (hz : z' = ⟨(enc A).toArray⟩) : HM R ws C A N W L D Q z' ∧ 0 ≤ v ∧ v < W :=
  ⟨⟨h.a, h.k, h.n, h.r, h.w, h.l, h.d, h.q, h.c, hz, fun x hx => h.g x (List.mem_append_left _ hx), by have := h.g8; rw [List.length_append] at this; omega⟩, h.g v (by simp)⟩
end Go.Proofs.YtolamdalijjlnaaGreatDoor
/-
  Layer 9: what a step does, in pure words.
-/
namespace Go.Proofs.YtolamdalijjlnaaGreatDoor

open Go Go.LX
set_option maxRecDepth 100000
set_option linter.unusedVariables false
set_option linter.unusedSimpArgs false

/-- What is looked at next. -/
inductive NextG (R : List Rw) (C G : List Int) (ov : Bool) : Int → Bool → List Int → Bool → Prop
  | pop (A : List Int) (v : Int) (h : G = A ++ [v]) : NextG R C G ov v true A ov
  | none (h : G = []) (ho : ov = false) : NextG R C G ov 0 false [] false
  | found (i : Nat) (a : Int) (h : G = []) (ho : ov = true) (ha : (objs R)[i]? = some a) (hc : C[a.toNat]? = some 1) (hn : ∀ j b, j < i → (objs R)[j]? = some b → C[b.toNat]? ≠ some 1) : NextG R C G ov a true [] true
  | settle (h : G = []) (ho : ov = true) (hn : ∀ (j : Nat) b, (objs R)[j]? = some b → C[b.toNat]? ≠ some 1) : NextG R C G ov 0 false [] false
theorem NextG.det {R : List Rw} {C G G1 G2 : List Int} {ov o1 o2 b1 b2 : Bool} {v1 v2 : Int} (h1 : NextG R C G ov v1 b1 G1 o1) (h2 : NextG R C G ov v2 b2 G2 o2) : v1 = v2 ∧ b1 = b2 ∧ G1 = G2 ∧ o1 = o2 := by
  cases h1 with
  | pop A v h => cases h2 with
    | pop A' v' h' =>
      obtain ⟨rfl, e⟩ := List.append_inj' (h.symm.trans h') rfl
      obtain rfl : v1 = v2 := by simpa using e
      exact ⟨rfl, rfl, rfl, rfl⟩
    | none h' _ => rw [h'] at h; exact absurd h.symm (by simp)
    | found i a h' _ _ _ _ => rw [h'] at h; exact absurd h.symm (by simp)
    | settle h' _ _ => rw [h'] at h; exact absurd h.symm (by simp)
  | none h ho => cases h2 with
    | pop A' v' h' => rw [h] at h'; exact absurd h'.symm (by simp)
    | none _ _ => exact ⟨rfl, rfl, rfl, rfl⟩
    | found i a h' ho' _ _ _ => rw [ho] at ho'; cases ho'
    | settle h' ho' _ => rw [ho] at ho'; cases ho'
  | found i a h ho ha hc hn => cases h2 with
    | pop A' v' h' => rw [h] at h'; exact absurd h'.symm (by simp)
    | none _ ho' => rw [ho] at ho'; cases ho'
    | found i' a' h' ho' ha' hc' hn' =>
      obtain rfl : i = i' := by
        rcases Nat.lt_trichotomy i i' with q | q | q
        · exact absurd hc (hn' _ _ q ha)
        · exact q
        · exact absurd hc' (hn _ _ q ha')
      rw [ha] at ha'
      obtain rfl := Option.some.inj ha'
      exact ⟨rfl, rfl, rfl, rfl⟩
    | settle _ _ hn' => exact absurd hc (hn' _ _ ha)
  | settle h ho hn => cases h2 with
    | pop A' v' h' => rw [h] at h'; exact absurd h'.symm (by simp)
    | none _ ho' => rw [ho] at ho'; cases ho'
    | found i' a' h' ho' ha' hc' hn' => exact absurd hc' (hn _ _ ha')
    | settle _ _ _ => exact ⟨rfl, rfl, rfl, rfl⟩
/-- A box that nobody has reached, whose finaliser is due. -/
def Due (R : List Rw) (ws C : List Int) (a : Int) : Prop := (∃ l, Kept R ws a 5 l) ∧ C[a.toNat]? = some 0 ∧ ∃ x, Loaded R ws a 1 x 0 ∧ x ≠ 0
inductive NextF (R : List Rw) (ws C : List Int) : Int → Bool → Prop
  | found (i : Nat) (a : Int) (ha : (objs R)[i]? = some a) (hd : Due R ws C a) (hn : ∀ j b, j < i → (objs R)[j]? = some b → ¬ Due R ws C b) : NextF R ws C a true
  | none (hn : ∀ (j : Nat) b, (objs R)[j]? = some b → ¬ Due R ws C b) : NextF R ws C 0 false
theorem NextF.det {R : List Rw} {ws C : List Int} {b1 b2 : Bool} {v1 v2 : Int} (h1 : NextF R ws C v1 b1) (h2 : NextF R ws C v2 b2) : v1 = v2 ∧ b1 = b2 := by
  cases h1 with
  | found i a ha hd hn => cases h2 with
    | found i' a' ha' hd' hn' =>
      obtain rfl : i = i' := by
        rcases Nat.lt_trichotomy i i' with q | q | q
        · exact absurd hd (hn' _ _ q ha)
        · exact q
        · exact absurd hd' (hn _ _ q ha')
      rw [ha] at ha'
      obtain rfl := Option.some.inj ha'
      exact ⟨rfl, rfl⟩
    | none hn' => exact absurd hd (hn' _ _ ha)
  | none hn => cases h2 with
    | found i' a' ha' hd' hn' => exact absurd hd' (hn _ _ ha')
    | none _ => exact ⟨rfl, rfl⟩
/-- What is gone, or kept: kind, place, words, kept. -/
abbrev Gn := Int × Int × List Int × Bool
/-- A step of Mark. -/
inductive Marked (R : List Rw) (ws C G : List Int) (ov : Bool) (sp : Int) : List Gn → Int → Int → List Int → List Int → List Int → Bool → Prop
  | scan (v : Int) (A X C' G' : List Int) (o1 ov' : Bool) (hg : NextG R C G ov v true A o1) (hX : Wrds R ws v X) (hs : (C', G', ov') = scanS R 1 v X (C, A, o1)) : Marked R ws C G ov sp [] 1 sp ws C' G' ov'
  | keep (a : Int) (A X ws' C' G' : List Int) (o1 ov' : Bool) (hg : NextG R C G ov 0 false A o1) (hf : NextF R ws C a true) (hX : Wrds R ws a X) (hst : Stored R ws a 1 0 0 ws') (hs : (C', G', ov') = shade R 1 a (C, A, o1)) : Marked R ws C G ov sp [(5, a, X, true)] 1 sp ws' C' G' ov'
  | sweep (A : List Int) (o1 : Bool) (hg : NextG R C G ov 0 false A o1) (hf : NextF R ws C 0 false) : Marked R ws C G ov sp [] 2 0 ws C A o1
end Go.Proofs.YtolamdalijjlnaaGreatDoor
/-
  Layer 9: a step of Mark.
-/
namespace Go.Proofs.YtolamdalijjlnaaGreatDoor

open Go Go.LX
set_option maxRecDepth 100000
set_option linter.unusedVariables false
set_option linter.unusedSimpArgs false

theorem HM.over {R : List Rw} {ws C G : List Int} {N W : Int} {L D Q : List PV} {z z' : ByteArray} {G' : List Int} (h : HM R ws C G N W L D Q z) (hz : z' = ⟨(enc G').toArray⟩) (hG : G = [] ∧ G' = []) : HM R ws C G' N W L D Q z' :=
  ⟨h.a, h.k, h.n, h.r, h.w, h.l, h.d, h.q, h.c, hz, fun x hx => (by rw [hG.2] at hx; cases hx), (by rw [hG.2]; exact Nat.zero_le _)⟩
end Go.Proofs.YtolamdalijjlnaaGreatDoor
/-
  Layer 9: a step of Sweep; a step.
-/
namespace Go.Proofs.YtolamdalijjlnaaGreatDoor

open Go Go.LX
set_option maxRecDepth 100000
set_option linter.unusedVariables false
set_option linter.unusedSimpArgs false

def Wh (R : List Rw) (C : List Int) (p : Int) : Prop := p ∈ objs R ∧ C[p.toNat]? = some 0
/-- What is swept, from a place on. -/
inductive SweptTo (ws C : List Int) (R : List Rw) (p : Int) : Nat → List Gn → List Rw → Prop
  | zero : SweptTo ws C R p 0 [] R
  | skip (i : Nat) (out : List Gn) (R1 : List Rw) (h : SweptTo ws C R p i out R1) (hn : ¬ Wh R1 C (p + i)) : SweptTo ws C R p (i + 1) out R1
  | free (i : Nat) (out : List Gn) (R1 R2 : List Rw) (k : Int) (X : List Int) (h : SweptTo ws C R p i out R1) (hw : Wh R1 C (p + i)) (hk : KindR R1 ws (p + i) k) (hX : Wrds R1 ws (p + i) X) (hf : Freet R1 (p + i) 0 R2) : SweptTo ws C R p (i + 1) (out ++ [(k, p + i, X, false)]) R2
theorem SweptTo.le {ws C : List Int} {R R' : List Rw} {p : Int} {i : Nat} {out : List Gn} (h : SweptTo ws C R p i out R') : out.length ≤ i := by
  induction h with
  | zero => exact Nat.le_refl _
  | skip i out R1 h hn ih => omega
  | free i out R1 R2 k X h hw hk hX hf ih => rw [List.length_append]; simp; omega
theorem kept_freet {R R' : List Rw} {ws : List Int} {a e : Int} (hA : AOk R ws) (h : Freet R a e R') : ∀ b k l, Kept R' ws b k l → Kept R ws b k l := by
  cases h with
  | none _ => exact fun _ _ _ hk => hk
  | ok q s e he hs hat =>
    obtain ⟨_, _, _, g4⟩ := free_objs hA.rows he hs a hat
    rintro b k l ⟨w, h1, h2, h3, h4, h5, h6⟩
    exact .mk k l w ((g4 b w).1 h1).1 h2 h3 h4 h5 h6
theorem HM.freet {R R' : List Rw} {ws C G : List Int} {N W : Int} {L L' D Q : List PV} {z : ByteArray} {a e : Int} (h : HM R ws C G N W L D Q z) (hf : Freet R a e R') (hL : L' = rpv R') : HM R' ws C G N W L' D Q z := by
  obtain ⟨h1, h2⟩ := h.a.freet hf
  exact ⟨h1, fun b k l hb => h.k b k l (kept_freet h.a hf b k l hb), by rw [h2]; exact h.n, by rw [h2]; exact h.r, h.w, hL, h.d, h.q, h.c, h.z, h.g, h.g8⟩
/-- Where Sweep stands behind a step. -/
def swPh (sp W : Int) : Int := if W ≤ (sp + 1) * 32 then 0 else 2
def swCy (sp W cy : Int) : Int := if W ≤ (sp + 1) * 32 then cy + 1 else cy
inductive Stepd (R : List Rw) (ws C G : List Int) (ov : Bool) (ph sp cy W : Int) : List Gn → List Rw → List Int → List Int → List Int → Bool → Int → Int → Int → Prop
  | mark (out : List Gn) (ws' C' G' : List Int) (ov' : Bool) (ph' sp' : Int) (h : ph = 1) (hm : Marked R ws C G ov sp out ph' sp' ws' C' G' ov') : Stepd R ws C G ov ph sp cy W out R ws' C' G' ov' ph' sp' cy
  | sweep (out : List Gn) (R' : List Rw) (h : ph = 2) (hs : SweptTo ws C R (32 * sp) 32 out R') : Stepd R ws C G ov ph sp cy W out R' ws C G ov (swPh sp W) (sp + 1) (swCy sp W cy)
  | idle (h : ph ≠ 1) (h2 : ph ≠ 2) : Stepd R ws C G ov ph sp cy W [] R ws C G ov ph sp cy
end Go.Proofs.YtolamdalijjlnaaGreatDoor
/-
  Layer 9: while it is Mark, no black object leads to a white one.
-/
namespace Go.Proofs.YtolamdalijjlnaaGreatDoor

open Go Go.LX
set_option maxRecDepth 100000
set_option linter.unusedVariables false
set_option linter.unusedSimpArgs false

def Dk (R : List Rw) (ws C : List Int) : Prop := ∀ (a x i : Int), a ∈ objs R → C[a.toNat]? = some 2 → Loaded R ws a i x 0 → x % 2 = 1 → (x - 1) / 2 ∈ objs R → C[((x - 1) / 2).toNat]? ≠ some 0
/-- Colours that went on: nothing is white anew, nothing black anew. -/
def CLe (C C' : List Int) : Prop := (∀ p : Nat, C'[p]? = some 0 → C[p]? = some 0) ∧ (∀ p : Nat, C'[p]? = some 2 → C[p]? = some 2)
theorem CLe.refl (C : List Int) : CLe C C := ⟨fun _ h => h, fun _ h => h⟩
theorem CLe.trans {A B C : List Int} (h : CLe A B) (k : CLe B C) : CLe A C := ⟨fun p q => h.1 p (k.1 p q), fun p q => h.2 p (k.2 p q)⟩
theorem shade_le (R : List Rw) (ph a : Int) (s : List Int × List Int × Bool) : CLe s.1 (shade R ph a s).1 := by
  unfold shade
  split
  · rename_i hc
    have h0 := hc.2.2
    have hl := (List.getElem?_eq_some_iff.1 h0).1
    refine ⟨fun p hp => ?_, fun p hp => ?_⟩
    · by_cases e : a.toNat = p
      · subst e; exact h0
      · have hp : (s.1.set a.toNat 1)[p]? = some 0 := hp
        rw [List.getElem?_set_ne e] at hp; exact hp
    · have hp : (s.1.set a.toNat 1)[p]? = some 2 := hp
      by_cases e : a.toNat = p
      · subst e
        rw [List.getElem?_set_self hl] at hp
        exact absurd (Option.some.inj hp) (by decide)
      · rw [List.getElem?_set_ne e] at hp; exact hp
  · exact CLe.refl _
theorem shade_hit (R : List Rw) (a : Int) (s : List Int × List Int × Bool) (ha : a ∈ objs R) : (shade R 1 a s).1[a.toNat]? ≠ some 0 := by
  unfold shade
  split
  · rename_i hc
    have hl := (List.getElem?_eq_some_iff.1 hc.2.2).1
    show (s.1.set a.toNat 1)[a.toNat]? ≠ some 0
    rw [List.getElem?_set_self hl]
    exact fun h => absurd (Option.some.inj h) (by decide)
  · rename_i hc
    exact fun h => hc ⟨rfl, ha, h⟩
theorem shadeW_le (R : List Rw) (ph w : Int) (s : List Int × List Int × Bool) : CLe s.1 (shadeW R ph w s).1 := by
  unfold shadeW
  split
  · exact shade_le _ _ _ _
  · exact CLe.refl _
theorem shadeW_hit (R : List Rw) (w : Int) (s : List Int × List Int × Bool) (hw : w % 2 = 1) (ha : (w - 1) / 2 ∈ objs R) : (shadeW R 1 w s).1[((w - 1) / 2).toNat]? ≠ some 0 := by
  unfold shadeW
  rw [if_pos hw]
  exact shade_hit _ _ _ ha
theorem Dk.le {R : List Rw} {ws C C' : List Int} (h : Dk R ws C) (hc : CLe C C') : Dk R ws C' :=
  fun a x i ha h2 hl hx hp h0 => h a x i ha (hc.2 _ h2) hl hx hp (hc.1 _ h0)
theorem stored_kept {R : List Rw} {ws ws' : List Int} {a i x e : Int} (hA : AOk R ws) (h : Stored R ws a i x e ws') : ∀ b k l, Kept R ws' b k l → Kept R ws b k l := by
  cases h with
  | none _ => exact fun _ _ _ hk => hk
  | arg _ _ _ _ => exact fun _ _ _ hk => hk
  | ok k l hka hi =>
    intro b k' l' hb
    have hbn := hka.bounds hA
    obtain ⟨w, q1, q2, q3, q4, q5, q6⟩ := hb
    have hne : (a + 1 + i).toNat ≠ b.toNat := by
      obtain ⟨wa, p1, p2, p3, p4, p5, p6⟩ := hka
      have := within_not hA.rows p1 q1 (j := a + 1 + i) (by omega) (by omega)
      have := q1.facts hA.rows
      omega
    rw [List.getElem?_set_ne hne] at q2
    exact .mk k' l' w q1 q2 q3 q4 q5 q6
theorem stored_loaded {R : List Rw} {ws ws' : List Int} {a i x e b j y : Int} (hA : AOk R ws) (h : Stored R ws a i x e ws') (hl : Loaded R ws' b j y 0) : (e = 0 ∧ y = x) ∨ Loaded R ws b j y 0 := by
  have hk := stored_kept hA h
  cases h with
  | none _ => exact .inr hl
  | arg _ _ _ _ => exact .inr hl
  | ok k l hka hi =>
    cases hl with
    | ok k' l' _ hK hj hy =>
      have hbn := hka.bounds hA
      have hlen := hA.len
      rcases set_get (by omega) hy with ⟨_, e⟩ | ⟨_, e⟩
      · exact .inl ⟨rfl, e⟩
      · exact .inr (.ok k' l' y (hk _ _ _ hK) hj e)
theorem Dk.store {R : List Rw} {ws ws' C C' G G' : List Int} {ov ov' : Bool} {a i x e : Int} (hA : AOk R ws) (h : Dk R ws C) (hs : Stored R ws a i x e ws') (hc : (C', G', ov') = storeS R 1 e x (C, G, ov)) : Dk R ws' C' := by
  have hC : C' = (storeS R 1 e x (C, G, ov)).1 := congrArg Prod.fst hc
  have hle : CLe C C' := by
    rw [hC]; unfold storeS
    split
    · exact shadeW_le R 1 x (C, G, ov)
    · exact CLe.refl _
  intro b y j hb h2 hl hy hp
  rcases stored_loaded hA hs hl with ⟨he, rfl⟩ | hl
  · rw [hC]; unfold storeS
    rw [if_pos he]
    exact shadeW_hit R y _ hy hp
  · exact (h.le hle) b y j hb h2 hl hy hp
theorem Dk.alloc {R R' : List Rw} {ws ws' C C' : List Int} {kind n a e ph : Int} (hA : AOk R ws) (hCl : (C.length : Int) = 32 * R.length) (h : Dk R ws C) (hs : Alloct R ws kind n a e R' ws') (hph : ph = 1) (hc : C' = allocC ph a e C) : Dk R' ws' C' := by
  by_cases he : e = 0
  · obtain ⟨h1, h2, _, h4, h5, h6, h7⟩ := alloct_ok hA hs he
    obtain ⟨hA', hlR⟩ := hA.alloct hs
    have hab := h1.bounds hA'
    have hC : C' = C.set a.toNat 2 := by rw [hc, allocC, if_pos he, hph]; rfl
    have hself : C'[a.toNat]? = some 2 := by rw [hC]; exact List.getElem?_set_self (by omega)
    intro b x i hb hb2 hl hx hp
    have hpl : (x - 1) / 2 = a ∨ ((x - 1) / 2 ≠ a ∧ (x - 1) / 2 ∈ objs R) := by
      by_cases q : (x - 1) / 2 = a
      · exact .inl q
      · rcases h6 _ ((obj_iff hA' _).1 hp) with q2 | q2
        · exact .inl q2
        · exact .inr ⟨q, (obj_iff hA _).2 q2⟩
    rcases h6 b ((obj_iff hA' b).1 hb) with rfl | hbo
    · exfalso
      cases hl with
      | ok k l _ hK hi hxw =>
        obtain ⟨_, rfl⟩ := hK.det9 h1
        rw [h4 i hi.1 hi.2] at hxw
        obtain rfl := Option.some.inj hxw
        omega
    · have hbR := (obj_iff hA b).2 hbo
      have hbb := obj_bd hA hbR
      have hne : b ≠ a := fun q => h2 (q ▸ hbo)
      have hlR : Loaded R ws b i x 0 := by
        cases hl with
        | ok k l _ hK hi hxw =>
          obtain ⟨k', l', hK'⟩ := Kept.of hA hbo
          obtain ⟨_, rfl⟩ := (h5 b k' l' hK').det9 hK
          exact .ok k' l' x hK' hi (by rw [← h7 b k' l' i hK' hi.1 hi.2]; exact hxw)
      have hcb : C[b.toNat]? = some 2 := by rw [hC, List.getElem?_set_ne (by omega)] at hb2; exact hb2
      rcases hpl with q | ⟨q1, q2⟩
      · rw [q, hself]; exact fun k => absurd (Option.some.inj k) (by decide)
      · have hpb := obj_bd hA q2
        rw [hC, List.getElem?_set_ne (by omega)]
        exact h b x i hbR hcb hlR hx q2
  · have hg := alloct_gen9 hA hs
    rcases hg with ⟨_, _, rfl, rfl⟩ | ⟨q, _⟩
    · rw [hc, allocC, if_neg he]; exact h
    · exact absurd q he
end Go.Proofs.YtolamdalijjlnaaGreatDoor
/-
  Laws of layer 8.
-/
namespace Go.Proofs.YtolamdalijjlnaaGreatDoor

open Go Go.LX
set_option maxRecDepth 100000
set_option linter.unusedVariables false

/-- Places in a row. -/
def row (t : Int) : Nat → List Int
  | 0 => []
  | k + 1 => row t k ++ [t + k]
end Go.Proofs.YtolamdalijjlnaaGreatDoor
/-
  The document's own list of places.
-/
namespace Go.Proofs.YtolamdalijjlnaaGreatDoor

open Go Go.LX
set_option maxRecDepth 100000
set_option linter.unusedVariables false

def i64s : List Int → List PV
  | [] => []
  | x :: l => .int .i64 (.sym x) :: i64s l
theorem i64s_length : ∀ l, (i64s l).length = l.length
  | [] => rfl
  | x :: l => by simp [i64s, i64s_length l]
theorem i64s_app : ∀ a b, i64s (a ++ b) = i64s a ++ i64s b
  | [], b => rfl
  | x :: a, b => by simp [i64s, i64s_app a b]
set_option maxHeartbeats 2000000 in
theorem refPush_lx (A : List Int) (a m : Int) (la : List PV) (ov : Bool) (hm : m = A.length) (hla : la = i64s A) (hA8 : A.length ≤ 8) :
    CallF (fun _ => Tryz.prog) 122 [.ptr 0 (.lit 0), .p (.int .i64 (.sym a))] [(0, .mix [.p (.vsl (.sym m) true la), .p (.bool ov)])] 1 (fun r h n => ∃ (b ov' : Bool) (m' : Int) (la' : List PV) (A' : List Int), r = .p (.bool b) ∧ h = [(0, .mix [.p (.vsl (.sym m') true la'), .p (.bool ov')])] ∧ n = 1 ∧ m' = A'.length ∧ la' = i64s A' ∧ (A.length < 8 → b = true ∧ A' = A ++ [a] ∧ ov' = ov) ∧ (8 ≤ A.length → b = false ∧ A' = A ∧ ov' = true)) := by
  refine callF_of_body tok Tryz.func122 (by kernel_rfl) rfl rfl rfl ?_; conv => cbv
  refine Br.mk (fun g => ?_) (fun g => ?_)
  · have g : 8 ≤ m := g
    conv => cbv
    refine RetF.mk [.p (.bool false)] [(0, .mix [.p (.vsl (.sym m) true la), .p (.bool true)])] 1 (Re.at [(0, 0)] []) rfl ⟨false, true, m, la, A, rfl, rfl, rfl, hm, hla, fun h => by omega, fun _ => ⟨rfl, rfl, rfl⟩⟩
  · have g : ¬ 8 ≤ m := g
    have hlal : (la.length : Int) = m := by rw [hla, i64s_length]; omega
    conv => cbv
    refine Need.mk (by show (la.length : Int) = m * 1; omega) ?_
    conv => cbv
    refine Need.mk ⟨by show m * 8 ≤ 140737488355328; omega, by show m ≤ 9223372036854775807; omega⟩ ?_
    conv => cbv
    refine Room.new rfl ?_
    conv => cbv
    refine Room.new ⟨by show (la.length : Int) = m * 1; omega, by show (m + 1) * 8 ≤ 140737488355328; omega, by show m + 1 ≤ 9223372036854775807; omega⟩ ?_
    conv => cbv
    refine Upd.mk fun L2 hL2 => ?_
    have hL3 : L2 = i64s (A ++ [a]) := by rw [hL2, hla, i64s_app]; rfl
    conv => cbv
    refine Sum.mk fun m2 hm2 => ?_
    have hm2 : m2 = m + 1 := hm2
    conv => cbv
    refine RetF.mk [.p (.bool true)] [(0, .mix [.p (.vsl (.sym m2) true L2), .p (.bool ov)])] 1 (Re.at [(0, 0)] []) rfl ⟨true, ov, m2, L2, A ++ [a], rfl, rfl, rfl, by simp; omega, hL3, fun _ => ⟨rfl, rfl, rfl⟩, fun h => by omega⟩
end Go.Proofs.YtolamdalijjlnaaGreatDoor
/-
  Layer 7: the reference's arena.
-/
namespace Go.Proofs.YtolamdalijjlnaaGreatDoor

open Go Go.LX
set_option maxRecDepth 100000
set_option linter.unusedVariables false
set_option linter.unusedSimpArgs false

theorem rok_of {R : List Rw} (h : RowsOk R) : ROk R := fun e he => ⟨(h e he).1, fun hne => by
  obtain ⟨h1, h2, _⟩ := (h e he).2 hne
  refine ⟨?_, h2⟩
  intro h0
  rw [h0] at h2
  exact hne (List.length_eq_zero_iff.1 h2)⟩
theorem slot_spec {R : List Rw} {a w : Int} {e : Rw} (h0 : 0 ≤ a) (h1 : a < 32 * R.length) (he : R[(a / 32).toNat]? = some e) (hw : w = wordsOf (clsOf e)) :
    ((w = 0 ∨ (a % 32) % w ≠ 0) → SlotAt R a 0 0 false) ∧ (w ≠ 0 → (a % 32) % w = 0 → SlotAt R a (a / 32) ((a % 32) / w) true) := by
  have hw5 := wordsOf_cases (clsOf e)
  rw [← hw] at hw5
  constructor
  · intro hno
    refine .no (fun q' s' e' he' hs' hlt' hat' => ?_)
    have hs0 : 0 ≤ (s' : Int) * wordsOf (clsOf e') := Int.mul_nonneg (by omega) (wordsOf_bd _).1
    have : q' = (a / 32).toNat := by omega
    subst this
    rw [he] at he'
    cases he'
    rw [← hw] at hat' hs0 hlt' hs'
    rcases hno with h | h
    · exact hs' h
    · have : a % 32 = s' * w := by omega
      rw [this, Int.mul_emod_left] at h
      exact h rfl
  · intro hw0 hz
    have hwz : w * ((a % 32) / w) + (a % 32) % w = a % 32 := Int.mul_ediv_add_emod (a % 32) w
    have hd0 : 0 ≤ (a % 32) / w := Int.ediv_nonneg (by omega) (by omega)
    obtain ⟨sn, hsn⟩ : ∃ sn : Nat, (sn : Int) = (a % 32) / w := ⟨((a % 32) / w).toNat, by omega⟩
    rw [← hsn] at hwz
    have hmul : (sn : Int) * w = a % 32 := by rw [Int.mul_comm]; omega
    rw [← hsn, show a / 32 = ((a / 32).toNat : Int) by omega]
    refine .is (a / 32).toNat sn e he ?_ ?_ ?_
    · rw [← hw]; exact hw0
    · rw [← hw, hmul]; omega
    · rw [← hw, hmul]; omega
theorem obj_in {R : List Rw} (hR : RowsOk R) {a : Int} (h : IsObj R a) : 0 ≤ a ∧ a < 32 * R.length := by
  obtain ⟨w, h⟩ := isObj_iff.1 h
  obtain ⟨h1, h2, h3, _⟩ := h.facts hR
  omega
set_option maxHeartbeats 4000000 in
theorem ris_lx (R : List Rw) (vs : List Int) (n at_ W : Int) (C B V : List PV) (hC : C = cpv R) (hB : B = bpv R) (hV : V = ipv vs) (hn : n = R.length) (hR : R.length ≤ 1000) (hA : AOk R vs) (hW : W = 32 * n) : CallF (fun _ => Tryz.prog) 89 [.ptr 0 (.lit 0), .p (.int .i64 (.sym at_))] [(0, .mix [.ptr 1 (.lit 0), .sl 4 3 1 (.lit 0) (.sym W)]), (1, .mix [.sl 2 3 1 (.lit 0) (.sym n), .sl 3 189 8 (.lit 0) (.sym n)]), (2, .pure true C), (3, .pure true B), (4, .pure true V)] 5
    (fun r h n' => ∃ b : Bool, r = .p (.bool b) ∧ h = [(0, .mix [.ptr 1 (.lit 0), .sl 4 3 1 (.lit 0) (.sym W)]), (1, .mix [.sl 2 3 1 (.lit 0) (.sym n), .sl 3 189 8 (.lit 0) (.sym n)]), (2, .pure true C), (3, .pure true B), (4, .pure true V)] ∧ n' = 5 ∧ (b = true ↔ IsObj R at_)) := by
  refine callF_of_body tok Tryz.func89 (by kernel_rfl) rfl rfl rfl ?_; conv => cbv
  refine Br.mk (fun g => ?_) (fun g => ?_)
  · have g : at_ < 0 := g
    have hno : ¬ IsObj R at_ := fun h => by have := obj_in hA.rows h; omega
    conv => cbv
    refine RetF.mk [.p (.bool false)] [(0, .mix [.ptr 1 (.lit 0), .sl 4 3 1 (.lit 0) (.sym W)]), (1, .mix [.sl 2 3 1 (.lit 0) (.sym n), .sl 3 189 8 (.lit 0) (.sym n)]), (2, .pure true C), (3, .pure true B), (4, .pure true V)] 5 (Re.at [(0, 0), (1, 1), (2, 2), (3, 3), (4, 4)] []) rfl ⟨false, rfl, rfl, rfl, iff_of_false (by decide) hno⟩
  have g : ¬ at_ < 0 := g
  conv => cbv
  refine Br.mk (fun g2 => ?_) (fun g2 => ?_)
  · have g2 : W ≤ at_ := g2
    have hno : ¬ IsObj R at_ := fun h => by have := obj_in hA.rows h; omega
    conv => cbv
    refine RetF.mk [.p (.bool false)] [(0, .mix [.ptr 1 (.lit 0), .sl 4 3 1 (.lit 0) (.sym W)]), (1, .mix [.sl 2 3 1 (.lit 0) (.sym n), .sl 3 189 8 (.lit 0) (.sym n)]), (2, .pure true C), (3, .pure true B), (4, .pure true V)] 5 (Re.at [(0, 0), (1, 1), (2, 2), (3, 3), (4, 4)] []) rfl ⟨false, rfl, rfl, rfl, iff_of_false (by decide) hno⟩
  have g2 : ¬ W ≤ at_ := g2
  conv => cbv
  have ht : Int.tdiv at_ 32 = at_ / 32 := Int.tdiv_eq_ediv_of_nonneg (by omega)
  refine Fit.mk (by show (-9223372036854775808 : Int) ≤ Int.tdiv at_ 32; omega) (by show Int.tdiv at_ 32 ≤ 9223372036854775807; omega) fun q hq => ?_
  have hq : q = at_ / 32 := (show q = Int.tdiv at_ 32 from hq).trans ht
  clear ht
  obtain ⟨e, he⟩ : ∃ e, R[q.toNat]? = some e := ⟨_, List.getElem?_eq_getElem (by omega)⟩
  obtain ⟨cv, hcv⟩ : ∃ cv, cv = clsOf e := ⟨_, rfl⟩
  obtain ⟨w, hw⟩ : ∃ w, w = wordsOf cv := ⟨_, rfl⟩
  have hcc := cpv_get he
  rw [← hC, ← hcv] at hcc
  have hw5 := wordsOf_cases cv
  rw [← hw] at hw5
  obtain ⟨sp1, sp2⟩ := slot_spec (R := R) (a := at_) (w := w) (by omega) (by omega) (hq ▸ he) (by rw [hw, hcv])
  conv => cbv
  refine Need.mk ⟨by show 0 ≤ q; omega, by show q < n; omega⟩ ?_
  conv => cbv
  refine Cell.at q _ hcc (by simp [I.val]) rfl ?_
  conv => cbv
  refine callF_frame (refWordsA_lx cv w hw) [] rfl trivial rfl rfl (fun r h' n' ⟨e1, e2, e3⟩ => ?_)
  subst e1 e2 e3
  conv => cbv
  refine drawn_sound tok (by kernel_rfl) [(19, [])] [0, 1, 2, 3, 4, 5, 6, 7, 8, 9, 10, 11, 12, 13, 14, 15, 16, 17, 18, 19, 20, 21] (by kernel_rfl) ?_; conv => cbv
  refine Br.mk (fun g3 => ?_) (fun g3 => ?_)
  case refine_2 =>
    have g3 : ¬ 0 < w := g3
    have hno : ¬ IsObj R at_ := by
      rcases obj_slot hA.rows (sp1 (.inl (by omega))) with ⟨h, _⟩ | ⟨_, h⟩
      · cases h
      · exact h
    conv => cbv
    refine RetF.mk [.p (.bool false)] [(0, .mix [.ptr 1 (.lit 0), .sl 4 3 1 (.lit 0) (.sym W)]), (1, .mix [.sl 2 3 1 (.lit 0) (.sym n), .sl 3 189 8 (.lit 0) (.sym n)]), (2, .pure true C), (3, .pure true B), (4, .pure true V)] 5 (Re.at [(0, 0), (1, 1), (2, 2), (3, 3), (4, 4)] []) rfl ⟨false, rfl, rfl, rfl, iff_of_false (by decide) hno⟩
  have g3 : 0 < w := g3
  conv => cbv
  refine Sum.mk fun z hz => ?_
  have hz : z = at_ % 32 := (show z = Int.tmod at_ 32 from hz).trans (Int.tmod_eq_emod_of_nonneg (by omega))
  conv => cbv
  refine Need.mk (show w ≠ 0 by omega) ?_
  conv => cbv
  refine Sum.mk fun y hy => ?_
  have hy : y = z % w := (show y = Int.tmod z w from hy).trans (Int.tmod_eq_emod_of_nonneg (by omega))
  conv => cbv
  refine Br.mk (fun g4 => ?_) (fun g4 => ?_)
  case refine_2 =>
    have g4 : ¬ y = 0 := g4
    have hno : ¬ IsObj R at_ := by
      rcases obj_slot hA.rows (sp1 (.inr (by rw [← hz, ← hy]; exact g4))) with ⟨h, _⟩ | ⟨_, h⟩
      · cases h
      · exact h
    conv => cbv
    refine RetF.mk [.p (.bool false)] [(0, .mix [.ptr 1 (.lit 0), .sl 4 3 1 (.lit 0) (.sym W)]), (1, .mix [.sl 2 3 1 (.lit 0) (.sym n), .sl 3 189 8 (.lit 0) (.sym n)]), (2, .pure true C), (3, .pure true B), (4, .pure true V)] 5 (Re.at [(0, 0), (1, 1), (2, 2), (3, 3), (4, 4)] []) rfl ⟨false, rfl, rfl, rfl, iff_of_false (by decide) hno⟩
  have g4 : y = 0 := g4
  have hsl := sp2 (by omega) (by rw [← hz, ← hy]; exact g4)
  rw [← hz, ← hq] at hsl
  have hd0 : 0 ≤ z / w := Int.ediv_nonneg (by omega) (by omega)
  have hdz : z / w ≤ z := Int.ediv_le_self _ (by omega)
  have ht2 : Int.tdiv z w = z / w := Int.tdiv_eq_ediv_of_nonneg (by omega)
  have hiff : UsedAt R q (z / w) ↔ IsObj R at_ := by
    rcases obj_slot hA.rows hsl with ⟨_, h1, h2, h3, h4, h5, e', h6, h7, h8⟩ | ⟨h, _⟩
    · rw [h8]
      constructor
      · rintro ⟨e2, _, he2, _, hs2⟩
        rw [h6] at he2; cases he2; exact hs2
      · intro hs2; exact ⟨e', h1, h6, h2, hs2⟩
    · cases h
  conv => cbv
  refine Sum.mk fun z2 hz2 => ?_
  have hz2 : z2 = z := (show z2 = Int.tmod at_ 32 from hz2).trans ((Int.tmod_eq_emod_of_nonneg (by omega)).trans hz.symm)
  conv => cbv
  refine Need.mk (show w ≠ 0 by omega) ?_
  conv => cbv
  have ht3 : Int.tdiv z2 w = z / w := by rw [hz2]; exact ht2
  refine Fit.mk (by show (-9223372036854775808 : Int) ≤ Int.tdiv z2 w; omega) (by show Int.tdiv z2 w ≤ 9223372036854775807; omega) fun s0 hs0 => ?_
  have hs0 : s0 = z / w := (show s0 = Int.tdiv z2 w from hs0).trans ht3
  rw [← hs0] at hiff
  conv => cbv
  refine callF_frame (rused_lx q s0 R n C B hC hB hn hR (rok_of hA.rows)) [(0, 1), (1, 2), (2, 3)] rfl (by simp [hmapOk, nget, hget, renB, okB, renV, renVs, rn, okVs, okV]) rfl rfl (fun r h' n' hrr => ?_)
  obtain ⟨b, e1, e2, e3, hb⟩ := hrr
  subst e1 e2 e3
  have hbi := hb.trans hiff
  clear hb
  cases b with
  | true =>
    conv => cbv
    refine RetF.mk [.p (.bool true)] [(0, .mix [.ptr 1 (.lit 0), .sl 4 3 1 (.lit 0) (.sym W)]), (1, .mix [.sl 2 3 1 (.lit 0) (.sym n), .sl 3 189 8 (.lit 0) (.sym n)]), (2, .pure true C), (3, .pure true B), (4, .pure true V)] 5 (Re.at [(0, 0), (1, 1), (2, 2), (3, 3), (4, 4)] []) rfl ⟨true, rfl, rfl, rfl, hbi⟩
  | false =>
    conv => cbv
    refine RetF.mk [.p (.bool false)] [(0, .mix [.ptr 1 (.lit 0), .sl 4 3 1 (.lit 0) (.sym W)]), (1, .mix [.sl 2 3 1 (.lit 0) (.sym n), .sl 3 189 8 (.lit 0) (.sym n)]), (2, .pure true C), (3, .pure true B), (4, .pure true V)] 5 (Re.at [(0, 0), (1, 1), (2, 2), (3, 3), (4, 4)] []) rfl ⟨false, rfl, rfl, rfl, hbi⟩
end Go.Proofs.YtolamdalijjlnaaGreatDoor
/-
  Layer 7: the reference's arena: kinds, lengths, words.
-/
namespace Go.Proofs.YtolamdalijjlnaaGreatDoor

open Go Go.LX
set_option maxRecDepth 100000
set_option linter.unusedVariables false
set_option linter.unusedSimpArgs false

set_option maxHeartbeats 2000000 in
theorem rkind_lx (R : List Rw) (vs : List Int) (n at_ W : Int) (C B V : List PV) (hC : C = cpv R) (hB : B = bpv R) (hV : V = ipv vs) (hn : n = R.length) (hR : R.length ≤ 1000) (hA : AOk R vs) (hW : W = 32 * n) : CallF (fun _ => Tryz.prog) 97 [.ptr 0 (.lit 0), .p (.int .i64 (.sym at_))] [(0, .mix [.ptr 1 (.lit 0), .sl 4 3 1 (.lit 0) (.sym W)]), (1, .mix [.sl 2 3 1 (.lit 0) (.sym n), .sl 3 189 8 (.lit 0) (.sym n)]), (2, .pure true C), (3, .pure true B), (4, .pure true V)] 5
    (fun r h n' => ∃ v : Int, r = .p (.int .i64 (.sym v)) ∧ h = [(0, .mix [.ptr 1 (.lit 0), .sl 4 3 1 (.lit 0) (.sym W)]), (1, .mix [.sl 2 3 1 (.lit 0) (.sym n), .sl 3 189 8 (.lit 0) (.sym n)]), (2, .pure true C), (3, .pure true B), (4, .pure true V)] ∧ n' = 5 ∧ KindR R vs at_ v) := by
  have hlen := hA.len
  refine callF_of_body tok Tryz.func97 (by kernel_rfl) rfl rfl rfl ?_; conv => cbv
  refine callF_frame (ris_lx R vs n at_ W C B V hC hB hV hn hR hA hW) [(0, 0), (1, 1), (2, 2), (3, 3), (4, 4)] rfl (by simp [hmapOk, nget, hget, renB, okB, renV, renVs, rn, okVs, okV]) rfl rfl (fun r h' n' hrr => ?_)
  obtain ⟨b, e1, e2, e3, hb⟩ := hrr
  subst e1 e2 e3
  cases b with
  | false =>
    have hno : ¬ IsObj R at_ := fun h => by cases hb.2 h
    conv => cbv
    refine RetF.mk [.p (.int .i64 (.sym 0))] [(0, .mix [.ptr 1 (.lit 0), .sl 4 3 1 (.lit 0) (.sym W)]), (1, .mix [.sl 2 3 1 (.lit 0) (.sym n), .sl 3 189 8 (.lit 0) (.sym n)]), (2, .pure true C), (3, .pure true B), (4, .pure true V)] 5 (Re.at [(0, 0), (1, 1), (2, 2), (3, 3), (4, 4)] []) rfl ⟨0, rfl, rfl, rfl, .no hno⟩
  | true =>
    have hobj := hb.1 rfl
    conv => cbv
    obtain ⟨k, l, hk⟩ := Kept.of hA hobj
    have hk' := hk
    have hb2 := hk.bounds hA
    obtain ⟨w, _, hx, q1, q2, q3, _⟩ := hk'
    have hc := ipv_get hx
    rw [← hV] at hc
    have hh := (hdr_of q1 q2 q3).1
    refine Need.mk ⟨hb2.1, by show at_ < W; omega⟩ ?_
    conv => cbv
    refine Cell.at at_ _ hc (by simp [I.val]) rfl ?_
    conv => cbv
    refine Sum.mk fun v hv => ?_
    have hv : v = k := (show v = Int.tmod (k + 16 * l) 16 from hv).trans hh
    have hK : KindR R vs at_ v := by rw [hv]; exact .is k l hk
    conv => cbv
    refine RetF.mk [.p (.int .i64 (.sym v))] [(0, .mix [.ptr 1 (.lit 0), .sl 4 3 1 (.lit 0) (.sym W)]), (1, .mix [.sl 2 3 1 (.lit 0) (.sym n), .sl 3 189 8 (.lit 0) (.sym n)]), (2, .pure true C), (3, .pure true B), (4, .pure true V)] 5 (Re.at [(0, 0), (1, 1), (2, 2), (3, 3), (4, 4)] []) rfl ⟨v, rfl, rfl, rfl, hK⟩
set_option maxHeartbeats 2000000 in
theorem rlen_lx (R : List Rw) (vs : List Int) (n at_ W : Int) (C B V : List PV) (hC : C = cpv R) (hB : B = bpv R) (hV : V = ipv vs) (hn : n = R.length) (hR : R.length ≤ 1000) (hA : AOk R vs) (hW : W = 32 * n) : CallF (fun _ => Tryz.prog) 104 [.ptr 0 (.lit 0), .p (.int .i64 (.sym at_))] [(0, .mix [.ptr 1 (.lit 0), .sl 4 3 1 (.lit 0) (.sym W)]), (1, .mix [.sl 2 3 1 (.lit 0) (.sym n), .sl 3 189 8 (.lit 0) (.sym n)]), (2, .pure true C), (3, .pure true B), (4, .pure true V)] 5
    (fun r h n' => ∃ v : Int, r = .p (.int .i64 (.sym v)) ∧ h = [(0, .mix [.ptr 1 (.lit 0), .sl 4 3 1 (.lit 0) (.sym W)]), (1, .mix [.sl 2 3 1 (.lit 0) (.sym n), .sl 3 189 8 (.lit 0) (.sym n)]), (2, .pure true C), (3, .pure true B), (4, .pure true V)] ∧ n' = 5 ∧ LenR R vs at_ v) := by
  have hlen := hA.len
  refine callF_of_body tok Tryz.func104 (by kernel_rfl) rfl rfl rfl ?_; conv => cbv
  refine callF_frame (ris_lx R vs n at_ W C B V hC hB hV hn hR hA hW) [(0, 0), (1, 1), (2, 2), (3, 3), (4, 4)] rfl (by simp [hmapOk, nget, hget, renB, okB, renV, renVs, rn, okVs, okV]) rfl rfl (fun r h' n' hrr => ?_)
  obtain ⟨b, e1, e2, e3, hb⟩ := hrr
  subst e1 e2 e3
  cases b with
  | false =>
    have hno : ¬ IsObj R at_ := fun h => by cases hb.2 h
    conv => cbv
    refine RetF.mk [.p (.int .i64 (.sym 0))] [(0, .mix [.ptr 1 (.lit 0), .sl 4 3 1 (.lit 0) (.sym W)]), (1, .mix [.sl 2 3 1 (.lit 0) (.sym n), .sl 3 189 8 (.lit 0) (.sym n)]), (2, .pure true C), (3, .pure true B), (4, .pure true V)] 5 (Re.at [(0, 0), (1, 1), (2, 2), (3, 3), (4, 4)] []) rfl ⟨0, rfl, rfl, rfl, .no hno⟩
  | true =>
    have hobj := hb.1 rfl
    conv => cbv
    obtain ⟨k, l, hk⟩ := Kept.of hA hobj
    have hk' := hk
    have hb2 := hk.bounds hA
    obtain ⟨w, _, hx, q1, q2, q3, _⟩ := hk'
    have hc := ipv_get hx
    rw [← hV] at hc
    have hh := (hdr_of q1 q2 q3).2
    refine Need.mk ⟨hb2.1, by show at_ < W; omega⟩ ?_
    conv => cbv
    refine Cell.at at_ _ hc (by simp [I.val]) rfl ?_
    conv => cbv
    refine Fit.mk (by show (-9223372036854775808 : Int) ≤ Int.tdiv (k + 16 * l) 16; omega) (by show Int.tdiv (k + 16 * l) 16 ≤ 9223372036854775807; omega) fun v hv => ?_
    have hv : v = l := (show v = Int.tdiv (k + 16 * l) 16 from hv).trans hh
    have hK : LenR R vs at_ v := by rw [hv]; exact .is k l hk
    conv => cbv
    refine RetF.mk [.p (.int .i64 (.sym v))] [(0, .mix [.ptr 1 (.lit 0), .sl 4 3 1 (.lit 0) (.sym W)]), (1, .mix [.sl 2 3 1 (.lit 0) (.sym n), .sl 3 189 8 (.lit 0) (.sym n)]), (2, .pure true C), (3, .pure true B), (4, .pure true V)] 5 (Re.at [(0, 0), (1, 1), (2, 2), (3, 3), (4, 4)] []) rfl ⟨v, rfl, rfl, rfl, hK⟩
set_option maxHeartbeats 2000000 in
theorem rload_lx (i : Int) (R : List Rw) (vs : List Int) (n at_ W : Int) (C B V : List PV) (hC : C = cpv R) (hB : B = bpv R) (hV : V = ipv vs) (hn : n = R.length) (hR : R.length ≤ 1000) (hA : AOk R vs) (hW : W = 32 * n) : CallF (fun _ => Tryz.prog) 88 [.ptr 0 (.lit 0), .p (.int .i64 (.sym at_)), .p (.int .i64 (.sym i))] [(0, .mix [.ptr 1 (.lit 0), .sl 4 3 1 (.lit 0) (.sym W)]), (1, .mix [.sl 2 3 1 (.lit 0) (.sym n), .sl 3 189 8 (.lit 0) (.sym n)]), (2, .pure true C), (3, .pure true B), (4, .pure true V)] 5
    (fun r h n' => ∃ x e : Int, r = .tup [.p (.int .i64 (.sym x)), .p (.int .i64 (.sym e))] ∧ h = [(0, .mix [.ptr 1 (.lit 0), .sl 4 3 1 (.lit 0) (.sym W)]), (1, .mix [.sl 2 3 1 (.lit 0) (.sym n), .sl 3 189 8 (.lit 0) (.sym n)]), (2, .pure true C), (3, .pure true B), (4, .pure true V)] ∧ n' = 5 ∧ Loaded R vs at_ i x e) := by
  have hlen := hA.len
  refine callF_of_body tok Tryz.func88 (by kernel_rfl) rfl rfl rfl ?_; conv => cbv
  refine callF_frame (ris_lx R vs n at_ W C B V hC hB hV hn hR hA hW) [(0, 0), (1, 1), (2, 2), (3, 3), (4, 4)] rfl (by simp [hmapOk, nget, hget, renB, okB, renV, renVs, rn, okVs, okV]) rfl rfl (fun r h' n' hrr => ?_)
  obtain ⟨b, e1, e2, e3, hb⟩ := hrr
  subst e1 e2 e3
  cases b with
  | false =>
    have hno : ¬ IsObj R at_ := fun h => by cases hb.2 h
    conv => cbv
    refine RetF.mk [.p (.int .i64 (.sym 0)), .p (.int .i64 (.sym 8))] [(0, .mix [.ptr 1 (.lit 0), .sl 4 3 1 (.lit 0) (.sym W)]), (1, .mix [.sl 2 3 1 (.lit 0) (.sym n), .sl 3 189 8 (.lit 0) (.sym n)]), (2, .pure true C), (3, .pure true B), (4, .pure true V)] 5 (Re.at [(0, 0), (1, 1), (2, 2), (3, 3), (4, 4)] []) rfl ⟨0, 8, rfl, rfl, rfl, .none hno⟩
  | true =>
    have hobj := hb.1 rfl
    conv => cbv
    obtain ⟨k, l, hk⟩ := Kept.of hA hobj
    have hb2 := hk.bounds hA
    refine Br.mk (fun g => ?_) (fun g => ?_)
    · have g : i < 0 := g
      conv => cbv
      refine RetF.mk [.p (.int .i64 (.sym 0)), .p (.int .i64 (.sym 1))] [(0, .mix [.ptr 1 (.lit 0), .sl 4 3 1 (.lit 0) (.sym W)]), (1, .mix [.sl 2 3 1 (.lit 0) (.sym n), .sl 3 189 8 (.lit 0) (.sym n)]), (2, .pure true C), (3, .pure true B), (4, .pure true V)] 5 (Re.at [(0, 0), (1, 1), (2, 2), (3, 3), (4, 4)] []) rfl ⟨0, 1, rfl, rfl, rfl, .arg k l hk (by omega)⟩
    have g : ¬ i < 0 := g
    conv => cbv
    refine callF_frame (rlen_lx R vs n at_ W C B V hC hB hV hn hR hA hW) [(0, 0), (1, 1), (2, 2), (3, 3), (4, 4)] rfl (by simp [hmapOk, nget, hget, renB, okB, renV, renVs, rn, okVs, okV]) rfl rfl (fun r h' n' hrr => ?_)
    obtain ⟨v, e1, e2, e3, hL⟩ := hrr
    subst e1 e2 e3
    conv => cbv
    have hvl : v = l := lenR_of6 hk hL
    refine Br.mk (fun g2 => ?_) (fun g2 => ?_)
    · have g2 : v ≤ i := g2
      conv => cbv
      refine RetF.mk [.p (.int .i64 (.sym 0)), .p (.int .i64 (.sym 1))] [(0, .mix [.ptr 1 (.lit 0), .sl 4 3 1 (.lit 0) (.sym W)]), (1, .mix [.sl 2 3 1 (.lit 0) (.sym n), .sl 3 189 8 (.lit 0) (.sym n)]), (2, .pure true C), (3, .pure true B), (4, .pure true V)] 5 (Re.at [(0, 0), (1, 1), (2, 2), (3, 3), (4, 4)] []) rfl ⟨0, 1, rfl, rfl, rfl, .arg k l hk (by omega)⟩
    have g2 : ¬ v ≤ i := g2
    obtain ⟨x, hx⟩ : ∃ x, vs[(at_ + 1 + i).toNat]? = some x := ⟨_, List.getElem?_eq_getElem (by omega)⟩
    have hc := ipv_get hx
    rw [← hV] at hc
    conv => cbv
    refine Fit.mk (by show (-9223372036854775808 : Int) ≤ at_ + 1; omega) (by show at_ + 1 ≤ 9223372036854775807; omega) fun a1 ha1 => ?_
    have ha1 : a1 = at_ + 1 := ha1
    conv => cbv
    refine Fit.mk (by show (-9223372036854775808 : Int) ≤ a1 + i; omega) (by show a1 + i ≤ 9223372036854775807; omega) fun a2 ha2 => ?_
    have ha2 : a2 = a1 + i := ha2
    have ha2 : a2 = at_ + 1 + i := by omega
    conv => cbv
    refine Need.mk ⟨by show 0 ≤ a2; omega, by show a2 < W; omega⟩ ?_
    conv => cbv
    refine Cell.at a2 _ hc (by simp [I.val]) (by omega) ?_
    conv => cbv
    refine RetF.mk [.p (.int .i64 (.sym x)), .p (.int .i64 (.sym 0))] [(0, .mix [.ptr 1 (.lit 0), .sl 4 3 1 (.lit 0) (.sym W)]), (1, .mix [.sl 2 3 1 (.lit 0) (.sym n), .sl 3 189 8 (.lit 0) (.sym n)]), (2, .pure true C), (3, .pure true B), (4, .pure true V)] 5 (Re.at [(0, 0), (1, 1), (2, 2), (3, 3), (4, 4)] []) rfl ⟨x, 0, rfl, rfl, rfl, .ok k l x hk (by omega) hx⟩
set_option maxHeartbeats 2000000 in
theorem rstore_lx (i x : Int) (R : List Rw) (vs : List Int) (n at_ W : Int) (C B V : List PV) (hC : C = cpv R) (hB : B = bpv R) (hV : V = ipv vs) (hn : n = R.length) (hR : R.length ≤ 1000) (hA : AOk R vs) (hW : W = 32 * n) : CallF (fun _ => Tryz.prog) 25 [.ptr 0 (.lit 0), .p (.int .i64 (.sym at_)), .p (.int .i64 (.sym i)), .p (.int .i64 (.sym x))] [(0, .mix [.ptr 1 (.lit 0), .sl 4 3 1 (.lit 0) (.sym W)]), (1, .mix [.sl 2 3 1 (.lit 0) (.sym n), .sl 3 189 8 (.lit 0) (.sym n)]), (2, .pure true C), (3, .pure true B), (4, .pure true V)] 5
    (fun r h n' => ∃ (e : Int) (vs' : List Int) (V' : List PV), r = .p (.int .i64 (.sym e)) ∧ h = [(0, .mix [.ptr 1 (.lit 0), .sl 4 3 1 (.lit 0) (.sym W)]), (1, .mix [.sl 2 3 1 (.lit 0) (.sym n), .sl 3 189 8 (.lit 0) (.sym n)]), (2, .pure true C), (3, .pure true B), (4, .pure true V')] ∧ n' = 5 ∧ V' = ipv vs' ∧ Stored R vs at_ i x e vs') := by
  have hlen := hA.len
  have hVl : V.length = vs.length := by rw [hV, ipv_length]
  refine callF_of_body tok Tryz.func25 (by kernel_rfl) rfl rfl rfl ?_; conv => cbv
  refine callF_frame (rload_lx i R vs n at_ W C B V hC hB hV hn hR hA hW) [(0, 0), (1, 1), (2, 2), (3, 3), (4, 4)] rfl (by simp [hmapOk, nget, hget, renB, okB, renV, renVs, rn, okVs, okV]) rfl rfl (fun r h' n' hrr => ?_)
  obtain ⟨y, e, e1, e2, e3, hLd⟩ := hrr
  subst e1 e2 e3
  cases hLd with
  | none hno =>
    conv => cbv
    refine Br.mk (fun g => ?_) (fun g => ?_)
    case refine_1 =>
      have gf : False := absurd g (by decide)
      cases gf
    conv => cbv
    refine RetF.mk [.p (.int .i64 (.sym 8))] [(0, .mix [.ptr 1 (.lit 0), .sl 4 3 1 (.lit 0) (.sym W)]), (1, .mix [.sl 2 3 1 (.lit 0) (.sym n), .sl 3 189 8 (.lit 0) (.sym n)]), (2, .pure true C), (3, .pure true B), (4, .pure true V)] 5 (Re.at [(0, 0), (1, 1), (2, 2), (3, 3), (4, 4)] []) rfl ⟨8, vs, V, rfl, rfl, rfl, hV, .none hno⟩
  | arg k l hk hi =>
    conv => cbv
    refine Br.mk (fun g => ?_) (fun g => ?_)
    case refine_1 =>
      have gf : False := absurd g (by decide)
      cases gf
    conv => cbv
    refine RetF.mk [.p (.int .i64 (.sym 1))] [(0, .mix [.ptr 1 (.lit 0), .sl 4 3 1 (.lit 0) (.sym W)]), (1, .mix [.sl 2 3 1 (.lit 0) (.sym n), .sl 3 189 8 (.lit 0) (.sym n)]), (2, .pure true C), (3, .pure true B), (4, .pure true V)] 5 (Re.at [(0, 0), (1, 1), (2, 2), (3, 3), (4, 4)] []) rfl ⟨1, vs, V, rfl, rfl, rfl, hV, .arg k l hk hi⟩
  | ok k l _ hk hi hx =>
    conv => cbv
    refine Br.mk (fun g => ?_) (fun g => ?_)
    case refine_2 =>
      have gf : False := g rfl
      cases gf
    conv => cbv
    have hb2 := hk.bounds hA
    refine Fit.mk (by show (-9223372036854775808 : Int) ≤ at_ + 1; omega) (by show at_ + 1 ≤ 9223372036854775807; omega) fun a1 ha1 => ?_
    have ha1 : a1 = at_ + 1 := ha1
    conv => cbv
    refine Fit.mk (by show (-9223372036854775808 : Int) ≤ a1 + i; omega) (by show a1 + i ≤ 9223372036854775807; omega) fun a2 ha2 => ?_
    have ha2 : a2 = a1 + i := ha2
    have ha2 : a2 = at_ + 1 + i := by omega
    conv => cbv
    refine Need.mk ⟨by show 0 ≤ a2; omega, by show a2 < W; omega⟩ ?_
    conv => cbv
    refine Need.mk (by show a2 + ((1 : Nat) : Int) ≤ (V.length : Int); omega) ?_
    conv => cbv
    refine Upd.mk fun V2 hV2 => ?_
    have hV2 : V2 = updL V a2.toNat [.int .i64 (.sym x)] := hV2
    have hV3 : V2 = ipv (vs.set (at_ + 1 + i).toNat x) := by rw [hV2, hV, updL_ipv, ha2]
    clear hV2
    conv => cbv
    refine RetF.mk [.p (.int .i64 (.sym 0))] [(0, .mix [.ptr 1 (.lit 0), .sl 4 3 1 (.lit 0) (.sym W)]), (1, .mix [.sl 2 3 1 (.lit 0) (.sym n), .sl 3 189 8 (.lit 0) (.sym n)]), (2, .pure true C), (3, .pure true B), (4, .pure true V2)] 5 (Re.at [(0, 0), (1, 1), (2, 2), (3, 3), (4, 4)] []) rfl ⟨0, _, V2, rfl, rfl, rfl, hV3, .ok k l hk hi⟩
end Go.Proofs.YtolamdalijjlnaaGreatDoor
/-
  Layer 7: the reference's arena: what is given back, and a new one.
-/
namespace Go.Proofs.YtolamdalijjlnaaGreatDoor

open Go Go.LX
set_option maxRecDepth 100000
set_option linter.unusedVariables false
set_option linter.unusedSimpArgs false

theorem rnewA_lx (n W : Int) (h2 : 2 ≤ n) (h8 : n ≤ 128) (hW : W = 32 * n) : CallF (fun _ => Tryz.prog) 73 [.p (.int .i64 (.sym n))] [] 0
    (fun r h m => ∃ C B V : List PV, r = .tup [.ptr 0 (.lit 0), .p (.int .i64 (.lit 0))] ∧ h = [(0, .mix [.ptr 1 (.lit 0), .sl 4 3 1 (.lit 0) (.sym W)]), (1, .mix [.sl 2 3 1 (.lit 0) (.sym n), .sl 3 189 8 (.lit 0) (.sym n)]), (2, .pure true C), (3, .pure true B), (4, .pure true V)] ∧ m = 5 ∧ C = cpv (List.replicate n.toNat (0, [])) ∧ B = bpv (List.replicate n.toNat (0, [])) ∧ V = ipv (List.replicate W.toNat 0)) := by
  refine callF_of_body tok Tryz.func73 (by kernel_rfl) rfl rfl rfl ?_; conv => cbv
  refine callF_frame (rnew_lx n ⟨h2, h8⟩) [] rfl trivial rfl rfl (fun r h' n' hrr => ?_)
  obtain ⟨C, B, e1, e2, e3, hC, hB⟩ := hrr
  subst e1 e2 e3
  obtain ⟨V, hV⟩ : ∃ V, V = ipv (List.replicate W.toNat 0) := ⟨_, rfl⟩
  conv => cbv
  refine Fit.mk (by show (-9223372036854775808 : Int) ≤ n * 32; omega) (by show n * 32 ≤ 9223372036854775807; omega) fun v hv => ?_
  have hv : v = n * 32 := hv
  have hvW : v = W := by omega
  conv => cbv
  refine Need.mk ⟨by show 0 ≤ v; omega, Int.le_refl _, by show v * 8 ≤ 140737488355328; omega, by show v ≤ 9223372036854775807; omega⟩ ?_
  conv => cbv
  refine Upd.mk fun D0 hD0 => ?_
  have hle : pvles D0 V := by
    have hD0 : D0 = repsP [.int .i64 (.lit 0)] v.toNat := hD0
    rw [hD0, hV, hvW]; exact zero_ipv _
  clear hD0
  unfold pvles at hle
  conv => cbv
  refine RetF.mk [.ptr 0 (.lit 0), .p (.int .i64 (.lit 0))] [(0, .mix [.ptr 1 (.lit 0), .sl 4 3 1 (.lit 0) (.sym W)]), (1, .mix [.sl 2 3 1 (.lit 0) (.sym n), .sl 3 189 8 (.lit 0) (.sym n)]), (2, .pure true C), (3, .pure true B), (4, .pure true V)] 5 (Re.at [(4, 0), (0, 1), (1, 2), (2, 3), (3, 4)] []) rfl ⟨C, B, V, rfl, rfl, rfl, hC, hB, hV⟩
end Go.Proofs.YtolamdalijjlnaaGreatDoor
/-
  Layer 7: the reference's arena: what is allotted, given back, and there.
-/
namespace Go.Proofs.YtolamdalijjlnaaGreatDoor

open Go Go.LX
set_option maxRecDepth 100000
set_option linter.unusedVariables false
set_option linter.unusedSimpArgs false

theorem rclassOf_lx (n : Int) : CallF (fun _ => Tryz.prog) 154 [.p (.int .i64 (.sym n))] [] 0 (fun r h m => ∃ (c : Int) (b : Bool), r = .tup [.p (.int .i64 (.sym c)), .p (.bool b)] ∧ h = [] ∧ m = 0 ∧ OfR n c b) := by
  refine callF_of_body tok Tryz.func154 (by kernel_rfl) rfl rfl rfl ?_; conv => cbv
  refine LoopF.mk (fun k s => ∃ c : Int, s = ⟨.p (.int .i64 (.sym n)) :: (undefs 3 ++ .p (.int .i64 (.sym c)) :: undefs 13), [], 0⟩ ∧ 0 ≤ c ∧ c ≤ 4 ∧ (1 ≤ c → 4 ≤ n) ∧ (2 ≤ c → 8 ≤ n) ∧ (3 ≤ c → 16 ≤ n) ∧ (4 ≤ c → 32 ≤ n) ∧ k = (4 - c).toNat) 4 _
    (Re.at [] []) ⟨0, rfl, by omega, by omega, by omega, by omega, by omega, by omega, by omega⟩ ?_
  rintro k s ⟨c, rfl, h0, h4, q1, q2, q3, q4, hk⟩
  conv => cbv
  refine Br.mk (fun g => ?_) (fun g => ?_)
  case refine_2 =>
    have g : ¬ c < 4 := g
    have q : OfR n 0 false := .no (by omega)
    conv => cbv
    refine RetF.mk [.p (.int .i64 (.sym 0)), .p (.bool false)] [] 0 (Re.at [] []) rfl ⟨0, false, rfl, rfl, rfl, q⟩
  have g : c < 4 := g
  conv => cbv
  refine Br.mk (fun g2 => ?_) (fun g2 => ?_)
  case refine_2 =>
    have g2 : ¬ 0 ≤ n := g2
    have q : OfR n 0 false := .no (by omega)
    conv => cbv
    refine RetF.mk [.p (.int .i64 (.sym 0)), .p (.bool false)] [] 0 (Re.at [] []) rfl ⟨0, false, rfl, rfl, rfl, q⟩
  have g2 : 0 ≤ n := g2
  obtain ⟨k', rfl⟩ : ∃ k', k = k' + 1 := ⟨k - 1, by omega⟩
  obtain ⟨w, hw⟩ : ∃ w, w = wordsOf c := ⟨_, rfl⟩
  have hw4 : c = 0 ∧ w = 4 ∨ c = 1 ∧ w = 8 ∨ c = 2 ∧ w = 16 ∨ c = 3 ∧ w = 32 := by
    have : c = 0 ∨ c = 1 ∨ c = 2 ∨ c = 3 := by omega
    rcases this with e | e | e | e <;> (rw [e] at hw; rw [hw, e]; decide)
  conv => cbv
  refine callF_frame (refWordsA_lx c w hw) [] rfl trivial rfl rfl (fun r h' n' ⟨e1, e2, e3⟩ => ?_)
  subst e1 e2 e3
  conv => cbv
  refine Br.mk (fun g3 => ?_) (fun g3 => ?_)
  · have g3 : n < w := g3
    have hc : c = ofN n := by
      unfold ofN
      rcases hw4 with ⟨e1, e2⟩ | ⟨e1, e2⟩ | ⟨e1, e2⟩ | ⟨e1, e2⟩
      · rw [if_pos (by omega)]; exact e1
      · rw [if_neg (by omega), if_pos (by omega)]; exact e1
      · rw [if_neg (by omega), if_neg (by omega), if_pos (by omega)]; exact e1
      · rw [if_neg (by omega), if_neg (by omega), if_neg (by omega)]; exact e1
    have qq : OfR n c true := .yes c hc (by omega)
    conv => cbv
    refine RetF.mk [.p (.int .i64 (.sym c)), .p (.bool true)] [] 0 (Re.at [] []) rfl ⟨c, true, rfl, rfl, rfl, qq⟩
  · have g3 : ¬ n < w := g3
    conv => cbv
    refine Fit.mk (by show (-9223372036854775808 : Int) ≤ c + 1; omega) (by show c + 1 ≤ 9223372036854775807; omega) fun c2 hc2 => ?_
    have hc2 : c2 = c + 1 := hc2
    conv => cbv
    refine Again.mk k' _ (Nat.lt_succ_self _) (Re.at [] []) ⟨c2, rfl, by omega, by omega, by omega, by omega, by omega, by omega, by omega⟩
set_option maxHeartbeats 2000000 in
theorem robjects_lx (m : Int) (R : List Rw) (vs : List Int) (n W : Int) (C B V : List PV) (hC : C = cpv R) (hB : B = bpv R) (hV : V = ipv vs) (hn : n = R.length) (hR : R.length ≤ 1000) (hA : AOk R vs) (hW : W = 32 * n) (hm : m = objCount R) : CallF (fun _ => Tryz.prog) 80 [.ptr 0 (.lit 0)] [(0, .mix [.ptr 1 (.lit 0), .sl 4 3 1 (.lit 0) (.sym W)]), (1, .mix [.sl 2 3 1 (.lit 0) (.sym n), .sl 3 189 8 (.lit 0) (.sym n)]), (2, .pure true C), (3, .pure true B), (4, .pure true V)] 5
    (fun r h n' => ∃ O : List PV, r = .sl 5 3 1 (.lit 0) (.sym m) ∧ h = [(0, .mix [.ptr 1 (.lit 0), .sl 4 3 1 (.lit 0) (.sym W)]), (1, .mix [.sl 2 3 1 (.lit 0) (.sym n), .sl 3 189 8 (.lit 0) (.sym n)]), (2, .pure true C), (3, .pure true B), (4, .pure true V), (5, .pure true O)] ∧ n' = 6 ∧ O = ipv (objsTo R R.length)) := by
  have hlen := hA.len
  obtain ⟨gl, hg⟩ : ∃ gl : List Int → Int, ∀ l, gl l = l.length := ⟨_, fun _ => rfl⟩
  have g0 : gl [] = 0 := by rw [hg]; rfl
  have P0 : (∀ x, x ∈ ([] : List Int) ↔ IsObj R x ∧ x < 0) := fun x => ⟨fun h => (by cases h), fun ⟨h, h2⟩ => by have := obj_in hA.rows h; omega⟩
  refine callF_of_body tok Tryz.func80 (by kernel_rfl) rfl rfl rfl ?_; conv => cbv
  refine LoopF.mk (fun k s => ∃ (a j : Int) (O : List PV) (l : List Int), s = ⟨.ptr 0 (.lit 0) :: (undefs 2 ++ .sl 5 3 1 (.lit 0) (.sym j) :: .p (.int .i64 (.sym a)) :: undefs 17), [(0, .mix [.ptr 1 (.lit 0), .sl 4 3 1 (.lit 0) (.sym W)]), (1, .mix [.sl 2 3 1 (.lit 0) (.sym n), .sl 3 189 8 (.lit 0) (.sym n)]), (2, .pure true C), (3, .pure true B), (4, .pure true V), (5, .pure true O)], 6⟩ ∧ O = ipv l ∧ j = gl l ∧ l.Pairwise (· < ·) ∧ (∀ x, x ∈ l ↔ IsObj R x ∧ x < a) ∧ 0 ≤ a ∧ a ≤ W ∧ 0 ≤ j ∧ j ≤ a ∧ k = (W - a).toNat) W.toNat _
    (Re.at [(0, 0), (1, 1), (2, 2), (3, 3), (4, 4)] [5]) ⟨0, 0, [], [], rfl, rfl, g0.symm, .nil, P0, by omega, by omega, by omega, by omega, by omega⟩ ?_
  clear P0 g0
  rintro k s ⟨a, j, O, l, rfl, hO, hj, hasc, hmem, ha0, ha1, hj0, hj1, hk⟩
  conv => cbv
  refine Br.mk (fun ga => ?_) (fun ga => ?_)
  · have ga : a < W := ga
    obtain ⟨k', rfl⟩ : ∃ k', k = k' + 1 := ⟨k - 1, by omega⟩
    conv => cbv
    refine callF_frame (ris_lx R vs n a W C B V hC hB hV hn hR hA hW) [(0, 0), (1, 1), (2, 2), (3, 3), (4, 4)] rfl (by simp [hmapOk, nget, hget, renB, okB, renV, renVs, rn, okVs, okV]) rfl rfl (fun r h' n' hrr => ?_)
    obtain ⟨b, e1, e2, e3, hb⟩ := hrr
    subst e1 e2 e3
    cases b with
    | false =>
      have hno : ¬ IsObj R a := fun h => by cases hb.2 h
      have hm2 : ∀ x, x ∈ l ↔ IsObj R x ∧ x < a + 1 := fun x => by
        rw [hmem x]
        constructor
        · rintro ⟨h1, h2⟩; exact ⟨h1, by omega⟩
        · rintro ⟨h1, h2⟩
          refine ⟨h1, ?_⟩
          have : x ≠ a := fun e => hno (e ▸ h1)
          omega
      conv => cbv
      refine Fit.mk (by show (-9223372036854775808 : Int) ≤ a + 1; omega) (by show a + 1 ≤ 9223372036854775807; omega) fun a2 ha2 => ?_
      have ha2 : a2 = a + 1 := ha2
      rw [← ha2] at hm2
      conv => cbv
      refine Again.mk k' _ (Nat.lt_succ_self _) (Re.at [(0, 0), (1, 1), (2, 2), (3, 3), (4, 4), (5, 5)] []) ⟨a2, j, O, l, rfl, hO, hj, hasc, hm2, by omega, by omega, by omega, by omega, by omega⟩
    | true =>
      have hobj := hb.1 rfl
      have hm2 : ∀ x, x ∈ l ++ [a] ↔ IsObj R x ∧ x < a + 1 := fun x => by
        rw [List.mem_append, hmem x, List.mem_singleton]
        constructor
        · rintro (⟨h1, h2⟩ | rfl)
          · exact ⟨h1, by omega⟩
          · exact ⟨hobj, by omega⟩
        · rintro ⟨h1, h2⟩
          by_cases e : x = a
          · exact .inr e
          · exact .inl ⟨h1, by omega⟩
      have hasc2 : (l ++ [a]).Pairwise (· < ·) := List.pairwise_append.2 ⟨hasc, List.pairwise_singleton _ _, fun x hx y hy => by
        have := (hmem x).1 hx
        rw [List.mem_singleton.1 hy]; exact this.2⟩
      have hol : (O.length : Int) = j := by rw [hO, ipv_length, hj, hg]
      conv => cbv
      refine Room.new rfl ?_
      conv => cbv
      refine Room.new ⟨?_, ?_, ?_⟩ ?_
      · show (O.length : Int) = j * 1; omega
      · show (j + 1) * 8 ≤ 140737488355328; omega
      · show j + 1 ≤ 9223372036854775807; omega
      conv => cbv
      refine Upd.mk fun O3 hO3 => ?_
      have hO3 : O3 = O ++ [.int .i64 (.sym a)] := hO3
      have hO3 : O3 = ipv (l ++ [a]) := by rw [hO3, hO, ← ipv_app]; rfl
      conv => cbv
      refine Sum.mk fun j2 hj2 => ?_
      have hj2 : j2 = j + 1 := hj2
      have hj3 : j2 = gl (l ++ [a]) := by rw [hj2, hj, hg, hg, List.length_append]; rfl
      conv => cbv
      refine Fit.mk (by show (-9223372036854775808 : Int) ≤ a + 1; omega) (by show a + 1 ≤ 9223372036854775807; omega) fun a2 ha2 => ?_
      have ha2 : a2 = a + 1 := ha2
      rw [← ha2] at hm2
      conv => cbv
      refine Again.mk k' _ (Nat.lt_succ_self _) (Re.at [(0, 0), (1, 1), (2, 2), (3, 3), (4, 4), (7, 5)] []) ⟨a2, j2, O3, l ++ [a], rfl, hO3, hj3, hasc2, hm2, by omega, by omega, by omega, by omega, by omega⟩
  · have ga : ¬ a < W := ga
    have hl : l = objsTo R R.length := objs_is hA.rows hasc fun x => by
      rw [hmem x]
      exact ⟨fun h => h.1, fun h => ⟨h, by have := obj_in hA.rows h; omega⟩⟩
    have hjm : j = m := by rw [hj, hg, hl, objs_length hA.rows, hm]
    rw [hl] at hO
    conv => cbv
    refine RetF.mk [.sl 5 3 1 (.lit 0) (.sym m)] [(0, .mix [.ptr 1 (.lit 0), .sl 4 3 1 (.lit 0) (.sym W)]), (1, .mix [.sl 2 3 1 (.lit 0) (.sym n), .sl 3 189 8 (.lit 0) (.sym n)]), (2, .pure true C), (3, .pure true B), (4, .pure true V), (5, .pure true O)] 6 (Re.at [(0, 0), (1, 1), (2, 2), (3, 3), (4, 4), (5, 5)] []) rfl ⟨O, rfl, rfl, rfl, hO⟩
end Go.Proofs.YtolamdalijjlnaaGreatDoor
/-
  Layer 7: the reference's arena: what is allotted.
-/
namespace Go.Proofs.YtolamdalijjlnaaGreatDoor

open Go Go.LX
set_option maxRecDepth 100000
set_option linter.unusedVariables false
set_option linter.unusedSimpArgs false

theorem zer_snoc : ∀ (n : Nat) (ws : List Int) (j : Nat), zer ws j (n + 1) = (zer ws j n).set (j + n) 0
  | 0, ws, j => rfl
  | n + 1, ws, j => by
    rw [zer, zer_snoc n, zer, show j + 1 + n = j + (n + 1) by omega]
set_option maxHeartbeats 4000000 in
theorem rallocA_lx (kind m : Int) (R : List Rw) (vs : List Int) (n W : Int) (C B V : List PV) (hC : C = cpv R) (hB : B = bpv R) (hV : V = ipv vs) (hn : n = R.length) (hR : R.length ≤ 1000) (hA : AOk R vs) (hW : W = 32 * n) : CallF (fun _ => Tryz.prog) 123 [.ptr 0 (.lit 0), .p (.int .i64 (.sym kind)), .p (.int .i64 (.sym m))] [(0, .mix [.ptr 1 (.lit 0), .sl 4 3 1 (.lit 0) (.sym W)]), (1, .mix [.sl 2 3 1 (.lit 0) (.sym n), .sl 3 189 8 (.lit 0) (.sym n)]), (2, .pure true C), (3, .pure true B), (4, .pure true V)] 5
    (fun r h n' => ∃ (at_ e : Int) (R' : List Rw) (vs' : List Int) (C' B' V' : List PV), r = .tup [.p (.int .i64 (.sym at_)), .p (.int .i64 (.sym e))] ∧ h = [(0, .mix [.ptr 1 (.lit 0), .sl 4 3 1 (.lit 0) (.sym W)]), (1, .mix [.sl 2 3 1 (.lit 0) (.sym n), .sl 3 189 8 (.lit 0) (.sym n)]), (2, .pure true C'), (3, .pure true B'), (4, .pure true V')] ∧ n' = 5 ∧ C' = cpv R' ∧ B' = bpv R' ∧ V' = ipv vs' ∧ AlloctV R vs kind m at_ e R' vs') := by
  have hlen := hA.len
  have hVl : V.length = vs.length := by rw [hV, ipv_length]
  refine callF_of_body tok Tryz.func123 (by kernel_rfl) rfl rfl rfl ?_; conv => cbv
  refine callF_frame (rclassOf_lx m) [] rfl trivial rfl rfl (fun r h' n' hrr => ?_)
  obtain ⟨c, b, e1, e2, e3, hO⟩ := hrr
  subst e1 e2 e3
  conv => cbv
  refine Br.mk (fun g => ?_) (fun g => ?_)
  · have g : kind < 1 := g
    have hno : ¬ (0 ≤ m ∧ m ≤ 31 ∧ 1 ≤ kind ∧ kind ≤ 6) := fun h => by omega
    conv => cbv
    refine RetF.mk [.p (.int .i64 (.sym 0)), .p (.int .i64 (.sym 1))] [(0, .mix [.ptr 1 (.lit 0), .sl 4 3 1 (.lit 0) (.sym W)]), (1, .mix [.sl 2 3 1 (.lit 0) (.sym n), .sl 3 189 8 (.lit 0) (.sym n)]), (2, .pure true C), (3, .pure true B), (4, .pure true V)] 5 (Re.at [(0, 0), (1, 1), (2, 2), (3, 3), (4, 4)] []) rfl ⟨0, 1, R, vs, C, B, V, rfl, rfl, rfl, hC, hB, hV, .arg hno⟩
  have g : ¬ kind < 1 := g
  conv => cbv
  refine Br.mk (fun g2 => ?_) (fun g2 => ?_)
  · have g2 : 6 < kind := g2
    have hno : ¬ (0 ≤ m ∧ m ≤ 31 ∧ 1 ≤ kind ∧ kind ≤ 6) := fun h => by omega
    conv => cbv
    refine RetF.mk [.p (.int .i64 (.sym 0)), .p (.int .i64 (.sym 1))] [(0, .mix [.ptr 1 (.lit 0), .sl 4 3 1 (.lit 0) (.sym W)]), (1, .mix [.sl 2 3 1 (.lit 0) (.sym n), .sl 3 189 8 (.lit 0) (.sym n)]), (2, .pure true C), (3, .pure true B), (4, .pure true V)] 5 (Re.at [(0, 0), (1, 1), (2, 2), (3, 3), (4, 4)] []) rfl ⟨0, 1, R, vs, C, B, V, rfl, rfl, rfl, hC, hB, hV, .arg hno⟩
  have g2 : ¬ 6 < kind := g2
  cases hO with
  | no hno =>
    conv => cbv
    refine RetF.mk [.p (.int .i64 (.sym 0)), .p (.int .i64 (.sym 1))] [(0, .mix [.ptr 1 (.lit 0), .sl 4 3 1 (.lit 0) (.sym W)]), (1, .mix [.sl 2 3 1 (.lit 0) (.sym n), .sl 3 189 8 (.lit 0) (.sym n)]), (2, .pure true C), (3, .pure true B), (4, .pure true V)] 5 (Re.at [(0, 0), (1, 1), (2, 2), (3, 3), (4, 4)] []) rfl ⟨0, 1, R, vs, C, B, V, rfl, rfl, rfl, hC, hB, hV, .arg (fun h => hno ⟨h.1, h.2.1⟩)⟩
  | yes _ hc hyes =>
    have hyk : 0 ≤ m ∧ m ≤ 31 ∧ 1 ≤ kind ∧ kind ≤ 6 := by omega
    conv => cbv
    refine callF_frame (ralloc_lx c R n C B hC hB hn hR (rok_of hA.rows)) [(0, 1), (1, 2), (2, 3)] rfl (by simp [hmapOk, nget, hget, renB, okB, renV, renVs, rn, okVs, okV]) rfl rfl (fun r h' n' hrr => ?_)
    obtain ⟨i, s, b, R2, C2, B2, e1, e2, e3, hC2, hB2, hAl⟩ := hrr
    subst e1 e2 e3
    cases b with
    | false =>
      conv => cbv
      rw [hc] at hAl
      refine RetF.mk [.p (.int .i64 (.sym 0)), .p (.int .i64 (.sym 9))] [(0, .mix [.ptr 1 (.lit 0), .sl 4 3 1 (.lit 0) (.sym W)]), (1, .mix [.sl 2 3 1 (.lit 0) (.sym n), .sl 3 189 8 (.lit 0) (.sym n)]), (2, .pure true C2), (3, .pure true B2), (4, .pure true V)] 5 (Re.at [(0, 0), (1, 1), (2, 2), (3, 3), (4, 4)] []) rfl ⟨0, 9, R2, vs, C2, B2, V, rfl, rfl, rfl, hC2, hB2, hV, .room i s R2 hyk hAl⟩
    | true =>
      conv => cbv
      obtain ⟨hi0, hi1, hs0, hs1⟩ := alloced_in hA.rows hAl
      obtain ⟨w, hw⟩ : ∃ w, w = wordsOf c := ⟨_, rfl⟩
      have hmw : m < w ∧ w ≠ 0 := by rw [hw, hc]; exact ofN_words hyes
      have hwb := wordsOf_bd c
      rw [← hw] at hwb
      have hsw : (s.toNat : Int) * w + w ≤ 32 := by rw [hw]; exact slots_words (by rw [← hw]; exact hmw.2) (by omega)
      rw [show (s.toNat : Int) = s by omega] at hsw
      obtain ⟨sw, hsw2⟩ : ∃ sw, sw = s * w := ⟨_, rfl⟩
      have hsw0 : 0 ≤ sw := by rw [hsw2]; exact Int.mul_nonneg hs0 (by rw [hw]; exact (wordsOf_bd _).1)
      rw [← hsw2] at hsw
      refine Fit.mk (by show (-9223372036854775808 : Int) ≤ i * 32; omega) (by show i * 32 ≤ 9223372036854775807; omega) fun i32 hi32 => ?_
      have hi32 : i32 = i * 32 := hi32
      conv => cbv
      refine callF_frame (refWordsA_lx c w hw) [] rfl trivial rfl rfl (fun r h' n' ⟨e1, e2, e3⟩ => ?_)
      subst e1 e2 e3
      conv => cbv
      refine Fit.mk (by show (-9223372036854775808 : Int) ≤ s * w; rw [← hsw2]; omega) (by show s * w ≤ 9223372036854775807; rw [← hsw2]; omega) fun sw' hsw' => ?_
      have hsw' : sw' = sw := by rw [hsw2]; exact hsw'
      conv => cbv
      refine Fit.mk (by show (-9223372036854775808 : Int) ≤ i32 + sw'; omega) (by show i32 + sw' ≤ 9223372036854775807; omega) fun at_ hat => ?_
      have hat : at_ = i32 + sw' := hat
      have hat2 : at_ = 32 * i + sw := by omega
      conv => cbv
      have hloc : at_ + w ≤ W := by omega
      refine LoopF.mk (fun k st => ∃ (j : Int) (V2 : List PV), st = ⟨.ptr 0 (.lit 0) :: .p (.int .i64 (.sym kind)) :: .p (.int .i64 (.sym m)) :: (undefs 5 ++ .p (.int .i64 (.sym c)) :: (undefs 3 ++ .p (.int .i64 (.sym at_)) :: .p (.int .i64 (.sym j)) :: undefs 59)), [(0, .mix [.ptr 1 (.lit 0), .sl 4 3 1 (.lit 0) (.sym W)]), (1, .mix [.sl 2 3 1 (.lit 0) (.sym n), .sl 3 189 8 (.lit 0) (.sym n)]), (2, .pure true C2), (3, .pure true B2), (4, .pure true V2)], 5⟩ ∧ V2 = ipv (zer vs at_.toNat j.toNat) ∧ 0 ≤ j ∧ j ≤ w ∧ k = (w - j).toNat) w.toNat _
        (Re.at [(0, 0), (1, 1), (2, 2), (3, 3), (4, 4)] []) ⟨0, V, rfl, hV, by omega, by omega, by omega⟩ ?_
      rintro k st ⟨j, V2, rfl, hV2, hj0, hj1, hk⟩
      have hV2l : V2.length = vs.length := by rw [hV2, ipv_length, zer_length]
      conv => cbv
      refine callF_frame (refWordsA_lx c w hw) [] rfl trivial rfl rfl (fun r h' n' ⟨e1, e2, e3⟩ => ?_)
      subst e1 e2 e3
      conv => cbv
      refine Br.mk (fun g3 => ?_) (fun g3 => ?_)
      · have g3 : j < w := g3
        obtain ⟨k', rfl⟩ : ∃ k', k = k' + 1 := ⟨k - 1, by omega⟩
        obtain ⟨j2, hj2⟩ : ∃ j2, j2 = j + 1 := ⟨_, rfl⟩
        obtain ⟨V3, hV3⟩ : ∃ V3, V3 = ipv (zer vs at_.toNat j2.toNat) := ⟨_, rfl⟩
        conv => cbv
        refine Fit.mk (by show (-9223372036854775808 : Int) ≤ at_ + j; omega) (by show at_ + j ≤ 9223372036854775807; omega) fun x hx => ?_
        have hx : x = at_ + j := hx
        conv => cbv
        refine Need.mk ⟨by show 0 ≤ x; omega, by show x < W; omega⟩ ?_
        conv => cbv
        refine Need.mk (by show x + ((1 : Nat) : Int) ≤ (V2.length : Int); omega) ?_
        conv => cbv
        refine Upd.mk fun D2 hD2 => ?_
        have hle : pvles D2 V3 := by
          have hD2 : D2 = updL V2 x.toNat (repsP [.int .i64 (.lit 0)] 1) := hD2
          rw [hD2, hV3, hV2, show j2.toNat = j.toNat + 1 by omega, zer_snoc, show at_.toNat + j.toNat = x.toNat by omega]
          exact upd_zer 1 _ _ _ (pvles_self _)
        clear hD2
        unfold pvles at hle
        conv => cbv
        refine Fit.mk (by show (-9223372036854775808 : Int) ≤ j + 1; omega) (by show j + 1 ≤ 9223372036854775807; omega) fun j3 hj3 => ?_
        have hj3 : j3 = j + 1 := hj3
        obtain rfl : j3 = j2 := by omega
        conv => cbv
        refine Again.mk k' _ (Nat.lt_succ_self _) (Re.at [(0, 0), (1, 1), (2, 2), (3, 3), (4, 4)] []) ⟨j3, V3, rfl, hV3, by omega, by omega, by omega⟩
      · have g3 : ¬ j < w := g3
        have hjw : j = w := by omega
        subst hjw
        obtain ⟨V3, hV3⟩ : ∃ V3, V3 = ipv ((zer vs at_.toNat j.toNat).set at_.toNat (kind + 16 * m)) := ⟨_, rfl⟩
        have hres : AlloctV R vs kind m at_ 0 R2 ((zer vs at_.toNat j.toNat).set at_.toNat (kind + 16 * m)) := by
          rw [hw, hc]
          exact .ok i s at_ R2 hyk (hc ▸ hAl) (by rw [hat2, hsw2, hw, hc])
        conv => cbv
        refine Fit.mk (by show (-9223372036854775808 : Int) ≤ 16 * m; omega) (by show 16 * m ≤ 9223372036854775807; omega) fun x hx => ?_
        have hx : x = 16 * m := hx
        conv => cbv
        refine Fit.mk (by show (-9223372036854775808 : Int) ≤ kind + x; omega) (by show kind + x ≤ 9223372036854775807; omega) fun y hy => ?_
        have hy : y = kind + x := hy
        conv => cbv
        refine Need.mk ⟨by show 0 ≤ at_; omega, by show at_ < W; omega⟩ ?_
        conv => cbv
        refine Need.mk (by show at_ + ((1 : Nat) : Int) ≤ (V2.length : Int); omega) ?_
        conv => cbv
        refine Upd.mk fun D2 hD2 => ?_
        have hD2 : D2 = updL V2 at_.toNat [.int .i64 (.sym y)] := hD2
        have hD2 : D2 = V3 := by rw [hD2, hV2, hV3, updL_ipv, hy, hx]
        subst hD2
        conv => cbv
        refine RetF.mk [.p (.int .i64 (.sym at_)), .p (.int .i64 (.sym 0))] [(0, .mix [.ptr 1 (.lit 0), .sl 4 3 1 (.lit 0) (.sym W)]), (1, .mix [.sl 2 3 1 (.lit 0) (.sym n), .sl 3 189 8 (.lit 0) (.sym n)]), (2, .pure true C2), (3, .pure true B2), (4, .pure true D2)] 5 (Re.at [(0, 0), (1, 1), (2, 2), (3, 3), (4, 4)] []) rfl ⟨at_, 0, R2, _, C2, B2, D2, rfl, rfl, rfl, hC2, hB2, hV3, hres⟩
end Go.Proofs.YtolamdalijjlnaaGreatDoor
/-
  Layer 9: the reference's heap.
-/
namespace Go.Proofs.YtolamdalijjlnaaGreatDoor

open Go Go.LX
set_option maxRecDepth 100000
set_option linter.unusedVariables false
set_option linter.unusedSimpArgs false

structure RM (R : List Rw) (vs C G : List Int) (N W : Int) (P B V Q la : List PV) (m : Int) : Prop where
  a : AOk R vs

  n : N = R.length
  r : R.length ≤ 1000
  w : W = 32 * N
  p : P = cpv R
  b : B = bpv R
  v : V = ipv vs
  q : Q = ipv C
  c : (C.length : Int) = W
  l : la = i64s G
  m : m = G.length
  g : ∀ x ∈ G, 0 ≤ x ∧ x < W
  g8 : G.length ≤ 8
theorem RM.shade {R : List Rw} {vs C G C' G' : List Int} {N W m m' : Int} {P B V Q Q' la la' : List PV} {ph a : Int} {ov ov' : Bool} (h : RM R vs C G N W P B V Q la m) (hs : (C', G', ov') = Go.Proofs.YtolamdalijjlnaaGreatDoor.shade R ph a (C, G, ov)) (hQ : Q' = ipv C') (hl : la' = i64s G') (hm : m' = G'.length) : RM R vs C' G' N W P B V Q' la' m' := by
  unfold Go.Proofs.YtolamdalijjlnaaGreatDoor.shade at hs
  split at hs
  · rename_i hc
    have hb := obj_bd h.a hc.2.1
    have hn := h.n; have hw := h.w
    split at hs
    · rename_i h8
      have h8 : G.length < 8 := h8
      have hl8 : (G ++ [a]).length ≤ 8 := by rw [List.length_append]; show G.length + 1 ≤ 8; omega
      cases hs
      refine ⟨h.a, h.n, h.r, h.w, h.p, h.b, h.v, hQ, by rw [List.length_set]; exact h.c, hl, hm, fun x hx => ?_, hl8⟩
      rcases List.mem_append.1 hx with hx | hx
      · exact h.g x hx
      · rw [List.mem_singleton.1 hx]; omega
    · cases hs
      exact ⟨h.a, h.n, h.r, h.w, h.p, h.b, h.v, hQ, by rw [List.length_set]; exact h.c, hl, hm, h.g, h.g8⟩
  · cases hs
    exact ⟨h.a, h.n, h.r, h.w, h.p, h.b, h.v, hQ, h.c, hl, hm, h.g, h.g8⟩
theorem rIsPtr_lx (w : Int) : CallF (fun _ => Tryz.prog) 35 [.p (.int .i64 (.sym w))] [] 0 (fun r h n => ∃ b : Bool, r = .p (.bool b) ∧ h = [] ∧ n = 0 ∧ (b = true ↔ w % 2 = 1)) := by
  refine callF_of_body tok Tryz.func35 (by kernel_rfl) rfl rfl rfl ?_; conv => cbv
  refine Sum.mk fun u hu => ?_
  have hu : u = w % 2 := hu.trans (and1_bv w)
  conv => cbv
  refine Br.mk (fun g => ?_) (fun g => ?_)
  · have g : u = 1 := g
    conv => cbv
    refine RetF.mk [.p (.bool true)] [] 0 (Re.at [] []) rfl ⟨true, rfl, rfl, rfl, fun _ => (by omega), fun _ => rfl⟩
  · have g : ¬ u = 1 := g
    conv => cbv
    refine RetF.mk [.p (.bool false)] [] 0 (Re.at [] []) rfl ⟨false, rfl, rfl, rfl, fun k => (by cases k), fun k => absurd k (by omega)⟩
theorem rAt_lx (w : Int) (hw : -9223372036854775808 ≤ w ∧ w ≤ 9223372036854775807) : CallF (fun _ => Tryz.prog) 91 [.p (.int .i64 (.sym w))] [] 0 (fun r h n => ∃ x : Int, r = .p (.int .i64 (.sym x)) ∧ h = [] ∧ n = 0 ∧ (w % 2 = 1 → x = (w - 1) / 2) ∧ (¬ w % 2 = 1 → x = -1)) := by
  refine callF_of_body tok Tryz.func91 (by kernel_rfl) rfl rfl rfl ?_; conv => cbv
  refine callF_frame (rIsPtr_lx w) [] rfl trivial rfl rfl (fun r h' n' hrr => ?_)
  obtain ⟨b, e1, e2, e3, hb⟩ := hrr
  subst e1 e2 e3
  cases b with
  | false =>
    have hb : ¬ w % 2 = 1 := fun k => by have := hb.2 k; cases this
    conv => cbv
    refine RetF.mk [.p (.int .i64 (.sym (-1)))] [] 0 (Re.at [] []) rfl ⟨-1, rfl, rfl, rfl, fun k => absurd k hb, fun _ => rfl⟩
  | true =>
    have hb : w % 2 = 1 := hb.1 rfl
    conv => cbv
    refine Fit.mk (by show (-9223372036854775808 : Int) ≤ w - 1; omega) (by show w - 1 ≤ 9223372036854775807; omega) fun v hv => ?_
    have hv : v = w - 1 := hv
    have hdv : v.tdiv 2 = (w - 1) / 2 := by rw [hv]; exact Int.tdiv_eq_ediv_of_dvd (by omega)
    conv => cbv
    refine Fit.mk (by show (-9223372036854775808 : Int) ≤ v.tdiv 2; omega) (by show v.tdiv 2 ≤ 9223372036854775807; omega) fun y hy => ?_
    have hy : y = (w - 1) / 2 := hy.trans hdv
    conv => cbv
    refine RetF.mk [.p (.int .i64 (.sym y))] [] 0 (Re.at [] []) rfl ⟨y, rfl, rfl, rfl, fun _ => hy, fun k => absurd hb k⟩
set_option maxHeartbeats 2000000 in
theorem rshade_lx (R : List Rw) (vs C G : List Int) (N W ph sp cy : Int) (P B V Q la : List PV) (m : Int) (ov : Bool) (h : RM R vs C G N W P B V Q la m) (a : Int) : CallF (fun _ => Tryz.prog) 75 [.ptr 0 (.lit 0), .p (.int .i64 (.sym a))] [(0, .mix [.ptr 1 (.lit 0), .sl 6 3 1 (.lit 0) (.sym W), .ptr 7 (.lit 0), .p (.int .i64 (.sym ph)), .p (.int .i64 (.sym sp)), .p (.int .i64 (.sym cy))]), (1, .mix [.ptr 2 (.lit 0), .sl 5 3 1 (.lit 0) (.sym W)]), (2, .mix [.sl 3 3 1 (.lit 0) (.sym N), .sl 4 189 8 (.lit 0) (.sym N)]), (3, .pure true P), (4, .pure true B), (5, .pure true V), (6, .pure true Q), (7, .mix [.p (.vsl (.sym m) true la), .p (.bool ov)])] 8 (fun r h n => ∃ (C' G' : List Int) (ov' : Bool) (Q' la' : List PV) (m' : Int), r = .tup [] ∧ h = [(0, .mix [.ptr 1 (.lit 0), .sl 6 3 1 (.lit 0) (.sym W), .ptr 7 (.lit 0), .p (.int .i64 (.sym ph)), .p (.int .i64 (.sym sp)), .p (.int .i64 (.sym cy))]), (1, .mix [.ptr 2 (.lit 0), .sl 5 3 1 (.lit 0) (.sym W)]), (2, .mix [.sl 3 3 1 (.lit 0) (.sym N), .sl 4 189 8 (.lit 0) (.sym N)]), (3, .pure true P), (4, .pure true B), (5, .pure true V), (6, .pure true Q'), (7, .mix [.p (.vsl (.sym m') true la'), .p (.bool ov')])] ∧ n = 8 ∧ RM R vs C' G' N W P B V Q' la' m' ∧ (C', G', ov') = shade R ph a (C, G, ov)) := by
  have hCl := h.c; have hWn := h.w; have hNr := h.n; have hRr := h.r
  have hQl : Q.length = C.length := by rw [h.q, ipv_length]
  refine callF_of_body tok Tryz.func75 (by kernel_rfl) rfl rfl rfl ?_; conv => cbv
  refine Br.mk (fun g => ?_) (fun g => ?_)
  · have g : ph = 1 := g
    conv => cbv
    refine callF_frame (ris_lx R vs N a W P B V h.p h.b h.v h.n h.r h.a h.w) [(0, 1), (1, 2), (2, 3), (3, 4), (4, 5)] rfl (by simp [hmapOk, nget, hget, renB, okB, renV, renVs, rn, okVs, okV]) rfl rfl (fun r h' n' hrr => ?_)
    obtain ⟨b, e1, e2, e3, hb⟩ := hrr
    subst e1 e2 e3
    cases b with
    | false =>
      conv => cbv
      refine RetF.mk [] [(0, .mix [.ptr 1 (.lit 0), .sl 6 3 1 (.lit 0) (.sym W), .ptr 7 (.lit 0), .p (.int .i64 (.sym ph)), .p (.int .i64 (.sym sp)), .p (.int .i64 (.sym cy))]), (1, .mix [.ptr 2 (.lit 0), .sl 5 3 1 (.lit 0) (.sym W)]), (2, .mix [.sl 3 3 1 (.lit 0) (.sym N), .sl 4 189 8 (.lit 0) (.sym N)]), (3, .pure true P), (4, .pure true B), (5, .pure true V), (6, .pure true Q), (7, .mix [.p (.vsl (.sym m) true la), .p (.bool ov)])] 8 (Re.at [(0, 0), (1, 1), (2, 2), (3, 3), (4, 4), (5, 5), (6, 6), (7, 7)] []) rfl ⟨C, G, ov, Q, la, m, rfl, rfl, rfl, h, by unfold Go.Proofs.YtolamdalijjlnaaGreatDoor.shade; rw [if_neg (fun k => by have := hb.2 ((obj_iff h.a a).1 k.2.1); cases this)]⟩
    | true =>
      have hob : a ∈ objs R := (obj_iff h.a a).2 (hb.1 rfl)
      have hbd := obj_bd h.a hob
      obtain ⟨x, hx⟩ : ∃ x, C[a.toNat]? = some x := ⟨_, List.getElem?_eq_getElem (by omega)⟩
      have hq : Q[a.toNat]? = some (.int .i64 (.sym x)) := by rw [h.q]; exact ipv_get hx
      conv => cbv
      refine Need.mk ⟨by show 0 ≤ a; omega, by show a < W; omega⟩ ?_
      conv => cbv
      refine Cell.at a _ hq (by simp [I.val]) rfl ?_
      conv => cbv
      refine Br.mk (fun g2 => ?_) (fun g2 => ?_)
      · have g2 : x = 0 := g2
        conv => cbv
        refine Need.mk ⟨by show 0 ≤ a; omega, by show a < W; omega⟩ ?_
        conv => cbv
        obtain ⟨Q3, hQ3⟩ : ∃ Q3, Q3 = ipv (C.set a.toNat 1) := ⟨_, rfl⟩
        refine Need.mk (by show a + 1 ≤ (Q.length : Int); omega) ?_
        conv => cbv
        refine Upd.mk fun Q2 hQ2 => ?_
        have hle : pvles Q2 Q3 := by
          have hQ2 : Q2 = Q.set a.toNat (.int .i64 (.lit 1)) := hQ2
          rw [hQ2, hQ3, h.q, ← ipv_set]
          exact pvles_set _ _ _ _ _ (pvles_refl _) (by simp [pvle, I.val])
        unfold pvles at hle
        clear hQ2
        conv => cbv
        refine callF_frame (refPush_lx G a m la ov h.m h.l h.g8) [(0, 7)] rfl (by simp [hmapOk, nget, hget, renB, okB, renV, renVs, rn, okVs, okV]) rfl rfl (fun r h' n' hrr => ?_)
        obtain ⟨b2, ov', m', la', G', e1, e2, e3, hm', hl', hp1, hp2⟩ := hrr
        subst e1 e2 e3
        have hsh : (C.set a.toNat 1, G', ov') = Go.Proofs.YtolamdalijjlnaaGreatDoor.shade R ph a (C, G, ov) := by
          unfold Go.Proofs.YtolamdalijjlnaaGreatDoor.shade
          rw [if_pos ⟨g, hob, by rw [hx, g2]⟩]
          dsimp only
          split
          · obtain ⟨_, q1, q2⟩ := hp1 (by assumption)
            rw [q1, q2]
          · obtain ⟨_, q1, q2⟩ := hp2 (by omega)
            rw [q1, q2]
        conv => cbv
        refine RetF.mk [] [(0, .mix [.ptr 1 (.lit 0), .sl 6 3 1 (.lit 0) (.sym W), .ptr 7 (.lit 0), .p (.int .i64 (.sym ph)), .p (.int .i64 (.sym sp)), .p (.int .i64 (.sym cy))]), (1, .mix [.ptr 2 (.lit 0), .sl 5 3 1 (.lit 0) (.sym W)]), (2, .mix [.sl 3 3 1 (.lit 0) (.sym N), .sl 4 189 8 (.lit 0) (.sym N)]), (3, .pure true P), (4, .pure true B), (5, .pure true V), (6, .pure true Q3), (7, .mix [.p (.vsl (.sym m') true la'), .p (.bool ov')])] 8 (Re.at [(0, 0), (1, 1), (2, 2), (3, 3), (4, 4), (5, 5), (6, 6), (7, 7)] []) rfl ⟨_, G', ov', Q3, la', m', rfl, rfl, rfl, h.shade hsh hQ3 hl' hm', hsh⟩
      · have g2 : ¬ x = 0 := g2
        conv => cbv
        refine RetF.mk [] [(0, .mix [.ptr 1 (.lit 0), .sl 6 3 1 (.lit 0) (.sym W), .ptr 7 (.lit 0), .p (.int .i64 (.sym ph)), .p (.int .i64 (.sym sp)), .p (.int .i64 (.sym cy))]), (1, .mix [.ptr 2 (.lit 0), .sl 5 3 1 (.lit 0) (.sym W)]), (2, .mix [.sl 3 3 1 (.lit 0) (.sym N), .sl 4 189 8 (.lit 0) (.sym N)]), (3, .pure true P), (4, .pure true B), (5, .pure true V), (6, .pure true Q), (7, .mix [.p (.vsl (.sym m) true la), .p (.bool ov)])] 8 (Re.at [(0, 0), (1, 1), (2, 2), (3, 3), (4, 4), (5, 5), (6, 6), (7, 7)] []) rfl ⟨C, G, ov, Q, la, m, rfl, rfl, rfl, h, by unfold Go.Proofs.YtolamdalijjlnaaGreatDoor.shade; rw [if_neg (fun k => g2 (Option.some.inj (hx.symm.trans k.2.2)))]⟩
  · have g : ¬ ph = 1 := g
    conv => cbv
    refine RetF.mk [] [(0, .mix [.ptr 1 (.lit 0), .sl 6 3 1 (.lit 0) (.sym W), .ptr 7 (.lit 0), .p (.int .i64 (.sym ph)), .p (.int .i64 (.sym sp)), .p (.int .i64 (.sym cy))]), (1, .mix [.ptr 2 (.lit 0), .sl 5 3 1 (.lit 0) (.sym W)]), (2, .mix [.sl 3 3 1 (.lit 0) (.sym N), .sl 4 189 8 (.lit 0) (.sym N)]), (3, .pure true P), (4, .pure true B), (5, .pure true V), (6, .pure true Q), (7, .mix [.p (.vsl (.sym m) true la), .p (.bool ov)])] 8 (Re.at [(0, 0), (1, 1), (2, 2), (3, 3), (4, 4), (5, 5), (6, 6), (7, 7)] []) rfl ⟨C, G, ov, Q, la, m, rfl, rfl, rfl, h, by unfold Go.Proofs.YtolamdalijjlnaaGreatDoor.shade; rw [if_neg (fun k => g k.1)]⟩
theorem RM.stored {R : List Rw} {vs vs' C G : List Int} {N W m : Int} {P B V V' Q la : List PV} {a i x e : Int} (h : RM R vs C G N W P B V Q la m) (hx : -9223372036854775808 ≤ x ∧ x ≤ 9223372036854775807) (hs : Stored R vs a i x e vs') (hV : V' = ipv vs') : RM R vs' C G N W P B V' Q la m :=
  ⟨h.a.stored hx hs, h.n, h.r, h.w, h.p, h.b, hV, h.q, h.c, h.l, h.m, h.g, h.g8⟩
set_option maxHeartbeats 2000000 in
theorem rstore9_lx (R : List Rw) (vs C G : List Int) (N W ph sp cy : Int) (P B V Q la : List PV) (m : Int) (ov : Bool) (h : RM R vs C G N W P B V Q la m) (a i x : Int) (hx : -9223372036854775808 ≤ x ∧ x ≤ 9223372036854775807) : CallF (fun _ => Tryz.prog) 46 [.ptr 0 (.lit 0), .p (.int .i64 (.sym a)), .p (.int .i64 (.sym i)), .p (.int .i64 (.sym x))] [(0, .mix [.ptr 1 (.lit 0), .sl 6 3 1 (.lit 0) (.sym W), .ptr 7 (.lit 0), .p (.int .i64 (.sym ph)), .p (.int .i64 (.sym sp)), .p (.int .i64 (.sym cy))]), (1, .mix [.ptr 2 (.lit 0), .sl 5 3 1 (.lit 0) (.sym W)]), (2, .mix [.sl 3 3 1 (.lit 0) (.sym N), .sl 4 189 8 (.lit 0) (.sym N)]), (3, .pure true P), (4, .pure true B), (5, .pure true V), (6, .pure true Q), (7, .mix [.p (.vsl (.sym m) true la), .p (.bool ov)])] 8 (fun r h n => ∃ (e : Int) (vs' C' G' : List Int) (ov' : Bool) (V' Q' la' : List PV) (m' : Int), r = .p (.int .i64 (.sym e)) ∧ h = [(0, .mix [.ptr 1 (.lit 0), .sl 6 3 1 (.lit 0) (.sym W), .ptr 7 (.lit 0), .p (.int .i64 (.sym ph)), .p (.int .i64 (.sym sp)), .p (.int .i64 (.sym cy))]), (1, .mix [.ptr 2 (.lit 0), .sl 5 3 1 (.lit 0) (.sym W)]), (2, .mix [.sl 3 3 1 (.lit 0) (.sym N), .sl 4 189 8 (.lit 0) (.sym N)]), (3, .pure true P), (4, .pure true B), (5, .pure true V'), (6, .pure true Q'), (7, .mix [.p (.vsl (.sym m') true la'), .p (.bool ov')])] ∧ n = 8 ∧ RM R vs' C' G' N W P B V' Q' la' m' ∧ Stored R vs a i x e vs' ∧ (C', G', ov') = storeS R ph e x (C, G, ov)) := by
  refine callF_of_body tok Tryz.func46 (by kernel_rfl) rfl rfl rfl ?_; conv => cbv
  refine callF_frame (rstore_lx i x R vs N a W P B V h.p h.b h.v h.n h.r h.a h.w) [(0, 1), (1, 2), (2, 3), (3, 4), (4, 5)] rfl (by simp [hmapOk, nget, hget, renB, okB, renV, renVs, rn, okVs, okV]) rfl rfl (fun r h' n' hrr => ?_)
  obtain ⟨e, vs', V', e1, e2, e3, hV', hT⟩ := hrr
  subst e1 e2 e3
  conv => cbv
  have h2 := h.stored hx hT hV'
  refine Br.mk (fun g => ?_) (fun g => ?_)
  · have g : e = 0 := g
    conv => cbv
    refine callF_frame (rIsPtr_lx x) [] rfl trivial rfl rfl (fun r h' n' hrr => ?_)
    obtain ⟨b, e1, e2, e3, hb⟩ := hrr
    subst e1 e2 e3
    cases b with
    | false =>
      have hb : ¬ x % 2 = 1 := fun k => by have := hb.2 k; cases this
      conv => cbv
      refine RetF.mk [.p (.int .i64 (.sym e))] [(0, .mix [.ptr 1 (.lit 0), .sl 6 3 1 (.lit 0) (.sym W), .ptr 7 (.lit 0), .p (.int .i64 (.sym ph)), .p (.int .i64 (.sym sp)), .p (.int .i64 (.sym cy))]), (1, .mix [.ptr 2 (.lit 0), .sl 5 3 1 (.lit 0) (.sym W)]), (2, .mix [.sl 3 3 1 (.lit 0) (.sym N), .sl 4 189 8 (.lit 0) (.sym N)]), (3, .pure true P), (4, .pure true B), (5, .pure true V'), (6, .pure true Q), (7, .mix [.p (.vsl (.sym m) true la), .p (.bool ov)])] 8 (Re.at [(0, 0), (1, 1), (2, 2), (3, 3), (4, 4), (5, 5), (6, 6), (7, 7)] []) rfl ⟨e, vs', C, G, ov, V', Q, la, m, rfl, rfl, rfl, h2, hT, by unfold storeS shadeW; rw [if_pos g, if_neg hb]⟩
    | true =>
      have hb : x % 2 = 1 := hb.1 rfl
      conv => cbv
      refine callF_frame (rAt_lx x hx) [] rfl trivial rfl rfl (fun r h' n' hrr => ?_)
      obtain ⟨y, e1, e2, e3, hy, _⟩ := hrr
      subst e1 e2 e3
      have hy := hy hb
      conv => cbv
      refine callF_frame (rshade_lx R vs' C G N W ph sp cy P B V' Q la m ov h2 y) [(0, 0), (1, 1), (2, 2), (3, 3), (4, 4), (5, 5), (6, 6), (7, 7)] rfl (by simp [hmapOk, nget, hget, renB, okB, renV, renVs, rn, okVs, okV]) rfl rfl (fun r h' n' hrr => ?_)
      obtain ⟨C', G', ov', Q', la', m', e1, e2, e3, h3, hs⟩ := hrr
      subst e1 e2 e3
      conv => cbv
      refine RetF.mk [.p (.int .i64 (.sym e))] [(0, .mix [.ptr 1 (.lit 0), .sl 6 3 1 (.lit 0) (.sym W), .ptr 7 (.lit 0), .p (.int .i64 (.sym ph)), .p (.int .i64 (.sym sp)), .p (.int .i64 (.sym cy))]), (1, .mix [.ptr 2 (.lit 0), .sl 5 3 1 (.lit 0) (.sym W)]), (2, .mix [.sl 3 3 1 (.lit 0) (.sym N), .sl 4 189 8 (.lit 0) (.sym N)]), (3, .pure true P), (4, .pure true B), (5, .pure true V'), (6, .pure true Q'), (7, .mix [.p (.vsl (.sym m') true la'), .p (.bool ov')])] 8 (Re.at [(0, 0), (1, 1), (2, 2), (3, 3), (4, 4), (5, 5), (6, 6), (7, 7)] []) rfl ⟨e, vs', C', G', ov', V', Q', la', m', rfl, rfl, rfl, h3, hT, by unfold storeS shadeW; rw [if_pos g, if_pos hb, ← hy]; exact hs⟩
  · have g : ¬ e = 0 := g
    conv => cbv
    refine RetF.mk [.p (.int .i64 (.sym e))] [(0, .mix [.ptr 1 (.lit 0), .sl 6 3 1 (.lit 0) (.sym W), .ptr 7 (.lit 0), .p (.int .i64 (.sym ph)), .p (.int .i64 (.sym sp)), .p (.int .i64 (.sym cy))]), (1, .mix [.ptr 2 (.lit 0), .sl 5 3 1 (.lit 0) (.sym W)]), (2, .mix [.sl 3 3 1 (.lit 0) (.sym N), .sl 4 189 8 (.lit 0) (.sym N)]), (3, .pure true P), (4, .pure true B), (5, .pure true V'), (6, .pure true Q), (7, .mix [.p (.vsl (.sym m) true la), .p (.bool ov)])] 8 (Re.at [(0, 0), (1, 1), (2, 2), (3, 3), (4, 4), (5, 5), (6, 6), (7, 7)] []) rfl ⟨e, vs', C, G, ov, V', Q, la, m, rfl, rfl, rfl, h2, hT, by unfold storeS; rw [if_neg g]⟩
end Go.Proofs.YtolamdalijjlnaaGreatDoor
/-
  Layer 9: the reference's heap: words, what is allotted, a cycle begun.
-/
namespace Go.Proofs.YtolamdalijjlnaaGreatDoor

open Go Go.LX
set_option maxRecDepth 100000
set_option linter.unusedVariables false
set_option linter.unusedSimpArgs false

theorem alloctV_gen9 {R R' : List Rw} {vs vs' : List Int} {kind n a e : Int} (hA : AOk R vs) (h : AlloctV R vs kind n a e R' vs') :
    AOk R' vs' ∧ R'.length = R.length ∧ ((e ≠ 0 ∧ a = 0 ∧ R' = R ∧ vs' = vs) ∨ (e = 0 ∧ (0 ≤ n ∧ n ≤ 31 ∧ 1 ≤ kind ∧ kind ≤ 6) ∧ Kept R' vs' a kind n ∧ (∀ b k l, Kept R vs b k l → Kept R' vs' b k l ∧ b ≠ a ∧ ∀ i, 0 ≤ i → i < l → vs'[(b + 1 + i).toNat]? = vs[(b + 1 + i).toNat]?) ∧ (∀ b, IsObj R' b → b = a ∨ IsObj R b))) := by
  cases h with
  | arg h => exact ⟨hA, rfl, .inl ⟨by decide, rfl, rfl, rfl⟩⟩
  | room i s R' hc ha =>
    obtain ⟨rfl, _⟩ := full_count hA.rows (ofN_slots n) ha
    exact ⟨hA, rfl, .inl ⟨by decide, rfl, rfl, rfl⟩⟩
  | ok i s _ R' hc ha hat =>
    obtain ⟨w, hw⟩ : ∃ w, w = wordsOf (ofN n) := ⟨_, rfl⟩
    obtain ⟨q1, q2, q3, q4, q5⟩ := alloc_objs hA.rows ha a w hat hw
    have hobj : ObjAt R' a w := (q5 _ _).2 (.inr ⟨rfl, rfl⟩)
    obtain ⟨f1, f2, f3, _⟩ := hobj.facts q1
    have hnw : n < w := by rw [hw]; exact (ofN_words ⟨hc.1, hc.2.1⟩).1
    have hlv := hA.len
    have gv : ∀ j : Nat, j < vs.length → j ≠ a.toNat → ((zer vs a.toNat (wordsOf (ofN n)).toNat).set a.toNat (kind + 16 * n))[j]? = if a.toNat ≤ j ∧ j < a.toNat + (wordsOf (ofN n)).toNat then some 0 else vs[j]? := fun j hj hne => by
      rw [List.getElem?_set_ne (fun e => hne e.symm), zer_get _ _ _ _ hj]
    rw [← hw] at gv ⊢
    have farv : ∀ j : Nat, (j : Int) < a ∨ a + w ≤ j → ((zer vs a.toNat w.toNat).set a.toNat (kind + 16 * n))[j]? = vs[j]? := fun j hj => by
      by_cases hjl : j < vs.length
      · rw [gv j hjl (by omega), if_neg (by omega)]
      · rw [List.getElem?_eq_none (by rw [List.length_set, zer_length]; omega), List.getElem?_eq_none (by omega)]
    have hbdv : ∀ x ∈ (zer vs a.toNat w.toNat).set a.toNat (kind + 16 * n), -9223372036854775808 ≤ x ∧ x ≤ 9223372036854775807 := by
      intro x hx
      rcases List.mem_or_eq_of_mem_set hx with hx | rfl
      · obtain ⟨j, hj⟩ := List.getElem?_of_mem hx
        have hjl : j < vs.length := by have := (List.getElem?_eq_some_iff.1 hj).1; rw [zer_length] at this; exact this
        rw [zer_get _ _ _ _ hjl] at hj
        split at hj
        · cases hj; omega
        · exact hA.bd x (List.mem_of_getElem? hj)
      · omega
    obtain ⟨r1, r2, r3, r4⟩ := alloc_gen hA hc ha hat hw (by rw [List.length_set, zer_length]) (by rw [List.getElem?_set_self (by rw [zer_length]; omega)]) farv hbdv
    exact ⟨r1, q2, .inr ⟨rfl, hc, r2, r3, r4⟩⟩
theorem RM.alloct {R R' : List Rw} {vs vs' C C' G : List Int} {N W m : Int} {P P' B B' V V' Q Q' la : List PV} {kind n a e : Int} (h : RM R vs C G N W P B V Q la m) (hs : AlloctV R vs kind n a e R' vs') (hP : P' = cpv R') (hB : B' = bpv R') (hV : V' = ipv vs') (hC : C'.length = C.length) (hQ : Q' = ipv C') : RM R' vs' C' G N W P' B' V' Q' la m := by
  obtain ⟨h1, h2, _⟩ := alloctV_gen9 h.a hs
  exact ⟨h1, by rw [h2]; exact h.n, by rw [h2]; exact h.r, h.w, hP, hB, hV, hQ, by rw [hC]; exact h.c, h.l, h.m, h.g, h.g8⟩
set_option maxHeartbeats 2000000 in
theorem ralloc9_lx (R : List Rw) (vs C G : List Int) (N W ph sp cy : Int) (P B V Q la : List PV) (m : Int) (ov : Bool) (h : RM R vs C G N W P B V Q la m) (kind mm : Int) : CallF (fun _ => Tryz.prog) 79 [.ptr 0 (.lit 0), .p (.int .i64 (.sym kind)), .p (.int .i64 (.sym mm))] [(0, .mix [.ptr 1 (.lit 0), .sl 6 3 1 (.lit 0) (.sym W), .ptr 7 (.lit 0), .p (.int .i64 (.sym ph)), .p (.int .i64 (.sym sp)), .p (.int .i64 (.sym cy))]), (1, .mix [.ptr 2 (.lit 0), .sl 5 3 1 (.lit 0) (.sym W)]), (2, .mix [.sl 3 3 1 (.lit 0) (.sym N), .sl 4 189 8 (.lit 0) (.sym N)]), (3, .pure true P), (4, .pure true B), (5, .pure true V), (6, .pure true Q), (7, .mix [.p (.vsl (.sym m) true la), .p (.bool ov)])] 8 (fun r h n => ∃ (a e : Int) (R' : List Rw) (vs' C' : List Int) (P' B' V' Q' : List PV), r = .tup [.p (.int .i64 (.sym a)), .p (.int .i64 (.sym e))] ∧ h = [(0, .mix [.ptr 1 (.lit 0), .sl 6 3 1 (.lit 0) (.sym W), .ptr 7 (.lit 0), .p (.int .i64 (.sym ph)), .p (.int .i64 (.sym sp)), .p (.int .i64 (.sym cy))]), (1, .mix [.ptr 2 (.lit 0), .sl 5 3 1 (.lit 0) (.sym W)]), (2, .mix [.sl 3 3 1 (.lit 0) (.sym N), .sl 4 189 8 (.lit 0) (.sym N)]), (3, .pure true P'), (4, .pure true B'), (5, .pure true V'), (6, .pure true Q'), (7, .mix [.p (.vsl (.sym m) true la), .p (.bool ov)])] ∧ n = 8 ∧ RM R' vs' C' G N W P' B' V' Q' la m ∧ AlloctV R vs kind mm a e R' vs' ∧ C' = allocC ph a e C) := by
  have hCl := h.c; have hWn := h.w; have hNr := h.n; have hRr := h.r
  have hQl : Q.length = C.length := by rw [h.q, ipv_length]
  refine callF_of_body tok Tryz.func79 (by kernel_rfl) rfl rfl rfl ?_; conv => cbv
  refine callF_frame (rallocA_lx kind mm R vs N W P B V h.p h.b h.v h.n h.r h.a h.w) [(0, 1), (1, 2), (2, 3), (3, 4), (4, 5)] rfl (by simp [hmapOk, nget, hget, renB, okB, renV, renVs, rn, okVs, okV]) rfl rfl (fun r h' n' hrr => ?_)
  obtain ⟨a, e, R', vs', P', B', V', e1, e2, e3, hP', hB', hV', hT⟩ := hrr
  subst e1 e2 e3
  conv => cbv
  have hgen := alloctV_gen9 h.a hT
  refine Br.mk (fun g => ?_) (fun g => ?_)
  · have g : e ≠ 0 := g
    have ha0 : a = 0 := by
      rcases hgen.2.2 with h | h
      · exact h.2.1
      · exact absurd h.1 g
    conv => cbv
    refine RetF.mk [.p (.int .i64 (.sym a)), .p (.int .i64 (.sym e))] [(0, .mix [.ptr 1 (.lit 0), .sl 6 3 1 (.lit 0) (.sym W), .ptr 7 (.lit 0), .p (.int .i64 (.sym ph)), .p (.int .i64 (.sym sp)), .p (.int .i64 (.sym cy))]), (1, .mix [.ptr 2 (.lit 0), .sl 5 3 1 (.lit 0) (.sym W)]), (2, .mix [.sl 3 3 1 (.lit 0) (.sym N), .sl 4 189 8 (.lit 0) (.sym N)]), (3, .pure true P'), (4, .pure true B'), (5, .pure true V'), (6, .pure true Q), (7, .mix [.p (.vsl (.sym m) true la), .p (.bool ov)])] 8 (Re.at [(0, 0), (1, 1), (2, 2), (3, 3), (4, 4), (5, 5), (6, 6), (7, 7)] []) rfl ⟨a, e, R', vs', C, P', B', V', Q, rfl, rfl, rfl, h.alloct hT hP' hB' hV' rfl h.q, hT, by unfold allocC; rw [if_neg g]⟩
  · have g : ¬ e ≠ 0 := g
    have g : e = 0 := by omega
    have hA1 := hgen.1
    have hlR := hgen.2.1
    have hb : 0 ≤ a ∧ a < W := by
      rcases hgen.2.2 with h | h
      · exact absurd g h.1
      · have h1 := (h.2.2.1).bounds hA1
        omega
    obtain ⟨C', hC'⟩ : ∃ C', C' = allocC ph a e C := ⟨_, rfl⟩
    obtain ⟨Q', hQ'⟩ : ∃ Q', Q' = ipv C' := ⟨_, rfl⟩
    have hfin := h.alloct hT hP' hB' hV' (by rw [hC']; exact allocC_length _ _ _ _) hQ'
    conv => cbv
    refine Need.mk ⟨by show 0 ≤ a; omega, by show a < W; omega⟩ ?_
    conv => cbv
    refine Need.mk (by show a + 1 ≤ (Q.length : Int); omega) ?_
    conv => cbv
    refine Upd.mk fun Q2 hQ2 => ?_
    have hQ2 : Q2 = Q.set a.toNat (.int .i64 (.lit 0)) := hQ2
    conv => cbv
    refine Br.mk (fun gp => ?_) (fun gp => ?_)
    · have gp : ph ≠ 0 := gp
      conv => cbv
      refine Need.mk ⟨by show 0 ≤ a; omega, by show a < W; omega⟩ ?_
      conv => cbv
      refine Need.mk (by show a + 1 ≤ (Q2.length : Int); rw [hQ2, List.length_set]; omega) ?_
      conv => cbv
      refine Upd.mk fun Q3 hQ3 => ?_
      have hle : pvles Q3 Q' := by
        have hQ3 : Q3 = Q2.set a.toNat (.int .i64 (.lit 2)) := hQ3
        rw [hQ3, hQ2, hQ', hC', allocC, if_pos g, if_neg gp, h.q, ← ipv_set, List.set_set]
        exact pvles_set _ _ _ _ _ (pvles_refl _) (by simp [pvle, I.val])
      unfold pvles at hle
      clear hQ3 hQ2
      conv => cbv
      refine RetF.mk [.p (.int .i64 (.sym a)), .p (.int .i64 (.sym e))] [(0, .mix [.ptr 1 (.lit 0), .sl 6 3 1 (.lit 0) (.sym W), .ptr 7 (.lit 0), .p (.int .i64 (.sym ph)), .p (.int .i64 (.sym sp)), .p (.int .i64 (.sym cy))]), (1, .mix [.ptr 2 (.lit 0), .sl 5 3 1 (.lit 0) (.sym W)]), (2, .mix [.sl 3 3 1 (.lit 0) (.sym N), .sl 4 189 8 (.lit 0) (.sym N)]), (3, .pure true P'), (4, .pure true B'), (5, .pure true V'), (6, .pure true Q'), (7, .mix [.p (.vsl (.sym m) true la), .p (.bool ov)])] 8 (Re.at [(0, 0), (1, 1), (2, 2), (3, 3), (4, 4), (5, 5), (6, 6), (7, 7)] []) rfl ⟨a, e, R', vs', C', P', B', V', Q', rfl, rfl, rfl, hfin, hT, hC'⟩
    · have gp : ¬ ph ≠ 0 := gp
      have gp : ph = 0 := by omega
      have hle : pvles Q2 Q' := by
        rw [hQ2, hQ', hC', allocC, if_pos g, if_pos gp, h.q, ← ipv_set]
        exact pvles_set _ _ _ _ _ (pvles_refl _) (by simp [pvle, I.val])
      unfold pvles at hle
      clear hQ2
      conv => cbv
      refine RetF.mk [.p (.int .i64 (.sym a)), .p (.int .i64 (.sym e))] [(0, .mix [.ptr 1 (.lit 0), .sl 6 3 1 (.lit 0) (.sym W), .ptr 7 (.lit 0), .p (.int .i64 (.sym ph)), .p (.int .i64 (.sym sp)), .p (.int .i64 (.sym cy))]), (1, .mix [.ptr 2 (.lit 0), .sl 5 3 1 (.lit 0) (.sym W)]), (2, .mix [.sl 3 3 1 (.lit 0) (.sym N), .sl 4 189 8 (.lit 0) (.sym N)]), (3, .pure true P'), (4, .pure true B'), (5, .pure true V'), (6, .pure true Q'), (7, .mix [.p (.vsl (.sym m) true la), .p (.bool ov)])] 8 (Re.at [(0, 0), (1, 1), (2, 2), (3, 3), (4, 4), (5, 5), (6, 6), (7, 7)] []) rfl ⟨a, e, R', vs', C', P', B', V', Q', rfl, rfl, rfl, hfin, hT, hC'⟩
set_option maxHeartbeats 4000000 in
theorem rbegin_lx (R : List Rw) (vs C G : List Int) (N W ph sp cy : Int) (P B V Q la : List PV) (m : Int) (ov : Bool) (h : RM R vs C G N W P B V Q la m) (A : List Int) (k : Int) (rs : List PV) (hrs : rs = ipv A) (hk : k = A.length) (hA : (A.length : Int) < 1000000) (hph : ph = 0) : CallF (fun _ => Tryz.prog) 62 [.ptr 0 (.lit 0), .p (.vsl (.sym k) true rs)] [(0, .mix [.ptr 1 (.lit 0), .sl 6 3 1 (.lit 0) (.sym W), .ptr 7 (.lit 0), .p (.int .i64 (.sym ph)), .p (.int .i64 (.sym sp)), .p (.int .i64 (.sym cy))]), (1, .mix [.ptr 2 (.lit 0), .sl 5 3 1 (.lit 0) (.sym W)]), (2, .mix [.sl 3 3 1 (.lit 0) (.sym N), .sl 4 189 8 (.lit 0) (.sym N)]), (3, .pure true P), (4, .pure true B), (5, .pure true V), (6, .pure true Q), (7, .mix [.p (.vsl (.sym m) true la), .p (.bool ov)])] 8 (fun r h n => ∃ (C' G' : List Int) (ov' : Bool) (Q' la' : List PV) (m' : Int), r = .p (.int .i64 (.lit 0)) ∧ h = [(0, .mix [.ptr 1 (.lit 0), .sl 6 3 1 (.lit 0) (.sym W), .ptr 8 (.lit 0), .p (.int .i64 (.sym 1)), .p (.int .i64 (.sym sp)), .p (.int .i64 (.sym cy))]), (1, .mix [.ptr 2 (.lit 0), .sl 5 3 1 (.lit 0) (.sym W)]), (2, .mix [.sl 3 3 1 (.lit 0) (.sym N), .sl 4 189 8 (.lit 0) (.sym N)]), (3, .pure true P), (4, .pure true B), (5, .pure true V), (6, .pure true Q'), (8, .mix [.p (.vsl (.sym m') true la'), .p (.bool ov')])] ∧ n = 9 ∧ RM R vs C' G' N W P B V Q' la' m' ∧ (C', G', ov') = begS R W A) := by
  have hCl := h.c; have hWn := h.w; have hNr := h.n; have hRr := h.r
  have hQl : Q.length = C.length := by rw [h.q, ipv_length]
  refine callF_of_body tok Tryz.func62 (by kernel_rfl) rfl rfl rfl ?_; conv => cbv
  refine Br.no (show ¬ (ph ≠ 0) by omega) ?_
  conv => cbv
  refine LoopF.mk (fun kk s => ∃ (i : Int) (C' : List Int) (Q' : List PV), s = ⟨.ptr 0 (.lit 0) :: .p (.vsl (.sym k) true rs) :: (undefs 3 ++ .p (.int .i64 (.sym i)) :: undefs 41), [(0, .mix [.ptr 1 (.lit 0), .sl 6 3 1 (.lit 0) (.sym W), .ptr 7 (.lit 0), .p (.int .i64 (.sym ph)), .p (.int .i64 (.sym sp)), .p (.int .i64 (.sym cy))]), (1, .mix [.ptr 2 (.lit 0), .sl 5 3 1 (.lit 0) (.sym W)]), (2, .mix [.sl 3 3 1 (.lit 0) (.sym N), .sl 4 189 8 (.lit 0) (.sym N)]), (3, .pure true P), (4, .pure true B), (5, .pure true V), (6, .pure true Q'), (7, .mix [.p (.vsl (.sym m) true la), .p (.bool ov)])], 8⟩ ∧ 0 ≤ i ∧ i ≤ W ∧ Q' = ipv C' ∧ C' = List.replicate i.toNat 0 ++ C.drop i.toNat ∧ kk = (W - i).toNat) W.toNat _
    (Re.at [(0, 0), (1, 1), (2, 2), (3, 3), (4, 4), (5, 5), (6, 6), (7, 7)] []) ⟨0, C, Q, rfl, by omega, by omega, h.q, by simp, by omega⟩ ?_
  rintro kk s ⟨i, C', Q', rfl, hi0, hi1, hQ', hC', hkk⟩
  have hC'l : C'.length = C.length := by rw [hC', List.length_append, List.length_replicate, List.length_drop]; omega
  have hQ'l : Q'.length = C.length := by rw [hQ', ipv_length]; exact hC'l
  conv => cbv
  refine Br.mk (fun gi => ?_) (fun gi => ?_)
  · have gi : i < W := gi
    obtain ⟨k', rfl⟩ : ∃ k', kk = k' + 1 := ⟨kk - 1, by omega⟩
    conv => cbv
    refine Need.mk ⟨hi0, gi⟩ ?_
    conv => cbv
    refine Need.mk (by show i + 1 ≤ (Q'.length : Int); omega) ?_
    conv => cbv
    obtain ⟨C2, hC2⟩ : ∃ C2, C2 = C'.set i.toNat 0 := ⟨_, rfl⟩
    obtain ⟨Q3, hQ3⟩ : ∃ Q3, Q3 = ipv C2 := ⟨_, rfl⟩
    refine Upd.mk fun Q2 hQ2 => ?_
    have hle : pvles Q2 Q3 := by
      have hQ2 : Q2 = Q'.set i.toNat (.int .i64 (.lit 0)) := hQ2
      rw [hQ2, hQ3, hC2, hQ', ← ipv_set]
      exact pvles_set _ _ _ _ _ (pvles_refl _) (by simp [pvle, I.val])
    unfold pvles at hle
    clear hQ2
    have hC3 : C2 = List.replicate (i.toNat + 1) 0 ++ C.drop (i.toNat + 1) := by
      rw [hC2, hC', List.set_append_right _ _ (by rw [List.length_replicate]; omega), List.length_replicate, Nat.sub_self, List.drop_eq_getElem_cons (by omega), List.set_cons_zero, List.replicate_succ', List.append_assoc]
      rfl
    conv => cbv
    refine Fit.mk (by show (-9223372036854775808 : Int) ≤ i + 1; omega) (by show i + 1 ≤ 9223372036854775807; omega) fun i2 hi2 => ?_
    have hi2 : i2 = i + 1 := hi2
    rw [show i.toNat + 1 = i2.toNat by omega] at hC3
    conv => cbv
    refine Again.mk k' _ (Nat.lt_succ_self _) (Re.at [(0, 0), (1, 1), (2, 2), (3, 3), (4, 4), (5, 5), (6, 6), (7, 7)] []) ⟨i2, C2, Q3, rfl, by omega, by omega, hQ3, hC3, by omega⟩
  · have gi : ¬ i < W := gi
    have hC' : C' = List.replicate W.toNat 0 := by rw [hC', show i.toNat = W.toNat by omega, List.drop_of_length_le (by omega), List.append_nil]
    have hM0 : RM R vs (List.replicate W.toNat 0) [] N W P B V Q' [] 0 := ⟨h.a, h.n, h.r, h.w, h.p, h.b, h.v, by rw [hQ', hC'], by rw [List.length_replicate]; omega, rfl, rfl, fun x hx => (by cases hx), Nat.zero_le _⟩
    clear hQ' hC' hC'l hQ'l
    conv => cbv
    refine LoopF.mk (fun kk s => ∃ (i : Int) (C' G' : List Int) (ov' : Bool) (Q' la' : List PV) (m' : Int), s = ⟨.ptr 0 (.lit 0) :: .p (.vsl (.sym k) true rs) :: (undefs 4 ++ .p (.int .i64 (.sym i)) :: undefs 40), [(0, .mix [.ptr 1 (.lit 0), .sl 6 3 1 (.lit 0) (.sym W), .ptr 8 (.lit 0), .p (.int .i64 (.sym 1)), .p (.int .i64 (.sym sp)), .p (.int .i64 (.sym cy))]), (1, .mix [.ptr 2 (.lit 0), .sl 5 3 1 (.lit 0) (.sym W)]), (2, .mix [.sl 3 3 1 (.lit 0) (.sym N), .sl 4 189 8 (.lit 0) (.sym N)]), (3, .pure true P), (4, .pure true B), (5, .pure true V), (6, .pure true Q'), (8, .mix [.p (.vsl (.sym m') true la'), .p (.bool ov')])], 9⟩ ∧ 0 ≤ i ∧ i ≤ k ∧ RM R vs C' G' N W P B V Q' la' m' ∧ (C', G', ov') = begS R W (A.take i.toNat) ∧ kk = (k - i).toNat) k.toNat _
      (Re.at [(0, 0), (1, 1), (2, 2), (3, 3), (4, 4), (5, 5), (6, 6), (8, 8)] []) ⟨0, _, _, _, Q', [], 0, rfl, by omega, by omega, hM0, rfl, by omega⟩ ?_
    clear hM0
    rintro kk s ⟨i, C', G', ov', Q', la', m', rfl, hi0, hi1, h2, hS, hk2⟩
    conv => cbv
    refine Br.mk (fun gi => ?_) (fun gi => ?_)
    · have gi : i < k := gi
      obtain ⟨k', rfl⟩ : ∃ k', kk = k' + 1 := ⟨kk - 1, by omega⟩
      obtain ⟨a, ha⟩ : ∃ a, A[i.toNat]? = some a := ⟨_, List.getElem?_eq_getElem (by omega)⟩
      have hc : rs[i.toNat]? = some (.int .i64 (.sym a)) := by rw [hrs]; exact ipv_get ha
      conv => cbv
      refine Need.mk ⟨hi0, gi⟩ ?_
      conv => cbv
      refine Cell.at i _ hc (by simp [I.val]) rfl ?_
      conv => cbv
      refine callF_frame (rshade_lx R vs C' G' N W 1 sp cy P B V Q' la' m' ov' h2 a) [(0, 0), (1, 1), (2, 2), (3, 3), (4, 4), (5, 5), (6, 6), (7, 8)] rfl (by simp [hmapOk, nget, hget, renB, okB, renV, renVs, rn, okVs, okV]) rfl rfl (fun r h' n' hrr => ?_)
      obtain ⟨C2, G2, ov2, Q2, la2, m2, e1, e2, e3, h3, hS2⟩ := hrr
      subst e1 e2 e3
      have hS3 : (C2, G2, ov2) = begS R W (A.take (i.toNat + 1)) := by
        rw [hS2, hS]
        unfold begS
        rw [List.take_add_one, ha, Option.toList_some, List.foldl_append]; rfl
      conv => cbv
      refine Fit.mk (by show (-9223372036854775808 : Int) ≤ i + 1; omega) (by show i + 1 ≤ 9223372036854775807; omega) fun i2 hi2 => ?_
      have hi2 : i2 = i + 1 := hi2
      rw [show i.toNat + 1 = i2.toNat by omega] at hS3
      conv => cbv
      refine Again.mk k' _ (Nat.lt_succ_self _) (Re.at [(0, 0), (1, 1), (2, 2), (3, 3), (4, 4), (5, 5), (6, 6), (8, 8)] []) ⟨i2, C2, G2, ov2, Q2, la2, m2, rfl, by omega, by omega, h3, hS3, by omega⟩
    · have gi : ¬ i < k := gi
      rw [List.take_of_length_le (by omega)] at hS
      conv => cbv
      refine RetF.mk [.p (.int .i64 (.lit 0))] [(0, .mix [.ptr 1 (.lit 0), .sl 6 3 1 (.lit 0) (.sym W), .ptr 8 (.lit 0), .p (.int .i64 (.sym 1)), .p (.int .i64 (.sym sp)), .p (.int .i64 (.sym cy))]), (1, .mix [.ptr 2 (.lit 0), .sl 5 3 1 (.lit 0) (.sym W)]), (2, .mix [.sl 3 3 1 (.lit 0) (.sym N), .sl 4 189 8 (.lit 0) (.sym N)]), (3, .pure true P), (4, .pure true B), (5, .pure true V), (6, .pure true Q'), (8, .mix [.p (.vsl (.sym m') true la'), .p (.bool ov')])] 9 (Re.at [(0, 0), (1, 1), (2, 2), (3, 3), (4, 4), (5, 5), (6, 6), (8, 8)] []) rfl ⟨C', G', ov', Q', la', m', rfl, rfl, rfl, h2, hS⟩
end Go.Proofs.YtolamdalijjlnaaGreatDoor
/-
  Layer 9: the reference's steps.
-/
namespace Go.Proofs.YtolamdalijjlnaaGreatDoor

open Go Go.LX
set_option maxRecDepth 100000
set_option linter.unusedVariables false
set_option linter.unusedSimpArgs false

theorem RM.over {R : List Rw} {vs C G G' : List Int} {N W m m' : Int} {P B V Q la la' : List PV} (h : RM R vs C G N W P B V Q la m) (hl : la' = i64s G') (hm : m' = G'.length) (hG : ∀ x ∈ G', x ∈ G) (h8 : G'.length ≤ G.length) : RM R vs C G' N W P B V Q la' m' :=
  ⟨h.a, h.n, h.r, h.w, h.p, h.b, h.v, h.q, h.c, hl, hm, fun x hx => h.g x (hG x hx), Nat.le_trans h8 h.g8⟩
theorem Wrds.le {R : List Rw} {ws X : List Int} {a : Int} (hA : AOk R ws) (h : Wrds R ws a X) : X.length ≤ 31 := by
  have hle := h.1
  generalize hxl : (X.length : Int) = xl at hle
  cases hle with
  | no _ => omega
  | is k l hk => have := hk.bounds hA; omega
end Go.Proofs.YtolamdalijjlnaaGreatDoor
/-
  Layer 9: the reference's step of Sweep; its steps.
-/
namespace Go.Proofs.YtolamdalijjlnaaGreatDoor

open Go Go.LX
set_option maxRecDepth 100000
set_option linter.unusedVariables false
set_option linter.unusedSimpArgs false

/-- What the reference takes out of a span. -/
inductive RG (R : List Rw) (vs C : List Int) (sp : Int) : Nat → List Gn → Prop
  | zero : RG R vs C sp 0 []
  | skip (i : Nat) (a : Int) (out : List Gn) (h : RG R vs C sp i out) (ha : (objs R)[i]? = some a) (hn : ¬ (a / 32 = sp ∧ C[a.toNat]? = some 0)) : RG R vs C sp (i + 1) out
  | add (i : Nat) (a k : Int) (X : List Int) (out : List Gn) (h : RG R vs C sp i out) (ha : (objs R)[i]? = some a) (hw : a / 32 = sp ∧ C[a.toNat]? = some 0) (hk : KindR R vs a k) (hX : Wrds R vs a X) : RG R vs C sp (i + 1) (out ++ [(k, a, X, false)])
theorem RG.le {R : List Rw} {vs C : List Int} {sp : Int} {i : Nat} {out : List Gn} (h : RG R vs C sp i out) : out.length ≤ i := by
  induction h with
  | zero => exact Nat.le_refl _
  | skip i a out h ha hn ih => omega
  | add i a k X out h ha hw hk hX ih => rw [List.length_append]; simp; omega
/-- Places freed one after another. -/
inductive Frees : List Rw → List Int → List Rw → Prop
  | nil (R : List Rw) : Frees R [] R
  | snoc (R R1 R2 : List Rw) (l : List Int) (a e : Int) (h : Frees R l R1) (hf : Freet R1 a e R2) : Frees R (l ++ [a]) R2
theorem RM.freet {R R' : List Rw} {vs C G : List Int} {N W m : Int} {P P' B B' V Q la : List PV} {a e : Int} (h : RM R vs C G N W P B V Q la m) (hf : Freet R a e R') (hP : P' = cpv R') (hB : B' = bpv R') : RM R' vs C G N W P' B' V Q la m := by
  obtain ⟨h1, h2⟩ := h.a.freet hf
  exact ⟨h1, by rw [h2]; exact h.n, by rw [h2]; exact h.r, h.w, hP, hB, h.v, h.q, h.c, h.l, h.m, h.g, h.g8⟩
end Go.Proofs.YtolamdalijjlnaaGreatDoor
/-
  Layer 9: both step alike.
-/
namespace Go.Proofs.YtolamdalijjlnaaGreatDoor

open Go Go.LX
set_option maxRecDepth 100000
set_option linter.unusedVariables false
set_option linter.unusedSimpArgs false

theorem Sim.wrds {R : List Rw} {ws vs X Y : List Int} {a : Int} (h : Sim R ws vs) (h1 : Wrds R ws a X) (h2 : Wrds R vs a Y) : X = Y := by
  have hl := h.len h1.1 h2.1
  apply List.ext_getElem?
  intro i
  by_cases hi : i < X.length
  · obtain ⟨x, hx⟩ : ∃ x, X[i]? = some x := ⟨_, List.getElem?_eq_getElem hi⟩
    obtain ⟨y, hy⟩ : ∃ y, Y[i]? = some y := ⟨_, List.getElem?_eq_getElem (by omega)⟩
    obtain ⟨rfl, _⟩ := h.load (h1.2 i x hx) (h2.2 i y hy)
    rw [hx, hy]
  · rw [List.getElem?_eq_none (by omega), List.getElem?_eq_none (by omega)]
theorem Sim.due {R : List Rw} {ws vs C : List Int} {a : Int} (h : Sim R ws vs) (hd : Due R ws C a) : Due R vs C a := by
  obtain ⟨⟨l, hK⟩, hc, x, hx, hx0⟩ := hd
  obtain ⟨k', l', hK'⟩ := Kept.of h.b hK.obj6
  obtain rfl := h.kind (.is 5 l hK) (.is k' l' hK')
  obtain ⟨y, f, hy⟩ : ∃ y f, Loaded R vs a 1 y f := by
    by_cases hi : (0 : Int) ≤ 1 ∧ 1 < l'
    · have hb := hK'.bounds h.b
      have hlen := h.b.len
      obtain ⟨y, hy⟩ : ∃ y, vs[(a + 1 + 1).toNat]? = some y := ⟨_, List.getElem?_eq_getElem (by omega)⟩
      exact ⟨y, 0, .ok 5 l' y hK' hi hy⟩
    · exact ⟨0, 1, .arg 5 l' hK' hi⟩
  obtain ⟨rfl, rfl⟩ := h.load hx hy
  exact ⟨⟨l', hK'⟩, hc, x, hy, hx0⟩
theorem freet_objs {R R' : List Rw} {ws : List Int} {a e : Int} (hA : AOk R ws) (ha : a ∈ objs R) (h : Freet R a e R') : AOk R' ws ∧ ∀ b, b ∈ objs R' ↔ b ∈ objs R ∧ b ≠ a := by
  have hA' := (hA.freet h).1
  refine ⟨hA', fun b => ?_⟩
  rw [obj_iff hA', obj_iff hA]
  cases h with
  | none hn => exact absurd ((obj_iff hA a).1 ha) hn
  | ok q s e he hs hat =>
    obtain ⟨_, _, _, g4⟩ := free_objs hA.rows he hs a hat
    rw [isObj_iff, isObj_iff]
    constructor
    · rintro ⟨w, hw⟩; exact ⟨⟨w, ((g4 b w).1 hw).1⟩, ((g4 b w).1 hw).2⟩
    · rintro ⟨⟨w, hw⟩, hne⟩; exact ⟨w, (g4 b w).2 ⟨hw, hne⟩⟩
/-- Of what is swept: each was an object, and as it is told. -/
structure SwF (R R1 : List Rw) (ws C : List Int) (p : Int) (i : Nat) (out : List Gn) : Prop where
  each : ∀ g ∈ out, KindR R ws g.2.1 g.1 ∧ Wrds R ws g.2.1 g.2.2.1 ∧ g.2.2.2 = false
  asc : (out.map fun g => g.2.1).Pairwise (· < ·)
  mem : ∀ x, x ∈ (out.map fun g => g.2.1) ↔ p ≤ x ∧ x < p + i ∧ Wh R C x
  frees : Frees R (out.map fun g => g.2.1) R1
  ok : AOk R1 ws
  left : ∀ b, b ∈ objs R1 ↔ b ∈ objs R ∧ b ∉ (out.map fun g => g.2.1)
  kept : ∀ b k l, Kept R1 ws b k l → Kept R ws b k l
end Go.Proofs.YtolamdalijjlnaaGreatDoor
/-
  Layer 9: both sweep alike.
-/
namespace Go.Proofs.YtolamdalijjlnaaGreatDoor

open Go Go.LX
set_option maxRecDepth 100000
set_option linter.unusedVariables false
set_option linter.unusedSimpArgs false

theorem gmap_app (out : List Gn) (g : Gn) : (out ++ [g]).map (fun g => g.2.1) = out.map (fun g => g.2.1) ++ [g.2.1] := by
  rw [List.map_append]; rfl
theorem SweptTo.facts {ws C : List Int} {R R1 : List Rw} {p : Int} {i : Nat} {out : List Gn} (hA : AOk R ws) (h : SweptTo ws C R p i out R1) : SwF R R1 ws C p i out := by
  induction h with
  | zero =>
    refine ⟨fun g hg => (by cases hg), List.Pairwise.nil, fun x => ⟨fun hx => (by cases hx), fun hx => (by have := hx.1; have := hx.2.1; omega)⟩, .nil R, hA, fun b => ⟨fun hb => ⟨hb, fun hk => (by cases hk)⟩, fun hb => hb.1⟩, fun _ _ _ hk => hk⟩
  | skip i out R1 h hn ih =>
    refine ⟨ih.each, ih.asc, fun x => ?_, ih.frees, ih.ok, ih.left, ih.kept⟩
    rw [ih.mem x]
    constructor
    · rintro ⟨h1, h2, h3⟩; exact ⟨h1, by omega, h3⟩
    · rintro ⟨h1, h2, h3⟩
      refine ⟨h1, ?_, h3⟩
      by_cases e : x = p + i
      · subst e
        exfalso
        refine hn ⟨(ih.left _).2 ⟨h3.1, fun hk => ?_⟩, h3.2⟩
        have := ((ih.mem _).1 hk).2.1
        omega
      · omega
  | free i out R1 R2 k X h hw hk hX hf ih =>
    obtain ⟨hA2, hob⟩ := freet_objs ih.ok hw.1 hf
    have hnew := (ih.left (p + i)).1 hw.1
    have hK1 : ∃ l, Kept R1 ws (p + i) k l := by
      cases hk with
      | no hn => exact absurd ((obj_iff ih.ok _).1 hw.1) hn
      | is _ l hK => exact ⟨l, hK⟩
    obtain ⟨l, hK⟩ := hK1
    have hKR := ih.kept _ _ _ hK
    refine ⟨fun g hg => ?_, ?_, fun x => ?_, ?_, hA2, fun b => ?_, fun b k l hb => ih.kept b k l (kept_freet ih.ok hf b k l hb)⟩
    · rcases List.mem_append.1 hg with hg | hg
      · exact ih.each g hg
      · rw [List.mem_singleton.1 hg]
        refine ⟨.is k l hKR, ⟨?_, fun j x hx => ?_⟩, rfl⟩
        · have hl := hX.1
          generalize hxl : (X.length : Int) = xl at hl
          cases hl with
          | no hn => exact absurd hK.obj6 hn
          | is k2 l2 hK2 => exact .is k2 _ (ih.kept _ _ _ hK2)
        · cases hX.2 j x hx with
          | ok k2 l2 _ hK2 hi hx => exact .ok k2 l2 x (ih.kept _ _ _ hK2) hi hx
    · rw [gmap_app, List.pairwise_append]
      refine ⟨ih.asc, List.pairwise_singleton _ _, fun x hx y hy => ?_⟩
      rw [List.mem_singleton.1 hy]
      exact ((ih.mem x).1 hx).2.1
    · rw [gmap_app, List.mem_append, List.mem_singleton, ih.mem x]
      constructor
      · rintro (⟨h1, h2, h3⟩ | h1)
        · exact ⟨h1, by omega, h3⟩
        · have h1 : x = p + i := h1
          subst h1
          exact ⟨by omega, by omega, hnew.1, hw.2⟩
      · rintro ⟨h1, h2, h3⟩
        by_cases e : x = p + i
        · exact .inr e
        · exact .inl ⟨h1, by omega, h3⟩
    · rw [gmap_app]; exact .snoc R R1 R2 _ _ 0 ih.frees hf
    · rw [hob b, ih.left b, gmap_app, List.mem_append, List.mem_singleton]
      constructor
      · rintro ⟨⟨h1, h2⟩, h3⟩; exact ⟨h1, fun hk => hk.elim h2 h3⟩
      · rintro ⟨h1, h2⟩; exact ⟨⟨h1, fun hk => h2 (.inl hk)⟩, fun hk => h2 (.inr hk)⟩
structure RgF (R : List Rw) (vs C : List Int) (sp : Int) (i : Nat) (out : List Gn) : Prop where
  each : ∀ g ∈ out, KindR R vs g.2.1 g.1 ∧ Wrds R vs g.2.1 g.2.2.1 ∧ g.2.2.2 = false
  asc : (out.map fun g => g.2.1).Pairwise (· < ·)
  mem : ∀ x, x ∈ (out.map fun g => g.2.1) ↔ (∃ j : Nat, j < i ∧ (objs R)[j]? = some x) ∧ x / 32 = sp ∧ C[x.toNat]? = some 0
theorem objs_lt {R : List Rw} (hR : RowsOk R) {i j : Nat} {a b : Int} (hij : i < j) (ha : (objs R)[i]? = some a) (hb : (objs R)[j]? = some b) : a < b := by
  obtain ⟨h1, h2⟩ := List.getElem?_eq_some_iff.1 ha
  obtain ⟨h3, h4⟩ := List.getElem?_eq_some_iff.1 hb
  have := (List.pairwise_iff_getElem.1 (objsTo_asc hR R.length)) i j h1 h3 hij
  rw [← h2, ← h4]; exact this
theorem RG.facts {R : List Rw} {vs C : List Int} {sp : Int} {i : Nat} {out : List Gn} (hR : RowsOk R) (h : RG R vs C sp i out) : RgF R vs C sp i out := by
  induction h with
  | zero => exact ⟨fun g hg => (by cases hg), List.Pairwise.nil, fun x => ⟨fun hx => (by cases hx), fun ⟨⟨j, hj, _⟩, _⟩ => (by omega)⟩⟩
  | skip i a out h ha hn ih =>
    refine ⟨ih.each, ih.asc, fun x => ?_⟩
    rw [ih.mem x]
    constructor
    · rintro ⟨⟨j, h1, h2⟩, h3⟩; exact ⟨⟨j, by omega, h2⟩, h3⟩
    · rintro ⟨⟨j, h1, h2⟩, h3⟩
      refine ⟨⟨j, ?_, h2⟩, h3⟩
      by_cases e : j = i
      · subst e
        rw [ha] at h2
        obtain rfl := Option.some.inj h2
        exact absurd h3 hn
      · omega
  | add i a k X out h ha hw hk hX ih =>
    refine ⟨fun g hg => ?_, ?_, fun x => ?_⟩
    · rcases List.mem_append.1 hg with hg | hg
      · exact ih.each g hg
      · rw [List.mem_singleton.1 hg]; exact ⟨hk, hX, rfl⟩
    · rw [gmap_app, List.pairwise_append]
      refine ⟨ih.asc, List.pairwise_singleton _ _, fun x hx y hy => ?_⟩
      rw [List.mem_singleton.1 hy]
      obtain ⟨⟨j, h1, h2⟩, _⟩ := (ih.mem x).1 hx
      exact objs_lt hR h1 h2 ha
    · rw [gmap_app, List.mem_append, List.mem_singleton, ih.mem x]
      constructor
      · rintro (⟨⟨j, h1, h2⟩, h3⟩ | h1)
        · exact ⟨⟨j, by omega, h2⟩, h3⟩
        · have h1 : x = a := h1
          subst h1
          exact ⟨⟨i, by omega, ha⟩, hw⟩
      · rintro ⟨⟨j, h1, h2⟩, h3⟩
        by_cases e : j = i
        · subst e
          rw [ha] at h2
          obtain rfl := Option.some.inj h2
          exact .inr rfl
        · exact .inl ⟨⟨j, by omega, h2⟩, h3⟩
theorem Frees.det {R R1 : List Rw} {l : List Int} {ws : List Int} (hA : AOk R ws) (h1 : Frees R l R1) : ∀ {R2}, Frees R l R2 → R1 = R2 ∧ AOk R1 ws := by
  induction h1 with
  | nil =>
    intro R2 h2
    generalize hl : ([] : List Int) = l at h2
    cases h2 with
    | nil => exact ⟨rfl, hA⟩
    | snoc _ _ l a _ _ _ => exact absurd hl (by simp)
  | snoc Ra Rb l a e h hf ih =>
    intro R2 h2
    generalize hl : l ++ [a] = l' at h2
    cases h2 with
    | nil => exact absurd hl (by simp)
    | snoc Rc _ l2 a2 e2 h' hf' =>
      obtain ⟨rfl, e3⟩ := List.append_inj' hl rfl
      obtain rfl : a = a2 := by simpa using e3
      obtain ⟨rfl, hB⟩ := ih h'
      exact ⟨(hf.det hB.rows hf').2, (hB.freet hf).1⟩
end Go.Proofs.YtolamdalijjlnaaGreatDoor
/-
  Layer 9: a cycle comes to its end: what is still to be done grows less.
-/
namespace Go.Proofs.YtolamdalijjlnaaGreatDoor

open Go Go.LX
set_option maxRecDepth 100000
set_option linter.unusedVariables false
set_option linter.unusedSimpArgs false

def wt (c : Option Int) : Nat := if c = some 0 then 2 else if c = some 1 then 1 else 0
/-- Colours that went on: white may become grey, or black, grey black. -/
def COn (C C' : List Int) : Prop := ∀ p : Nat, wt C'[p]? ≤ wt C[p]?
theorem COn.refl (C : List Int) : COn C C := fun _ => Nat.le_refl _
theorem COn.trans {A B C : List Int} (h : COn A B) (k : COn B C) : COn A C := fun p => Nat.le_trans (k p) (h p)
/-- The list of the grey ones: objects, grey, each once. -/
structure GOk (R : List Rw) (C G : List Int) : Prop where
  obj : ∀ x ∈ G, x ∈ objs R
  grey : ∀ x ∈ G, C[x.toNat]? = some 1
  once : G.Nodup
end Go.Proofs.YtolamdalijjlnaaGreatDoor
/-
  Layer 9: what a whole cycle does.
-/
namespace Go.Proofs.YtolamdalijjlnaaGreatDoor

open Go Go.LX
set_option maxRecDepth 100000
set_option linter.unusedVariables false
set_option linter.unusedSimpArgs false

/-- One leads to the other. -/
def Leads (R : List Rw) (ws : List Int) (a b : Int) : Prop := ∃ i x, Loaded R ws a i x 0 ∧ x % 2 = 1 ∧ (x - 1) / 2 = b ∧ b ∈ objs R
/-- Reached from roots, over what is not white. -/
inductive Rb (R : List Rw) (ws C A : List Int) : Int → Prop
  | root (a : Int) (h : a ∈ A) (ho : a ∈ objs R) : Rb R ws C A a
  | next (a b : Int) (h : Rb R ws C A a) (hc : C[a.toNat]? ≠ some 0) (hl : Leads R ws a b) : Rb R ws C A b
/-- Reached from roots. -/
inductive Rch (R : List Rw) (ws A : List Int) : Int → Prop
  | root (a : Int) (h : a ∈ A) (ho : a ∈ objs R) : Rch R ws A a
  | next (a b : Int) (h : Rch R ws A a) (hl : Leads R ws a b) : Rch R ws A b
theorem Rb.mono {R : List Rw} {ws C C' A A' : List Int} (hc : ∀ p : Nat, C'[p]? = some 0 → C[p]? = some 0) (hA : ∀ a ∈ A, a ∈ A') {a : Int} (h : Rb R ws C A a) : Rb R ws C' A' a := by
  induction h with
  | root a h ho => exact .root a (hA a h) ho
  | next a b _ hn hl ih => exact .next a b ih (fun k => hn (hc _ k)) hl
theorem Rb.to {R : List Rw} {ws C A : List Int} {a : Int} (h : Rb R ws C A a) : Rch R ws A a := by
  induction h with
  | root a h ho => exact .root a h ho
  | next a b _ hn hl ih => exact .next a b ih hl
theorem Rch.obj {R : List Rw} {ws A : List Int} {a : Int} (h : Rch R ws A a) : a ∈ objs R := by
  cases h with
  | root a h ho => exact ho
  | next a b _ hl => obtain ⟨_, _, _, _, _, h⟩ := hl; exact h
theorem stored_to {R : List Rw} {ws ws' : List Int} {a i x e : Int} (hA : AOk R ws) (h : Stored R ws a i x e ws') : (∀ b k l, Kept R ws b k l → Kept R ws' b k l) ∧ ∀ b j y, b ≠ a → Loaded R ws b j y 0 → Loaded R ws' b j y 0 := by
  cases h with
  | none _ => exact ⟨fun _ _ _ hk => hk, fun _ _ _ _ hk => hk⟩
  | arg _ _ _ _ => exact ⟨fun _ _ _ hk => hk, fun _ _ _ _ hk => hk⟩
  | ok k l hka hi =>
    have hbn := hka.bounds hA
    have hkeep : ∀ b k' l', Kept R ws b k' l' → Kept R (ws.set (a + 1 + i).toNat x) b k' l' := by
      intro b k' l' hb
      obtain ⟨w, q1, q2, q3, q4, q5, q6⟩ := hb
      have hne : (a + 1 + i).toNat ≠ b.toNat := by
        obtain ⟨wa, p1, p2, p3, p4, p5, p6⟩ := hka
        have := within_not hA.rows p1 q1 (j := a + 1 + i) (by omega) (by omega)
        have := q1.facts hA.rows
        omega
      exact .mk k' l' w q1 (by rw [List.getElem?_set_ne hne]; exact q2) q3 q4 q5 q6
    refine ⟨hkeep, fun b j y hne hl => ?_⟩
    cases hl with
    | ok k' l' _ hK hj hy =>
      have hb2 := hK.bounds hA
      refine .ok k' l' y (hkeep _ _ _ hK) hj ?_
      rw [List.getElem?_set_ne ?_]
      · exact hy
      · intro e
        have e : a + 1 + i = b + 1 + j := by omega
        obtain ⟨wa, p1, p2, p3, p4, p5, p6⟩ := hka
        obtain ⟨wb, q1, q2, q3, q4, q5, q6⟩ := hK
        rcases Int.lt_trichotomy a b with q | q | q
        · exact within_not hA.rows p1 q1 (j := b) (by omega) (by omega) rfl
        · exact hne q.symm
        · exact within_not hA.rows q1 p1 (j := a) (by omega) (by omega) rfl
/-- While it is Mark: who is grey is known, who is not white can be reached. -/
structure Cm (R : List Rw) (ws C G : List Int) (ov : Bool) (A : List Int) (v : Int) : Prop where
  all : ov = false → ∀ a ∈ objs R, a ≠ v → C[a.toNat]? = some 1 → a ∈ G
  rb : ∀ a ∈ objs R, C[a.toNat]? ≠ some 0 → Rb R ws C A a
  c3 : ∀ a ∈ objs R, C[a.toNat]? = some 0 ∨ C[a.toNat]? = some 1 ∨ C[a.toNat]? = some 2
theorem Cm.more {R : List Rw} {ws C G : List Int} {ov : Bool} {A B : List Int} {v : Int} (h : Cm R ws C G ov A v) (hA : ∀ a ∈ A, a ∈ B) : Cm R ws C G ov B v :=
  ⟨h.all, fun a ha hn => (h.rb a ha hn).mono (fun _ k => k) hA, h.c3⟩
theorem Cm.shade {R : List Rw} {ws A : List Int} {v a : Int} {s : List Int × List Int × Bool} (hA : AOk R ws) (h : Cm R ws s.1 s.2.1 s.2.2 A v) (hR : a ∈ objs R → Rb R ws s.1 A a) : Cm R ws (shade R 1 a s).1 (shade R 1 a s).2.1 (shade R 1 a s).2.2 A v := by
  have hle := shade_le R 1 a s
  by_cases hc : (1 : Int) = 1 ∧ a ∈ objs R ∧ s.1[a.toNat]? = some 0
  · have e : Go.Proofs.YtolamdalijjlnaaGreatDoor.shade R 1 a s = (s.1.set a.toNat 1, if s.2.1.length < 8 then (s.2.1 ++ [a], s.2.2) else (s.2.1, true)) := by
      unfold Go.Proofs.YtolamdalijjlnaaGreatDoor.shade
      rw [if_pos hc]
    rw [e] at hle ⊢
    have hab := obj_bd hA hc.2.1
    have hl := (List.getElem?_eq_some_iff.1 hc.2.2).1
    have hself : (s.1.set a.toNat 1)[a.toNat]? = some 1 := List.getElem?_set_self hl
    have hne : ∀ b ∈ objs R, b ≠ a → (s.1.set a.toNat 1)[b.toNat]? = s.1[b.toNat]? := fun b hb n => List.getElem?_set_ne (by have := obj_bd hA hb; omega)
    refine ⟨?_, fun b hb hn => ?_, fun b hb => ?_⟩
    · intro ho b hb hbv hb1
      by_cases h8 : s.2.1.length < 8
      · rw [if_pos h8] at ho ⊢
        by_cases eb : b = a
        · exact List.mem_append_right _ (by rw [eb]; exact List.mem_singleton.2 rfl)
        · exact List.mem_append_left _ (h.all ho b hb hbv (by rw [← hne b hb eb]; exact hb1))
      · rw [if_neg h8] at ho
        exact absurd (show true = false from ho) (by decide)
    · by_cases eb : b = a
      · rw [eb]; exact (hR hc.2.1).mono hle.1 (fun _ k => k)
      · exact (h.rb b hb (by rw [← hne b hb eb]; exact hn)).mono hle.1 (fun _ k => k)
    · by_cases eb : b = a
      · rw [eb]; exact .inr (.inl hself)
      · have := h.c3 b hb
        rw [← hne b hb eb] at this
        exact this
  · have e : Go.Proofs.YtolamdalijjlnaaGreatDoor.shade R 1 a s = s := by
      unfold Go.Proofs.YtolamdalijjlnaaGreatDoor.shade
      rw [if_neg hc]
    rw [e]; exact h
theorem Cm.shadeW {R : List Rw} {ws A : List Int} {v w : Int} {s : List Int × List Int × Bool} (hA : AOk R ws) (h : Cm R ws s.1 s.2.1 s.2.2 A v) (hR : w % 2 = 1 → (w - 1) / 2 ∈ objs R → Rb R ws s.1 A ((w - 1) / 2)) : Cm R ws (shadeW R 1 w s).1 (shadeW R 1 w s).2.1 (shadeW R 1 w s).2.2 A v := by
  unfold Go.Proofs.YtolamdalijjlnaaGreatDoor.shadeW
  split
  · rename_i hw
    exact h.shade hA (hR hw)
  · exact h
def Rt (R : List Rw) (C A : List Int) : Prop := ∀ a ∈ A, a ∈ objs R → C[a.toNat]? ≠ some 0
theorem Rt.le {R : List Rw} {C C' A : List Int} (h : Rt R C A) (hc : ∀ p : Nat, C'[p]? = some 0 → C[p]? = some 0) : Rt R C' A := fun a ha ho k => h a ha ho (hc _ k)
structure Cy1 (R : List Rw) (ws C G : List Int) (ov : Bool) (A : List Int) : Prop where
  dk : Dk R ws C
  g : GOk R C G
  cm : Cm R ws C G ov A (-1)
  rt : Rt R C A
/-- At the end of Mark: who is white cannot be reached, who is not can. -/
structure Done (R : List Rw) (ws C A : List Int) : Prop where
  two : ∀ a ∈ objs R, C[a.toNat]? = some 0 ∨ C[a.toNat]? = some 2
  iff : ∀ a ∈ objs R, C[a.toNat]? = some 0 ↔ ¬ Rch R ws A a
  due : ∀ a, ¬ Due R ws C a
theorem Cy1.done {R : List Rw} {ws C G A : List Int} {ov : Bool} (h : Cy1 R ws C G ov A) (hg : ∀ a ∈ objs R, C[a.toNat]? ≠ some 1) (hd : ∀ a, ¬ Due R ws C a) : Done R ws C A := by
  have htwo : ∀ a ∈ objs R, C[a.toNat]? = some 0 ∨ C[a.toNat]? = some 2 := by
    intro a ha
    rcases h.cm.c3 a ha with q | q | q
    · exact .inl q
    · exact absurd q (hg a ha)
    · exact .inr q
  refine ⟨htwo, fun a ha => ⟨fun h0 hr => ?_, fun hn => Classical.byContradiction fun k => hn (h.cm.rb a ha k).to⟩, hd⟩
  have : ∀ a, Rch R ws A a → C[a.toNat]? ≠ some 0 := by
    intro a hr
    induction hr with
    | root a hm ho => exact h.rt a hm ho
    | next a b hr hl ih =>
      obtain ⟨i, x, hx, hx1, hb, ho⟩ := hl
      rw [← hb] at ho ⊢
      exact h.dk a x i hr.obj ((htwo a hr.obj).resolve_left ih) hx hx1 ho
  exact this a hr h0
theorem stored_own {R : List Rw} {ws ws' : List Int} {a i x e k l : Int} (hA : AOk R ws) (hK : Kept R ws a k l) (hi : 0 ≤ i ∧ i < l) (h : Stored R ws a i x e ws') : e = 0 ∧ Loaded R ws' a i x 0 ∧ ∀ j y, j ≠ i → Loaded R ws a j y 0 → Loaded R ws' a j y 0 := by
  obtain ⟨he, hw⟩ := stored_of hK hi h
  have hk2 := (stored_to hA h).1
  have hb := hK.bounds hA
  have hlen := hA.len
  refine ⟨he, .ok k l x (hk2 _ _ _ hK) hi (by rw [hw]; exact List.getElem?_set_self (by omega)), fun j y hj hl => ?_⟩
  cases hl with
  | ok k' l' _ hK' hj2 hy =>
    refine .ok k' l' y (hk2 _ _ _ hK') hj2 ?_
    rw [hw, List.getElem?_set_ne (by omega)]
    exact hy
/-- A line of boxes; word 0 of those that P tells leads to the next one. -/
structure Chn (R : List Rw) (ws y : List Int) (P : Nat → Prop) : Prop where
  box : ∀ b ∈ y, Kept R ws b 5 2
  nd : y.Nodup
  fin : ∀ a ∈ y, Loaded R ws a 1 0 0
  nxt : ∀ (k : Nat) a b, P k → y[k]? = some a → y[k + 1]? = some b → Loaded R ws a 0 (b * 2 + 1) 0
theorem Chn.store {R : List Rw} {ws ws' y : List Int} {P : Nat → Prop} {k : Nat} {a b e : Int} (hA : AOk R ws) (h : Chn R ws y P) (ha : y[k]? = some a) (hb : y[k + 1]? = some b) (hs : Stored R ws a 0 (b * 2 + 1) e ws') : e = 0 ∧ Chn R ws' y (fun j => j = k ∨ P j) := by
  obtain ⟨h1, h2, h3⟩ := stored_own hA (h.box a (List.mem_of_getElem? ha)) (by omega) hs
  obtain ⟨h4, h5⟩ := stored_to hA hs
  have hl : ∀ c j v, (c = a → j ≠ 0) → Loaded R ws c j v 0 → Loaded R ws' c j v 0 := by
    intro c j v hc hv
    by_cases e : c = a
    · subst e; exact h3 j v (hc rfl) hv
    · exact h5 c j v e hv
  refine ⟨h1, fun c hc => h4 _ _ _ (h.box c hc), h.nd, fun c hc => hl c 1 0 (fun _ => by decide) (h.fin c hc), fun j c d hj hc hd => ?_⟩
  by_cases e : j = k
  · subst e
    rw [ha] at hc; rw [hb] at hd
    obtain rfl := Option.some.inj hc
    obtain rfl := Option.some.inj hd
    exact h2
  · refine hl c 0 _ (fun ec => ?_) (h.nxt j c d (hj.resolve_left e) hc hd)
    subst ec
    have hjl := (List.getElem?_eq_some_iff.1 hc).1
    exact absurd ((List.getElem?_inj hjl h.nd).1 (hc.trans ha.symm)) e
/-- So far the collector has come along the line. -/
structure At (C G : List Int) (ov : Bool) (y : List Int) (k : Nat) : Prop where
  g : ∃ a, y[k]? = some a ∧ G = [a]
  ov : ov = false
  wh : ∀ (j : Nat) b, k < j → y[j]? = some b → C[b.toNat]? = some 0
theorem loaded_one {R : List Rw} {ws : List Int} {a i x y : Int} (h1 : Loaded R ws a i x 0) (h2 : Loaded R ws a i y 0) : x = y := by
  cases h1 with
  | ok _ _ _ _ _ q1 => cases h2 with
    | ok _ _ _ _ _ q2 => rw [q1] at q2; exact Option.some.inj q2
theorem At.step {R R' : List Rw} {ws ws' C C' G G' y : List Int} {ov ov' : Bool} {ph sp cy W p s yy : Int} {out : List Gn} {k : Nat} {P : Nat → Prop} (hA : AOk R ws) (hc : Chn R ws y P) (hP : P k) (h : At C G ov y k) (hk : k + 1 < y.length) (hph : ph = 1) (hs : Stepd R ws C G ov ph sp cy W out R' ws' C' G' ov' p s yy) : p = 1 ∧ s = sp ∧ yy = cy ∧ R' = R ∧ ws' = ws ∧ At C' G' ov' y (k + 1) := by
  obtain ⟨a, ha, hG⟩ := h.g
  obtain ⟨b, hb⟩ : ∃ b, y[k + 1]? = some b := ⟨_, List.getElem?_eq_getElem hk⟩
  have ham := List.mem_of_getElem? ha
  have hbm := List.mem_of_getElem? hb
  have hKa := hc.box a ham
  cases hs with
  | mark _ _ _ _ _ _ _ hp hm =>
    cases hm with
    | scan v A0 X _ _ o1 _ hg hX hs =>
      have hvA : v = a ∧ A0 = [] ∧ o1 = false := by
        cases hg with
        | pop _ _ hGA =>
          rw [hG] at hGA
          have hl : A0.length = 0 := by have := congrArg List.length hGA; simp at this; exact this ▸ rfl
          have hA0 : A0 = [] := List.eq_nil_of_length_eq_zero hl
          subst hA0
          exact ⟨(by simpa using hGA.symm), rfl, h.ov⟩
        | found _ _ hG0 _ _ _ _ => rw [hG] at hG0; cases hG0
      obtain ⟨rfl, rfl, rfl⟩ := hvA
      have hX2 : X = [b * 2 + 1, 0] := by
        have hl2 : X.length = 2 := by
          have hl := hX.1
          generalize hxl : (X.length : Int) = xl at hl
          cases hl with
          | no hn => exact absurd hKa.obj6 hn
          | is k2 l2 hK2 => have := (hKa.det9 hK2).2; omega
        match X, hl2, hX with
        | [x0, x1], _, hX =>
          have e0 := loaded_one (hX.2 0 x0 rfl) (hc.nxt k _ b hP ha hb)
          have e1 := loaded_one (hX.2 1 x1 rfl) (hc.fin _ ham)
          rw [e0, e1]
      have hbo : b ∈ objs R := (obj_iff hA b).2 (hc.box b hbm).obj6
      have hb0 := h.wh (k + 1) b (by omega) hb
      have hsh : ∀ s : List Int × List Int × Bool, shadeW R 1 0 s = s := fun s => by unfold shadeW; rw [if_neg (by decide)]
      have hs1 : shadeW R 1 (b * 2 + 1) (C, [], false) = (C.set b.toNat 1, [b], false) := by
        unfold shadeW
        rw [if_pos (by omega), show (b * 2 + 1 - 1) / 2 = b by omega]
        unfold shade
        rw [if_pos ⟨rfl, hbo, hb0⟩]
        rfl
      have hF : scanS R 1 v X (C, [], false) = ((C.set b.toNat 1).set v.toNat 2, [b], false) := by
        unfold scanS
        rw [hX2]
        simp only [List.foldl_cons, List.foldl_nil, hs1, hsh]
      rw [hF] at hs
      cases hs
      refine ⟨rfl, rfl, rfl, rfl, rfl, ⟨b, hb, rfl⟩, rfl, fun j c hj hcy => ?_⟩
      have hcm := List.mem_of_getElem? hcy
      have hne : ∀ (i : Nat) d, i < j → y[i]? = some d → d.toNat ≠ c.toNat := by
        intro i d hi hd e
        have b1 := (hc.box d (List.mem_of_getElem? hd)).bounds hA
        have b2 := (hc.box c hcm).bounds hA
        have e : d = c := by omega
        subst e
        have := (List.getElem?_inj (List.getElem?_eq_some_iff.1 hd).1 hc.nd).1 (hd.trans hcy.symm)
        omega
      rw [List.getElem?_set_ne (hne k _ (by omega) ha), List.getElem?_set_ne (hne (k + 1) _ (by omega) hb)]
      exact h.wh j c (by omega) hcy
    | keep a2 A0 X _ _ _ o1 _ hg hf hX hst hs =>
      exfalso
      cases hg with
      | none h1 _ => rw [hG] at h1; cases h1
      | settle h1 _ _ => rw [hG] at h1; cases h1
    | sweep A0 o1 hg hf =>
      exfalso
      cases hg with
      | none h1 _ => rw [hG] at h1; cases h1
      | settle h1 _ _ => rw [hG] at h1; cases h1
  | sweep _ _ hp _ => omega
  | idle h1 _ => exact absurd hph h1
/-- Boxes, made one behind the other. -/
structure Grown (R : List Rw) (ws l : List Int) : Prop where
  box : ∀ b ∈ l, Kept R ws b 5 2
  nd : l.Nodup
  zero : ∀ a ∈ l, ∀ j, 0 ≤ j → j < 2 → ws[(a + 1 + j).toNat]? = some 0
  cnt : objCount R = l.length
theorem Grown.alloc {R R' : List Rw} {ws ws' l : List Int} {a e : Int} (hA : AOk R ws) (h : Grown R ws l) (hr : l.length < R.length) (hs : Alloct R ws 5 2 a e R' ws') : e = 0 ∧ Grown R' ws' (l ++ [a]) := by
  have he : e = 0 := by have := alloct_err hA hs (by rw [h.cnt]; omega); rw [if_pos (by decide)] at this; exact this
  obtain ⟨h1, h2, h3, h4, h5, _, h7⟩ := alloct_ok hA hs he
  refine ⟨he, fun b hb => ?_, ?_, fun b hb j hj0 hj1 => ?_, ?_⟩
  · rcases List.mem_append.1 hb with hb | hb
    · exact h5 b 5 2 (h.box b hb)
    · rw [List.mem_singleton.1 hb]; exact h1
  · rw [List.nodup_append]
    refine ⟨h.nd, by simp, fun x hx y hy e => ?_⟩
    rw [List.mem_singleton.1 hy] at e
    subst e
    exact h2 (h.box x hx).obj6
  · rcases List.mem_append.1 hb with hb | hb
    · rw [h7 b 5 2 j (h.box b hb) hj0 hj1]; exact h.zero b hb j hj0 hj1
    · rw [List.mem_singleton.1 hb]; exact h4 j hj0 hj1
  · rw [h3, h.cnt, List.length_append]; rfl
end Go.Proofs.YtolamdalijjlnaaGreatDoor
/-
  Layer 11 in the calculus: words put.
-/
namespace Go.Proofs.YtolamdalijjlnaaGreatDoor

open Go Go.LX
set_option maxRecDepth 100000
set_option linter.unusedVariables false
set_option linter.unusedSimpArgs false

/-- Words laid into an object, one by one: those that stand there already are left. -/
def putS (R : List Rw) (ph a : Int) : Nat → List Int → List Int × (List Int × List Int × Bool) → List Int × (List Int × List Int × Bool)
  | _, [], s => s
  | i, w :: l, s => putS R ph a (i + 1) l (if s.1[(a + 1 + i).toNat]? = some w then s else (s.1.set (a + 1 + i).toNat w, shadeW R ph w s.2))
set_option maxHeartbeats 8000000 in
theorem put_lx (R : List Rw) (ws C G : List Int) (N W ph sp cy : Int) (L D Q : List PV) (z : ByteArray) (ov : Bool) (h : HM R ws C G N W L D Q z) (o : Unit → Obj) (ho : IsPow o) (a kd e : Int) (X : List Int) (m : Int) (O : List PV) (hO : O = ipv X) (hm : m = X.length) (hXb : ∀ x ∈ X, -9223372036854775808 ≤ x ∧ x ≤ 9223372036854775807) (hK : e = 0 → Kept R ws a kd m) : CallF (fun _ => Tryz.prog) 98 [.ptr 0 (.lit 0), .p (.int .i64 (.sym a)), .p (.vsl (.sym m) true O), .p (.int .i64 (.sym e))] [(0, .mix [.ptr 1 (.lit 0), .ptr 5 (.lit 0), .sl 6 3 1 (.lit 0) (.sym W), .p (.int .i64 (.sym ph)), .p (.int .i64 (.sym sp)), .p (.int .i64 (.sym cy))]), (1, .mix [.ptr 2 (.lit 0), .sl 4 3 1 (.lit 0) (.sym W)]), (2, .mix [.sl 3 161 2 (.lit 0) (.sym N)]), (3, .pure true L), (4, .pure true D), (5, .pure false [.str fun _ => z, .bool ov]), (6, .pure true Q), (7, .fix 0 o)] 8
    (fun r h n => ∃ (ws' C' G' : List Int) (ov' : Bool) (D' Q' : List PV) (z' : ByteArray), r = .p (.int .i64 (.sym e)) ∧ h = [(0, .mix [.ptr 1 (.lit 0), .ptr 5 (.lit 0), .sl 6 3 1 (.lit 0) (.sym W), .p (.int .i64 (.sym ph)), .p (.int .i64 (.sym sp)), .p (.int .i64 (.sym cy))]), (1, .mix [.ptr 2 (.lit 0), .sl 4 3 1 (.lit 0) (.sym W)]), (2, .mix [.sl 3 161 2 (.lit 0) (.sym N)]), (3, .pure true L), (4, .pure true D'), (5, .pure false [.str fun _ => z', .bool ov']), (6, .pure true Q'), (7, .fix 0 o)] ∧ n = 8 ∧ HM R ws' C' G' N W L D' Q' z' ∧ (ws', C', G', ov') = if e = 0 then putS R ph a 0 X (ws, C, G, ov) else (ws, C, G, ov)) := by
  refine callF_of_body tok Tryz.func98 (by kernel_rfl) rfl rfl rfl ?_; conv => cbv
  refine Br.mk (fun g => ?_) (fun g => ?_)
  · have g : ¬ e = 0 := g
    conv => cbv
    refine RetF.mk [.p (.int .i64 (.sym e))] [(0, .mix [.ptr 1 (.lit 0), .ptr 5 (.lit 0), .sl 6 3 1 (.lit 0) (.sym W), .p (.int .i64 (.sym ph)), .p (.int .i64 (.sym sp)), .p (.int .i64 (.sym cy))]), (1, .mix [.ptr 2 (.lit 0), .sl 4 3 1 (.lit 0) (.sym W)]), (2, .mix [.sl 3 161 2 (.lit 0) (.sym N)]), (3, .pure true L), (4, .pure true D), (5, .pure false [.str fun _ => z, .bool ov]), (6, .pure true Q), (7, .fix 0 o)] 8 (Re.at [(0, 0), (1, 1), (2, 2), (3, 3), (4, 4), (5, 5), (6, 6), (7, 7)] []) rfl ⟨ws, C, G, ov, D, Q, z, rfl, rfl, rfl, h, by rw [if_neg g]⟩
  · have g : e = 0 := Classical.byContradiction fun q => g q
    have hK := hK g
    have hb := hK.bounds h.a
    obtain ⟨E, hE⟩ : ∃ E, E = putS R ph a 0 X (ws, C, G, ov) := ⟨_, rfl⟩
    conv => cbv
    refine LoopF.mk (fun kk s => ∃ (i : Int) (ws1 C1 G1 : List Int) (ov1 : Bool) (D1 Q1 : List PV) (z1 : ByteArray), s = ⟨.ptr 0 (.lit 0) :: .p (.int .i64 (.sym a)) :: (undefs 14 ++ .p (.vsl (.sym m) true O) :: .p (.int .i64 (.sym m)) :: .p (.int .i64 (.sym i)) :: undefs 20), [(0, .mix [.ptr 1 (.lit 0), .ptr 5 (.lit 0), .sl 6 3 1 (.lit 0) (.sym W), .p (.int .i64 (.sym ph)), .p (.int .i64 (.sym sp)), .p (.int .i64 (.sym cy))]), (1, .mix [.ptr 2 (.lit 0), .sl 4 3 1 (.lit 0) (.sym W)]), (2, .mix [.sl 3 161 2 (.lit 0) (.sym N)]), (3, .pure true L), (4, .pure true D1), (5, .pure false [.str fun _ => z1, .bool ov1]), (6, .pure true Q1), (7, .fix 0 o)], 8⟩ ∧ 0 ≤ i ∧ i ≤ m ∧ kk = (m - i).toNat ∧ HM R ws1 C1 G1 N W L D1 Q1 z1 ∧ Kept R ws1 a kd m ∧ E = putS R ph a i.toNat (X.drop i.toNat) (ws1, C1, G1, ov1)) m.toNat _
      (Re.at [(0, 0), (1, 1), (2, 2), (3, 3), (4, 4), (5, 5), (6, 6), (7, 7)] []) ⟨0, ws, C, G, ov, D, Q, z, rfl, by omega, by omega, by omega, h, hK, hE⟩ ?_
    rintro kk s ⟨i, ws1, C1, G1, ov1, D1, Q1, z1, rfl, hi0, hi1, hkk, h1, hK1, hE1⟩
    have hb1 := hK1.bounds h1.a
    have hlen1 := h1.a.len
    conv => cbv
    refine Br.mk (fun gi => ?_) (fun gi => ?_)
    · have gi : i < m := gi
      obtain ⟨w, hw⟩ : ∃ w, X[i.toNat]? = some w := ⟨_, List.getElem?_eq_getElem (by omega)⟩
      have hOw : O[i.toNat]? = some (.int .i64 (.sym w)) := by rw [hO, ipv_getx, hw]; rfl
      have hwb := hXb w (List.mem_of_getElem? hw)
      have hdr : X.drop i.toNat = w :: X.drop (i.toNat + 1) := by rw [List.drop_eq_getElem_cons (by omega)]; rw [List.getElem?_eq_getElem (by omega)] at hw; rw [Option.some.inj hw]
      rw [hdr, putS] at hE1
      dsimp only at hE1
      rw [show a + 1 + ((i.toNat : Nat) : Int) = a + 1 + i by omega] at hE1
      conv => cbv
      refine Need.mk (show 0 ≤ i ∧ i < m from ⟨hi0, gi⟩) ?_
      conv => cbv
      refine Cell.at i _ hOw (by simp [I.val]) rfl ?_
      conv => cbv
      refine callF_frame (load9_lx R ws1 C1 G1 N W ph sp cy L D1 Q1 z1 ov1 h1 a i) [(0, 0), (1, 1), (2, 2), (3, 3), (4, 4), (5, 5), (6, 6)] rfl (by simp [hmapOk, nget, hget, renB, okB, renV, renVs, rn, okVs, okV]) rfl rfl (fun r h' n' hrr => ?_)
      obtain ⟨x, e9, e1, e2, e3, hx⟩ := hrr
      subst e1 e2 e3
      obtain ⟨_, hxw⟩ := loaded_of hK1 ⟨hi0, gi⟩ hx
      rw [hxw] at hE1
      clear hx
      conv => cbv
      refine Br.mk (fun gx => ?_) (fun gx => ?_)
      · have gx : ¬ x = w := gx
        rw [if_neg (fun q => gx (Option.some.inj q))] at hE1
        conv => cbv
        refine callF_frame (store9_lx R ws1 C1 G1 N W ph sp cy L D1 Q1 z1 ov1 h1 o ho a i w hwb) [(0, 0), (1, 1), (2, 2), (3, 3), (4, 4), (5, 5), (6, 6), (7, 7)] rfl (by simp [hmapOk, nget, hget, renB, okB, renV, renVs, rn, okVs, okV]) rfl rfl (fun r h' n' hrr => ?_)
        obtain ⟨f, ws2, C2, G2, ov2, D2, Q2, z2, e1, e2, e3, h2, hS, hC⟩ := hrr
        subst e1 e2 e3
        have hK2 := (stored_to h1.a hS).1 a kd m hK1
        obtain ⟨hf, hw2⟩ := stored_of hK1 ⟨hi0, gi⟩ hS
        have hC : (C2, G2, ov2) = shadeW R ph w (C1, G1, ov1) := by rw [hC, storeS, if_pos hf]
        rw [← hC, ← hw2] at hE1
        clear hS hC hw2 h1 hK1
        conv => cbv
        refine Fit.mk (by show (-9223372036854775808 : Int) ≤ i + 1; omega) (by show i + 1 ≤ 9223372036854775807; omega) fun i2 hi2 => ?_
        have hi2 : i2 = i + 1 := hi2
        have htn : i2.toNat = i.toNat + 1 := by omega
        rw [← htn] at hE1
        conv => cbv
        refine Again.mk (m - i2).toNat _ (by omega) (Re.at [(0, 0), (1, 1), (2, 2), (3, 3), (4, 4), (5, 5), (6, 6), (7, 7)] []) ⟨i2, ws2, C2, G2, ov2, D2, Q2, z2, rfl, by omega, by omega, rfl, h2, hK2, hE1⟩
      · have gx : x = w := Classical.byContradiction fun q => gx q
        rw [if_pos (by rw [gx])] at hE1
        conv => cbv
        refine Fit.mk (by show (-9223372036854775808 : Int) ≤ i + 1; omega) (by show i + 1 ≤ 9223372036854775807; omega) fun i2 hi2 => ?_
        have hi2 : i2 = i + 1 := hi2
        have htn : i2.toNat = i.toNat + 1 := by omega
        rw [← htn] at hE1
        conv => cbv
        refine Again.mk (m - i2).toNat _ (by omega) (Re.at [(0, 0), (1, 1), (2, 2), (3, 3), (4, 4), (5, 5), (6, 6), (7, 7)] []) ⟨i2, ws1, C1, G1, ov1, D1, Q1, z1, rfl, by omega, by omega, rfl, h1, hK1, hE1⟩
    · have gi : ¬ i < m := gi
      have hdr : X.drop i.toNat = [] := List.drop_eq_nil_of_le (by omega)
      rw [hdr, putS] at hE1
      conv => cbv
      refine RetF.mk [.p (.int .i64 (.sym e))] [(0, .mix [.ptr 1 (.lit 0), .ptr 5 (.lit 0), .sl 6 3 1 (.lit 0) (.sym W), .p (.int .i64 (.sym ph)), .p (.int .i64 (.sym sp)), .p (.int .i64 (.sym cy))]), (1, .mix [.ptr 2 (.lit 0), .sl 4 3 1 (.lit 0) (.sym W)]), (2, .mix [.sl 3 161 2 (.lit 0) (.sym N)]), (3, .pure true L), (4, .pure true D1), (5, .pure false [.str fun _ => z1, .bool ov1]), (6, .pure true Q1), (7, .fix 0 o)] 8 (Re.at [(0, 0), (1, 1), (2, 2), (3, 3), (4, 4), (5, 5), (6, 6), (7, 7)] []) rfl ⟨ws1, C1, G1, ov1, D1, Q1, z1, rfl, rfl, rfl, h1, by rw [if_pos g, ← hE, hE1]⟩
end Go.Proofs.YtolamdalijjlnaaGreatDoor
/-
  Layer 11 in the calculus: things put.
-/
namespace Go.Proofs.YtolamdalijjlnaaGreatDoor

open Go Go.LX
set_option maxRecDepth 100000
set_option linter.unusedVariables false
set_option linter.unusedSimpArgs false

abbrev St4 := List Int × (List Int × List Int × Bool)
/-- A thing put: how it went, and what there is then. -/
inductive PT (kd ln : Int) (W : List Int) (R : List Rw) (ph a : Int) (s : St4) : Int → St4 → Prop
  | ok (h : Kept R s.1 a kd ln) : PT kd ln W R ph a s 0 (putS R ph a 0 W s)
  | no (h : ¬ Kept R s.1 a kd ln) : PT kd ln W R ph a s 10 s
theorem TR.two {kd ln : Int} {fs : List Int → List Int} {R : List Rw} {ws : List Int} {a e : Int} {y : List Int} (h : TR kd ln fs R ws a e y) : (e = 0 ∧ Kept R ws a kd ln) ∨ (e = 10 ∧ ¬ Kept R ws a kd ln) := by
  cases h with
  | ok X h hX => exact .inl ⟨rfl, h⟩
  | no h => exact .inr ⟨rfl, h⟩
theorem chanWs_bd (x0 x1 x2 x3 x4 x5 x6 x7 x8 : Int) (hb : ∀ x ∈ [x0, x1, x2, x3, x4, x5, x6, x7, x8], b62 x) : ∀ w ∈ chanWs [x0, x1, x2, x3, x4, x5, x6, x7, x8], -9223372036854775808 ≤ w ∧ w ≤ 9223372036854775807 := by
  simp only [List.forall_mem_cons] at hb
  obtain ⟨b0, b1, b2, b3, b4, b5, b6, b7, b8, _⟩ := hb
  unfold b62 at b0 b1 b2 b3 b4 b5 b6 b7 b8
  intro w hw'
  simp only [chanWs, List.mem_cons, List.not_mem_nil, or_false] at hw'
  rcases hw' with rfl | rfl | rfl | rfl | rfl | rfl | rfl | rfl | rfl
  · omega
  · omega
  · omega
  · omega
  · exact plW_bd b4
  · exact plW_bd b5
  · exact plW_bd b6
  · exact plW_bd b7
  · exact plW_bd b8
set_option maxHeartbeats 8000000 in
theorem putChan_lx (R : List Rw) (ws C G : List Int) (N W ph sp cy : Int) (L D Q : List PV) (z : ByteArray) (ov : Bool) (h : HM R ws C G N W L D Q z) (o : Unit → Obj) (ho : IsPow o) (a x0 x1 x2 x3 x4 x5 x6 x7 x8 : Int) (hb : ∀ x ∈ [x0, x1, x2, x3, x4, x5, x6, x7, x8], b62 x) : CallF (fun _ => Tryz.prog) 40 [.ptr 0 (.lit 0), .p (.int .i64 (.sym a)), .agg [.p (.int .i64 (.sym x0)), .p (.int .i64 (.sym x1)), .p (.int .i64 (.sym x2)), .p (.int .i64 (.sym x3)), .p (.int .i64 (.sym x4)), .p (.int .i64 (.sym x5)), .p (.int .i64 (.sym x6)), .p (.int .i64 (.sym x7)), .p (.int .i64 (.sym x8))]] [(0, .mix [.ptr 1 (.lit 0), .ptr 5 (.lit 0), .sl 6 3 1 (.lit 0) (.sym W), .p (.int .i64 (.sym ph)), .p (.int .i64 (.sym sp)), .p (.int .i64 (.sym cy))]), (1, .mix [.ptr 2 (.lit 0), .sl 4 3 1 (.lit 0) (.sym W)]), (2, .mix [.sl 3 161 2 (.lit 0) (.sym N)]), (3, .pure true L), (4, .pure true D), (5, .pure false [.str fun _ => z, .bool ov]), (6, .pure true Q), (7, .fix 0 o)] 8
    (fun r h n => ∃ (e : Int) (ws' C' G' : List Int) (ov' : Bool) (D' Q' : List PV) (z' : ByteArray), r = .p (.int .i64 (.sym e)) ∧ h = [(0, .mix [.ptr 1 (.lit 0), .ptr 5 (.lit 0), .sl 6 3 1 (.lit 0) (.sym W), .p (.int .i64 (.sym ph)), .p (.int .i64 (.sym sp)), .p (.int .i64 (.sym cy))]), (1, .mix [.ptr 2 (.lit 0), .sl 4 3 1 (.lit 0) (.sym W)]), (2, .mix [.sl 3 161 2 (.lit 0) (.sym N)]), (3, .pure true L), (4, .pure true D'), (5, .pure false [.str fun _ => z', .bool ov']), (6, .pure true Q'), (7, .fix 0 o)] ∧ n = 8 ∧ HM R ws' C' G' N W L D' Q' z' ∧ PT 1 9 (chanWs [x0, x1, x2, x3, x4, x5, x6, x7, x8]) R ph a (ws, C, G, ov) e (ws', C', G', ov')) := by
  refine callF_of_body tok Tryz.func40 (by kernel_rfl) rfl rfl rfl ?_; conv => cbv
  refine callF_frame (chan_lx R ws C G N W ph sp cy L D Q z ov h a) [(0, 0), (1, 1), (2, 2), (3, 3), (4, 4), (5, 5), (6, 6)] rfl (by simp [hmapOk, nget, hget, renB, okB, renV, renVs, rn, okVs, okV]) rfl rfl (fun r h' n' hrr => ?_)
  obtain ⟨⟨y0, y1, y2, y3, y4, y5, y6, y7, y8, e, e1, hT⟩, e2, e3⟩ := hrr
  subst e1 e2 e3
  conv => cbv
  refine callF_frame (chanWords_lx x0 x1 x2 x3 x4 x5 x6 x7 x8 hb) [] rfl trivial rfl rfl (fun r h' n' hrr => ?_)
  obtain ⟨⟨v0, v1, v2, v3, v4, v5, v6, v7, v8, e1, hv⟩, e2, e3⟩ := hrr
  subst e1 e2 e3
  have hKe : e = 0 → Kept R ws a 1 9 := by
    rcases hT.two with ⟨_, hK⟩ | ⟨q, _⟩
    · exact fun _ => hK
    · exact fun q2 => absurd (q.symm.trans q2) (by decide)
  conv => cbv
  refine CallF.le (args0 := [.ptr 0 (.lit 0), .p (.int .i64 (.sym a)), .p (.vsl (.sym 9) true [.int .i64 (.sym v0), .int .i64 (.sym v1), .int .i64 (.sym v2), .int .i64 (.sym v3), .int .i64 (.sym v4), .int .i64 (.sym v5), .int .i64 (.sym v6), .int .i64 (.sym v7), .int .i64 (.sym v8)]), .p (.int .i64 (.sym e))]) (callF_frame (put_lx R ws C G N W ph sp cy L D Q z ov h o ho a 1 e [v0, v1, v2, v3, v4, v5, v6, v7, v8] 9 [.int .i64 (.sym v0), .int .i64 (.sym v1), .int .i64 (.sym v2), .int .i64 (.sym v3), .int .i64 (.sym v4), .int .i64 (.sym v5), .int .i64 (.sym v6), .int .i64 (.sym v7), .int .i64 (.sym v8)] rfl rfl (by rw [hv]; exact chanWs_bd x0 x1 x2 x3 x4 x5 x6 x7 x8 hb) hKe) [(0, 0), (1, 1), (2, 2), (3, 3), (4, 4), (5, 5), (6, 6), (7, 7)] rfl (by simp [hmapOk, nget, hget, renB, okB, renV, renVs, rn, okVs, okV]) rfl rfl (fun r h' n' hrr => ?_)) (by simp [ales, ale, pvle, I.val])
  obtain ⟨ws', C', G', ov', D', Q', z', e1, e2, e3, h', hS⟩ := hrr
  subst e1 e2 e3
  have hP : PT 1 9 (chanWs [x0, x1, x2, x3, x4, x5, x6, x7, x8]) R ph a (ws, C, G, ov) e (ws', C', G', ov') := by
    rw [hS, hv]
    rcases hT.two with ⟨q, hK⟩ | ⟨q, hK⟩
    · rw [if_pos q, q]; exact .ok hK
    · rw [if_neg (by rw [q]; decide), q]; exact .no hK
  clear hS hT hKe h
  conv => cbv
  refine RetF.mk [.p (.int .i64 (.sym e))] [(0, .mix [.ptr 1 (.lit 0), .ptr 5 (.lit 0), .sl 6 3 1 (.lit 0) (.sym W), .p (.int .i64 (.sym ph)), .p (.int .i64 (.sym sp)), .p (.int .i64 (.sym cy))]), (1, .mix [.ptr 2 (.lit 0), .sl 4 3 1 (.lit 0) (.sym W)]), (2, .mix [.sl 3 161 2 (.lit 0) (.sym N)]), (3, .pure true L), (4, .pure true D'), (5, .pure false [.str fun _ => z', .bool ov']), (6, .pure true Q'), (7, .fix 0 o)] 8 (Re.at [(0, 0), (1, 1), (2, 2), (3, 3), (4, 4), (5, 5), (6, 6), (7, 7)] []) rfl ⟨e, ws', C', G', ov', D', Q', z', rfl, rfl, rfl, h', hP⟩
theorem sudogWs_bd (x0 x1 x2 x3 x4 x5 x6 : Int) (hb : ∀ x ∈ [x0, x1, x3, x4, x5, x6], b62 x) (hw : ∀ x ∈ [x2], -9223372036854775808 ≤ x ∧ x ≤ 9223372036854775807) : ∀ w ∈ sudogWs [x0, x1, x2, x3, x4, x5, x6], -9223372036854775808 ≤ w ∧ w ≤ 9223372036854775807 := by
  simp only [List.forall_mem_cons] at hb hw
  obtain ⟨b0, b1, b3, b4, b5, b6, _⟩ := hb
  obtain ⟨b2, _⟩ := hw
  unfold b62 at b0 b1 b3 b4 b5 b6
  intro w hw'
  simp only [sudogWs, List.mem_cons, List.not_mem_nil, or_false] at hw'
  rcases hw' with rfl | rfl | rfl | rfl | rfl | rfl | rfl
  · exact plW_bd b0
  · exact plW_bd b1
  · exact b2
  · exact plW_bd b3
  · omega
  · omega
  · exact plW_bd b6
set_option maxHeartbeats 8000000 in
theorem putSudog_lx (R : List Rw) (ws C G : List Int) (N W ph sp cy : Int) (L D Q : List PV) (z : ByteArray) (ov : Bool) (h : HM R ws C G N W L D Q z) (o : Unit → Obj) (ho : IsPow o) (a x0 x1 x2 x3 x4 x5 x6 : Int) (hb : ∀ x ∈ [x0, x1, x3, x4, x5, x6], b62 x) (hw : ∀ x ∈ [x2], -9223372036854775808 ≤ x ∧ x ≤ 9223372036854775807) : CallF (fun _ => Tryz.prog) 42 [.ptr 0 (.lit 0), .p (.int .i64 (.sym a)), .agg [.p (.int .i64 (.sym x0)), .p (.int .i64 (.sym x1)), .p (.int .i64 (.sym x2)), .p (.int .i64 (.sym x3)), .p (.int .i64 (.sym x4)), .p (.int .i64 (.sym x5)), .p (.int .i64 (.sym x6))]] [(0, .mix [.ptr 1 (.lit 0), .ptr 5 (.lit 0), .sl 6 3 1 (.lit 0) (.sym W), .p (.int .i64 (.sym ph)), .p (.int .i64 (.sym sp)), .p (.int .i64 (.sym cy))]), (1, .mix [.ptr 2 (.lit 0), .sl 4 3 1 (.lit 0) (.sym W)]), (2, .mix [.sl 3 161 2 (.lit 0) (.sym N)]), (3, .pure true L), (4, .pure true D), (5, .pure false [.str fun _ => z, .bool ov]), (6, .pure true Q), (7, .fix 0 o)] 8
    (fun r h n => ∃ (e : Int) (ws' C' G' : List Int) (ov' : Bool) (D' Q' : List PV) (z' : ByteArray), r = .p (.int .i64 (.sym e)) ∧ h = [(0, .mix [.ptr 1 (.lit 0), .ptr 5 (.lit 0), .sl 6 3 1 (.lit 0) (.sym W), .p (.int .i64 (.sym ph)), .p (.int .i64 (.sym sp)), .p (.int .i64 (.sym cy))]), (1, .mix [.ptr 2 (.lit 0), .sl 4 3 1 (.lit 0) (.sym W)]), (2, .mix [.sl 3 161 2 (.lit 0) (.sym N)]), (3, .pure true L), (4, .pure true D'), (5, .pure false [.str fun _ => z', .bool ov']), (6, .pure true Q'), (7, .fix 0 o)] ∧ n = 8 ∧ HM R ws' C' G' N W L D' Q' z' ∧ PT 3 7 (sudogWs [x0, x1, x2, x3, x4, x5, x6]) R ph a (ws, C, G, ov) e (ws', C', G', ov')) := by
  refine callF_of_body tok Tryz.func42 (by kernel_rfl) rfl rfl rfl ?_; conv => cbv
  refine callF_frame (sudog_lx R ws C G N W ph sp cy L D Q z ov h a) [(0, 0), (1, 1), (2, 2), (3, 3), (4, 4), (5, 5), (6, 6)] rfl (by simp [hmapOk, nget, hget, renB, okB, renV, renVs, rn, okVs, okV]) rfl rfl (fun r h' n' hrr => ?_)
  obtain ⟨⟨y0, y1, y2, y3, y4, y5, y6, e, e1, hT⟩, e2, e3⟩ := hrr
  subst e1 e2 e3
  conv => cbv
  refine callF_frame (sudogWords_lx x0 x1 x2 x3 x4 x5 x6 hb) [] rfl trivial rfl rfl (fun r h' n' hrr => ?_)
  obtain ⟨⟨v0, v1, v2, v3, v4, v5, v6, e1, hv⟩, e2, e3⟩ := hrr
  subst e1 e2 e3
  have hKe : e = 0 → Kept R ws a 3 7 := by
    rcases hT.two with ⟨_, hK⟩ | ⟨q, _⟩
    · exact fun _ => hK
    · exact fun q2 => absurd (q.symm.trans q2) (by decide)
  conv => cbv
  refine CallF.le (args0 := [.ptr 0 (.lit 0), .p (.int .i64 (.sym a)), .p (.vsl (.sym 7) true [.int .i64 (.sym v0), .int .i64 (.sym v1), .int .i64 (.sym v2), .int .i64 (.sym v3), .int .i64 (.sym v4), .int .i64 (.sym v5), .int .i64 (.sym v6)]), .p (.int .i64 (.sym e))]) (callF_frame (put_lx R ws C G N W ph sp cy L D Q z ov h o ho a 3 e [v0, v1, v2, v3, v4, v5, v6] 7 [.int .i64 (.sym v0), .int .i64 (.sym v1), .int .i64 (.sym v2), .int .i64 (.sym v3), .int .i64 (.sym v4), .int .i64 (.sym v5), .int .i64 (.sym v6)] rfl rfl (by rw [hv]; exact sudogWs_bd x0 x1 x2 x3 x4 x5 x6 hb hw) hKe) [(0, 0), (1, 1), (2, 2), (3, 3), (4, 4), (5, 5), (6, 6), (7, 7)] rfl (by simp [hmapOk, nget, hget, renB, okB, renV, renVs, rn, okVs, okV]) rfl rfl (fun r h' n' hrr => ?_)) (by simp [ales, ale, pvle, I.val])
  obtain ⟨ws', C', G', ov', D', Q', z', e1, e2, e3, h', hS⟩ := hrr
  subst e1 e2 e3
  have hP : PT 3 7 (sudogWs [x0, x1, x2, x3, x4, x5, x6]) R ph a (ws, C, G, ov) e (ws', C', G', ov') := by
    rw [hS, hv]
    rcases hT.two with ⟨q, hK⟩ | ⟨q, hK⟩
    · rw [if_pos q, q]; exact .ok hK
    · rw [if_neg (by rw [q]; decide), q]; exact .no hK
  clear hS hT hKe h
  conv => cbv
  refine RetF.mk [.p (.int .i64 (.sym e))] [(0, .mix [.ptr 1 (.lit 0), .ptr 5 (.lit 0), .sl 6 3 1 (.lit 0) (.sym W), .p (.int .i64 (.sym ph)), .p (.int .i64 (.sym sp)), .p (.int .i64 (.sym cy))]), (1, .mix [.ptr 2 (.lit 0), .sl 4 3 1 (.lit 0) (.sym W)]), (2, .mix [.sl 3 161 2 (.lit 0) (.sym N)]), (3, .pure true L), (4, .pure true D'), (5, .pure false [.str fun _ => z', .bool ov']), (6, .pure true Q'), (7, .fix 0 o)] 8 (Re.at [(0, 0), (1, 1), (2, 2), (3, 3), (4, 4), (5, 5), (6, 6), (7, 7)] []) rfl ⟨e, ws', C', G', ov', D', Q', z', rfl, rfl, rfl, h', hP⟩
theorem gorWs_bd (x0 x1 x2 x3 x4 x5 x6 x7 x8 x9 : Int) (hb : ∀ x ∈ [x0, x1, x2, x9], b62 x) (hw : ∀ x ∈ [x3, x4, x5, x6, x7, x8], -9223372036854775808 ≤ x ∧ x ≤ 9223372036854775807) : ∀ w ∈ gorWs [x0, x1, x2, x3, x4, x5, x6, x7, x8, x9], -9223372036854775808 ≤ w ∧ w ≤ 9223372036854775807 := by
  simp only [List.forall_mem_cons] at hb hw
  obtain ⟨b0, b1, b2, b9, _⟩ := hb
  obtain ⟨b3, b4, b5, b6, b7, b8, _⟩ := hw
  unfold b62 at b0 b1 b2 b9
  intro w hw'
  simp only [gorWs, List.mem_cons, List.not_mem_nil, or_false] at hw'
  rcases hw' with rfl | rfl | rfl | rfl | rfl | rfl | rfl | rfl | rfl | rfl
  · omega
  · omega
  · omega
  · exact b3
  · exact b4
  · exact b5
  · exact b6
  · exact b7
  · exact b8
  · exact plW_bd b9
set_option maxHeartbeats 8000000 in
theorem putGor_lx (R : List Rw) (ws C G : List Int) (N W ph sp cy : Int) (L D Q : List PV) (z : ByteArray) (ov : Bool) (h : HM R ws C G N W L D Q z) (o : Unit → Obj) (ho : IsPow o) (a x0 x1 x2 x3 x4 x5 x6 x7 x8 x9 : Int) (hb : ∀ x ∈ [x0, x1, x2, x9], b62 x) (hw : ∀ x ∈ [x3, x4, x5, x6, x7, x8], -9223372036854775808 ≤ x ∧ x ≤ 9223372036854775807) : CallF (fun _ => Tryz.prog) 44 [.ptr 0 (.lit 0), .p (.int .i64 (.sym a)), .agg [.p (.int .i64 (.sym x0)), .p (.int .i64 (.sym x1)), .p (.int .i64 (.sym x2)), .p (.int .i64 (.sym x3)), .p (.int .i64 (.sym x4)), .p (.int .i64 (.sym x5)), .p (.int .i64 (.sym x6)), .p (.int .i64 (.sym x7)), .p (.int .i64 (.sym x8)), .p (.int .i64 (.sym x9))]] [(0, .mix [.ptr 1 (.lit 0), .ptr 5 (.lit 0), .sl 6 3 1 (.lit 0) (.sym W), .p (.int .i64 (.sym ph)), .p (.int .i64 (.sym sp)), .p (.int .i64 (.sym cy))]), (1, .mix [.ptr 2 (.lit 0), .sl 4 3 1 (.lit 0) (.sym W)]), (2, .mix [.sl 3 161 2 (.lit 0) (.sym N)]), (3, .pure true L), (4, .pure true D), (5, .pure false [.str fun _ => z, .bool ov]), (6, .pure true Q), (7, .fix 0 o)] 8
    (fun r h n => ∃ (e : Int) (ws' C' G' : List Int) (ov' : Bool) (D' Q' : List PV) (z' : ByteArray), r = .p (.int .i64 (.sym e)) ∧ h = [(0, .mix [.ptr 1 (.lit 0), .ptr 5 (.lit 0), .sl 6 3 1 (.lit 0) (.sym W), .p (.int .i64 (.sym ph)), .p (.int .i64 (.sym sp)), .p (.int .i64 (.sym cy))]), (1, .mix [.ptr 2 (.lit 0), .sl 4 3 1 (.lit 0) (.sym W)]), (2, .mix [.sl 3 161 2 (.lit 0) (.sym N)]), (3, .pure true L), (4, .pure true D'), (5, .pure false [.str fun _ => z', .bool ov']), (6, .pure true Q'), (7, .fix 0 o)] ∧ n = 8 ∧ HM R ws' C' G' N W L D' Q' z' ∧ PT 4 10 (gorWs [x0, x1, x2, x3, x4, x5, x6, x7, x8, x9]) R ph a (ws, C, G, ov) e (ws', C', G', ov')) := by
  refine callF_of_body tok Tryz.func44 (by kernel_rfl) rfl rfl rfl ?_; conv => cbv
  refine callF_frame (gor_lx R ws C G N W ph sp cy L D Q z ov h a) [(0, 0), (1, 1), (2, 2), (3, 3), (4, 4), (5, 5), (6, 6)] rfl (by simp [hmapOk, nget, hget, renB, okB, renV, renVs, rn, okVs, okV]) rfl rfl (fun r h' n' hrr => ?_)
  obtain ⟨⟨y0, y1, y2, y3, y4, y5, y6, y7, y8, y9, e, e1, hT⟩, e2, e3⟩ := hrr
  subst e1 e2 e3
  conv => cbv
  refine callF_frame (gorWords_lx x0 x1 x2 x3 x4 x5 x6 x7 x8 x9 hb) [] rfl trivial rfl rfl (fun r h' n' hrr => ?_)
  obtain ⟨⟨v0, v1, v2, v3, v4, v5, v6, v7, v8, v9, e1, hv⟩, e2, e3⟩ := hrr
  subst e1 e2 e3
  have hKe : e = 0 → Kept R ws a 4 10 := by
    rcases hT.two with ⟨_, hK⟩ | ⟨q, _⟩
    · exact fun _ => hK
    · exact fun q2 => absurd (q.symm.trans q2) (by decide)
  conv => cbv
  refine CallF.le (args0 := [.ptr 0 (.lit 0), .p (.int .i64 (.sym a)), .p (.vsl (.sym 10) true [.int .i64 (.sym v0), .int .i64 (.sym v1), .int .i64 (.sym v2), .int .i64 (.sym v3), .int .i64 (.sym v4), .int .i64 (.sym v5), .int .i64 (.sym v6), .int .i64 (.sym v7), .int .i64 (.sym v8), .int .i64 (.sym v9)]), .p (.int .i64 (.sym e))]) (callF_frame (put_lx R ws C G N W ph sp cy L D Q z ov h o ho a 4 e [v0, v1, v2, v3, v4, v5, v6, v7, v8, v9] 10 [.int .i64 (.sym v0), .int .i64 (.sym v1), .int .i64 (.sym v2), .int .i64 (.sym v3), .int .i64 (.sym v4), .int .i64 (.sym v5), .int .i64 (.sym v6), .int .i64 (.sym v7), .int .i64 (.sym v8), .int .i64 (.sym v9)] rfl rfl (by rw [hv]; exact gorWs_bd x0 x1 x2 x3 x4 x5 x6 x7 x8 x9 hb hw) hKe) [(0, 0), (1, 1), (2, 2), (3, 3), (4, 4), (5, 5), (6, 6), (7, 7)] rfl (by simp [hmapOk, nget, hget, renB, okB, renV, renVs, rn, okVs, okV]) rfl rfl (fun r h' n' hrr => ?_)) (by simp [ales, ale, pvle, I.val])
  obtain ⟨ws', C', G', ov', D', Q', z', e1, e2, e3, h', hS⟩ := hrr
  subst e1 e2 e3
  have hP : PT 4 10 (gorWs [x0, x1, x2, x3, x4, x5, x6, x7, x8, x9]) R ph a (ws, C, G, ov) e (ws', C', G', ov') := by
    rw [hS, hv]
    rcases hT.two with ⟨q, hK⟩ | ⟨q, hK⟩
    · rw [if_pos q, q]; exact .ok hK
    · rw [if_neg (by rw [q]; decide), q]; exact .no hK
  clear hS hT hKe h
  conv => cbv
  refine RetF.mk [.p (.int .i64 (.sym e))] [(0, .mix [.ptr 1 (.lit 0), .ptr 5 (.lit 0), .sl 6 3 1 (.lit 0) (.sym W), .p (.int .i64 (.sym ph)), .p (.int .i64 (.sym sp)), .p (.int .i64 (.sym cy))]), (1, .mix [.ptr 2 (.lit 0), .sl 4 3 1 (.lit 0) (.sym W)]), (2, .mix [.sl 3 161 2 (.lit 0) (.sym N)]), (3, .pure true L), (4, .pure true D'), (5, .pure false [.str fun _ => z', .bool ov']), (6, .pure true Q'), (7, .fix 0 o)] 8 (Re.at [(0, 0), (1, 1), (2, 2), (3, 3), (4, 4), (5, 5), (6, 6), (7, 7)] []) rfl ⟨e, ws', C', G', ov', D', Q', z', rfl, rfl, rfl, h', hP⟩
end Go.Proofs.YtolamdalijjlnaaGreatDoor
/-
  Layer 10 in the calculus: the reference's record.Need.
-/
namespace Go.Proofs.YtolamdalijjlnaaGreatDoor

open Go Go.LX
set_option maxRecDepth 100000
set_option linter.unusedVariables false
set_option linter.unusedSimpArgs false

theorem rFields1_lx : CallF (fun _ => Tryz.prog) 170 [.p (.int .i64 (.lit 1))] [] 0 (fun r h n => (∃ l, r = .p (.vsl (.lit 9) true l)) ∧ h = [] ∧ n = 0) := by
  refine callF_of_body tok Tryz.func170 (by kernel_rfl) rfl rfl rfl ?_; conv => cbv
  refine RetF.mk [.p (.vsl (.lit 9) true [.str fun _ => ⟨#[99, 97, 112]⟩, .str fun _ => ⟨#[99, 108, 111, 115, 101, 100]⟩, .str fun _ => ⟨#[99, 111, 117, 110, 116]⟩, .str fun _ => ⟨#[115, 116, 97, 114, 116]⟩, .str fun _ => ⟨#[98, 117, 102]⟩, .str fun _ => ⟨#[116, 97, 107, 101, 104, 101, 97, 100]⟩, .str fun _ => ⟨#[116, 97, 107, 101, 116, 97, 105, 108]⟩, .str fun _ => ⟨#[115, 101, 110, 100, 104, 101, 97, 100]⟩, .str fun _ => ⟨#[115, 101, 110, 100, 116, 97, 105, 108]⟩])] [] 0 (Re.at [] []) rfl ⟨⟨_, rfl⟩, rfl, rfl⟩
theorem rNeed1_lx : CallF (fun _ => Tryz.prog) 147 [.p (.int .i64 (.lit 1)), .p (.int .i64 (.lit 0))] [] 0 (fun r h n => r = .tup [.p (.int .i64 (.lit 9)), .p (.bool true)] ∧ h = [] ∧ n = 0) := by
  refine callF_of_body tok Tryz.func147 (by kernel_rfl) rfl rfl rfl ?_; conv => cbv
  refine callF_frame rFields1_lx [] rfl trivial rfl rfl (fun r h' n' hrr => ?_)
  obtain ⟨⟨l, e1⟩, e2, e3⟩ := hrr
  subst e1 e2 e3
  conv => cbv
  refine RetF.mk [.p (.int .i64 (.lit 9)), .p (.bool true)] [] 0 (Re.at [] []) rfl ⟨rfl, rfl, rfl⟩
theorem rFields3_lx : CallF (fun _ => Tryz.prog) 170 [.p (.int .i64 (.lit 3))] [] 0 (fun r h n => (∃ l, r = .p (.vsl (.lit 7) true l)) ∧ h = [] ∧ n = 0) := by
  refine callF_of_body tok Tryz.func170 (by kernel_rfl) rfl rfl rfl ?_; conv => cbv
  refine RetF.mk [.p (.vsl (.lit 7) true [.str fun _ => ⟨#[103, 111, 114]⟩, .str fun _ => ⟨#[99, 104, 97, 110]⟩, .str fun _ => ⟨#[118, 97, 108, 117, 101]⟩, .str fun _ => ⟨#[110, 101, 120, 116]⟩, .str fun _ => ⟨#[116, 111]⟩, .str fun _ => ⟨#[114, 101, 103]⟩, .str fun _ => ⟨#[109, 111, 114, 101]⟩])] [] 0 (Re.at [] []) rfl ⟨⟨_, rfl⟩, rfl, rfl⟩
theorem rNeed3_lx : CallF (fun _ => Tryz.prog) 147 [.p (.int .i64 (.lit 3)), .p (.int .i64 (.lit 0))] [] 0 (fun r h n => r = .tup [.p (.int .i64 (.lit 7)), .p (.bool true)] ∧ h = [] ∧ n = 0) := by
  refine callF_of_body tok Tryz.func147 (by kernel_rfl) rfl rfl rfl ?_; conv => cbv
  refine callF_frame rFields3_lx [] rfl trivial rfl rfl (fun r h' n' hrr => ?_)
  obtain ⟨⟨l, e1⟩, e2, e3⟩ := hrr
  subst e1 e2 e3
  conv => cbv
  refine RetF.mk [.p (.int .i64 (.lit 7)), .p (.bool true)] [] 0 (Re.at [] []) rfl ⟨rfl, rfl, rfl⟩
theorem rFields4_lx : CallF (fun _ => Tryz.prog) 170 [.p (.int .i64 (.lit 4))] [] 0 (fun r h n => (∃ l, r = .p (.vsl (.lit 10) true l)) ∧ h = [] ∧ n = 0) := by
  refine callF_of_body tok Tryz.func170 (by kernel_rfl) rfl rfl rfl ?_; conv => cbv
  refine RetF.mk [.p (.vsl (.lit 10) true [.str fun _ => ⟨#[105, 100]⟩, .str fun _ => ⟨#[115, 116, 97, 116, 117, 115]⟩, .str fun _ => ⟨#[112, 99]⟩, .str fun _ => ⟨#[97]⟩, .str fun _ => ⟨#[98]⟩, .str fun _ => ⟨#[99]⟩, .str fun _ => ⟨#[100]⟩, .str fun _ => ⟨#[101]⟩, .str fun _ => ⟨#[102]⟩, .str fun _ => ⟨#[115, 117, 100, 111, 103, 115]⟩])] [] 0 (Re.at [] []) rfl ⟨⟨_, rfl⟩, rfl, rfl⟩
theorem rNeed4_lx : CallF (fun _ => Tryz.prog) 147 [.p (.int .i64 (.lit 4)), .p (.int .i64 (.lit 0))] [] 0 (fun r h n => r = .tup [.p (.int .i64 (.lit 10)), .p (.bool true)] ∧ h = [] ∧ n = 0) := by
  refine callF_of_body tok Tryz.func147 (by kernel_rfl) rfl rfl rfl ?_; conv => cbv
  refine callF_frame rFields4_lx [] rfl trivial rfl rfl (fun r h' n' hrr => ?_)
  obtain ⟨⟨l, e1⟩, e2, e3⟩ := hrr
  subst e1 e2 e3
  conv => cbv
  refine RetF.mk [.p (.int .i64 (.lit 10)), .p (.bool true)] [] 0 (Re.at [] []) rfl ⟨rfl, rfl, rfl⟩
end Go.Proofs.YtolamdalijjlnaaGreatDoor
/-
  Layer 11 in the calculus: the reference's words.
-/
namespace Go.Proofs.YtolamdalijjlnaaGreatDoor

open Go Go.LX
set_option maxRecDepth 100000
set_option linter.unusedVariables false
set_option linter.unusedSimpArgs false

theorem rInt62_lx (v : Int) (hv : b62 v) : CallF (fun _ => Tryz.prog) 33 [.p (.int .i64 (.sym v))] [] 0 (fun r h n => (∃ x : Int, r = .p (.int .i64 (.sym x)) ∧ x = v * 2) ∧ h = [] ∧ n = 0) := by
  obtain ⟨h1, h2⟩ := hv
  refine callF_of_body tok Tryz.func33 (by kernel_rfl) rfl rfl rfl ?_; conv => cbv
  refine Fit.mk (by show (-9223372036854775808 : Int) ≤ v * 2; omega) (by show v * 2 ≤ 9223372036854775807; omega) fun x hx => ?_
  have hx : x = v * 2 := hx
  conv => cbv
  refine RetF.mk [.p (.int .i64 (.sym x))] [] 0 (Re.at [] []) rfl ⟨⟨x, rfl, hx⟩, rfl, rfl⟩
theorem rPtr62_lx (v : Int) (hv : b62 v) : CallF (fun _ => Tryz.prog) 32 [.p (.int .i64 (.sym v))] [] 0 (fun r h n => (∃ x : Int, r = .p (.int .i64 (.sym x)) ∧ x = v * 2 + 1) ∧ h = [] ∧ n = 0) := by
  obtain ⟨h1, h2⟩ := hv
  refine callF_of_body tok Tryz.func32 (by kernel_rfl) rfl rfl rfl ?_; conv => cbv
  refine Fit.mk (by show (-9223372036854775808 : Int) ≤ v * 2; omega) (by show v * 2 ≤ 9223372036854775807; omega) fun x hx => ?_
  have hx : x = v * 2 := hx
  conv => cbv
  refine Fit.mk (by show (-9223372036854775808 : Int) ≤ x + 1; omega) (by show x + 1 ≤ 9223372036854775807; omega) fun y hy => ?_
  have hy : y = x + 1 := hy
  conv => cbv
  refine RetF.mk [.p (.int .i64 (.sym y))] [] 0 (Re.at [] []) rfl ⟨⟨y, rfl, by omega⟩, rfl, rfl⟩
theorem rNum_lx (w : Int) (hw : -9223372036854775808 ≤ w ∧ w ≤ 9223372036854775807) : CallF (fun _ => Tryz.prog) 148 [.p (.int .i64 (.sym w))] [] 0 (fun r h n => (∃ x : Int, r = .p (.int .i64 (.sym x)) ∧ x = numW w) ∧ h = [] ∧ n = 0) := by
  refine callF_of_body tok Tryz.func148 (by kernel_rfl) rfl rfl rfl ?_; conv => cbv
  refine callF_frame (rIsPtr_lx w) [] rfl trivial rfl rfl (fun r h' n' hrr => ?_)
  obtain ⟨b, e1, e2, e3, hb⟩ := hrr
  subst e1 e2 e3
  cases b with
  | true =>
    have hb : w % 2 = 1 := hb.1 rfl
    conv => cbv
    refine RetF.mk [.p (.int .i64 (.sym 0))] [] 0 (Re.at [] []) rfl ⟨⟨0, rfl, by rw [numW, if_pos hb]⟩, rfl, rfl⟩
  | false =>
    have hb : ¬ w % 2 = 1 := fun k => by have := hb.2 k; cases this
    have hdv : w.tdiv 2 = w / 2 := Int.tdiv_eq_ediv_of_dvd (by omega)
    conv => cbv
    refine Fit.mk (by show (-9223372036854775808 : Int) ≤ w.tdiv 2; omega) (by show w.tdiv 2 ≤ 9223372036854775807; omega) fun y hy => ?_
    have hy : y = w / 2 := hy.trans hdv
    conv => cbv
    refine RetF.mk [.p (.int .i64 (.sym y))] [] 0 (Re.at [] []) rfl ⟨⟨y, rfl, by rw [numW, if_neg hb]; exact hy⟩, rfl, rfl⟩
theorem rNumber_lx (w : Int) (hw : -9223372036854775808 ≤ w ∧ w ≤ 9223372036854775807) : CallF (fun _ => Tryz.prog) 108 [.p (.int .i64 (.sym w))] [] 0 (fun r h n => (∃ x : Int, r = .p (.int .i64 (.sym x)) ∧ x = numW w) ∧ h = [] ∧ n = 0) := by
  refine callF_of_body tok Tryz.func108 (by kernel_rfl) rfl rfl rfl ?_; conv => cbv
  refine callF_frame (rNum_lx w hw) [] rfl trivial rfl rfl (fun r h' n' hrr => ?_)
  obtain ⟨⟨x, e1, hx⟩, e2, e3⟩ := hrr
  subst e1 e2 e3
  conv => cbv
  refine RetF.mk [.p (.int .i64 (.sym x))] [] 0 (Re.at [] []) rfl ⟨⟨x, rfl, hx⟩, rfl, rfl⟩
theorem rPlace_lx (w : Int) (hw : -9223372036854775808 ≤ w ∧ w ≤ 9223372036854775807) : CallF (fun _ => Tryz.prog) 109 [.p (.int .i64 (.sym w))] [] 0 (fun r h n => (∃ x : Int, r = .p (.int .i64 (.sym x)) ∧ x = atW w) ∧ h = [] ∧ n = 0) := by
  refine callF_of_body tok Tryz.func109 (by kernel_rfl) rfl rfl rfl ?_; conv => cbv
  refine callF_frame (rAt_lx w hw) [] rfl trivial rfl rfl (fun r h' n' hrr => ?_)
  obtain ⟨x, e1, e2, e3, h1, h2⟩ := hrr
  subst e1 e2 e3
  conv => cbv
  refine RetF.mk [.p (.int .i64 (.sym x))] [] 0 (Re.at [] []) rfl ⟨⟨x, rfl, ?_⟩, rfl, rfl⟩
  unfold atW
  split
  · rename_i k; exact h1 k
  · rename_i k; exact h2 k
theorem rptr_lx (a : Int) (ha : b62 a) : CallF (fun _ => Tryz.prog) 101 [.p (.int .i64 (.sym a))] [] 0 (fun r h n => (∃ x : Int, r = .p (.int .i64 (.sym x)) ∧ x = plW a) ∧ h = [] ∧ n = 0) := by
  refine callF_of_body tok Tryz.func101 (by kernel_rfl) rfl rfl rfl ?_; conv => cbv
  refine Br.mk (fun g => ?_) (fun g => ?_)
  · have g : a < 0 := g
    conv => cbv
    refine CallF.le (args0 := [.p (.int .i64 (.sym 0))]) (callF_frame (rInt62_lx 0 (by unfold b62; omega)) [] rfl trivial rfl rfl (fun r h' n' hrr => ?_)) (by simp [ales, ale, pvle, I.val])
    obtain ⟨⟨x, e1, hx⟩, e2, e3⟩ := hrr
    subst e1 e2 e3
    conv => cbv
    refine RetF.mk [.p (.int .i64 (.sym x))] [] 0 (Re.at [] []) rfl ⟨⟨x, rfl, by rw [plW, if_pos g]; omega⟩, rfl, rfl⟩
  · have g : ¬ a < 0 := g
    conv => cbv
    refine callF_frame (rPtr62_lx a ha) [] rfl trivial rfl rfl (fun r h' n' hrr => ?_)
    obtain ⟨⟨x, e1, hx⟩, e2, e3⟩ := hrr
    subst e1 e2 e3
    conv => cbv
    refine RetF.mk [.p (.int .i64 (.sym x))] [] 0 (Re.at [] []) rfl ⟨⟨x, rfl, by rw [plW, if_neg g]; omega⟩, rfl, rfl⟩
/-- The words of a thing of some kind, and how it went. -/
inductive WR (kd ln : Int) (R : List Rw) (ws : List Int) (a : Int) : Int → List Int → Prop
  | ok (X : List Int) (h : Kept R ws a kd ln) (hX : Wrds R ws a X) (hl : X.length = ln) : WR kd ln R ws a 0 X
  | no (h : ¬ Kept R ws a kd ln) : WR kd ln R ws a 10 []
set_option maxHeartbeats 8000000 in
theorem rWords1_lx (R : List Rw) (vs C G : List Int) (N W ph sp cy : Int) (P B V Q la : List PV) (m : Int) (ov : Bool) (h : RM R vs C G N W P B V Q la m) (a : Int) : CallF (fun _ => Tryz.prog) 107 [.ptr 0 (.lit 0), .p (.int .i64 (.sym a)), .p (.int .i64 (.lit 1))] [(0, .mix [.ptr 1 (.lit 0), .sl 6 3 1 (.lit 0) (.sym W), .ptr 7 (.lit 0), .p (.int .i64 (.sym ph)), .p (.int .i64 (.sym sp)), .p (.int .i64 (.sym cy))]), (1, .mix [.ptr 2 (.lit 0), .sl 5 3 1 (.lit 0) (.sym W)]), (2, .mix [.sl 3 3 1 (.lit 0) (.sym N), .sl 4 189 8 (.lit 0) (.sym N)]), (3, .pure true P), (4, .pure true B), (5, .pure true V), (6, .pure true Q), (7, .mix [.p (.vsl (.sym m) true la), .p (.bool ov)])] 8 (fun r h n => (∃ (X : List Int) (k e : Int) (O : List PV), r = .tup [.p (.vsl (.sym k) true O), .p (.int .i64 (.sym e))] ∧ O = ipv X ∧ k = X.length ∧ WR 1 9 R vs a e X) ∧ h = [(0, .mix [.ptr 1 (.lit 0), .sl 6 3 1 (.lit 0) (.sym W), .ptr 7 (.lit 0), .p (.int .i64 (.sym ph)), .p (.int .i64 (.sym sp)), .p (.int .i64 (.sym cy))]), (1, .mix [.ptr 2 (.lit 0), .sl 5 3 1 (.lit 0) (.sym W)]), (2, .mix [.sl 3 3 1 (.lit 0) (.sym N), .sl 4 189 8 (.lit 0) (.sym N)]), (3, .pure true P), (4, .pure true B), (5, .pure true V), (6, .pure true Q), (7, .mix [.p (.vsl (.sym m) true la), .p (.bool ov)])] ∧ n = 8) := by
  refine callF_of_body tok Tryz.func107 (by kernel_rfl) rfl rfl rfl ?_; conv => cbv
  refine callF_frame rNeed1_lx [] rfl trivial rfl rfl (fun r h' n' ⟨e1, e2, e3⟩ => ?_)
  subst e1 e2 e3
  conv => cbv
  refine callF_frame (rkind_lx R vs N a W P B V h.p h.b h.v h.n h.r h.a h.w) [(0, 1), (1, 2), (2, 3), (3, 4), (4, 5)] rfl (by simp [hmapOk, nget, hget, renB, okB, renV, renVs, rn, okVs, okV]) rfl rfl (fun r h' n' hrr => ?_)
  obtain ⟨v, e1, e2, e3, hv⟩ := hrr
  subst e1 e2 e3
  conv => cbv
  refine Br.mk (fun g1 => ?_) (fun g1 => ?_)
  · have g1 : ¬ v = 1 := g1
    conv => cbv
    refine RetF.mk [.p (.vsl (.sym 0) true []), .p (.int .i64 (.sym 10))] [(0, .mix [.ptr 1 (.lit 0), .sl 6 3 1 (.lit 0) (.sym W), .ptr 7 (.lit 0), .p (.int .i64 (.sym ph)), .p (.int .i64 (.sym sp)), .p (.int .i64 (.sym cy))]), (1, .mix [.ptr 2 (.lit 0), .sl 5 3 1 (.lit 0) (.sym W)]), (2, .mix [.sl 3 3 1 (.lit 0) (.sym N), .sl 4 189 8 (.lit 0) (.sym N)]), (3, .pure true P), (4, .pure true B), (5, .pure true V), (6, .pure true Q), (7, .mix [.p (.vsl (.sym m) true la), .p (.bool ov)])] 8 (Re.at [(0, 0), (1, 1), (2, 2), (3, 3), (4, 4), (5, 5), (6, 6), (7, 7)] []) rfl ⟨⟨[], 0, 10, [], rfl, rfl, rfl, .no (fun k => g1 (kindR_of6 k hv))⟩, rfl, rfl⟩
  · have g1 : v = 1 := Classical.byContradiction fun q => g1 q
    conv => cbv
    refine callF_frame (rlen_lx R vs N a W P B V h.p h.b h.v h.n h.r h.a h.w) [(0, 1), (1, 2), (2, 3), (3, 4), (4, 5)] rfl (by simp [hmapOk, nget, hget, renB, okB, renV, renVs, rn, okVs, okV]) rfl rfl (fun r h' n' hrr => ?_)
    obtain ⟨l, e1, e2, e3, hl⟩ := hrr
    subst e1 e2 e3
    conv => cbv
    refine Br.mk (fun g2 => ?_) (fun g2 => ?_)
    · have g2 : ¬ l = 9 := g2
      conv => cbv
      refine RetF.mk [.p (.vsl (.sym 0) true []), .p (.int .i64 (.sym 10))] [(0, .mix [.ptr 1 (.lit 0), .sl 6 3 1 (.lit 0) (.sym W), .ptr 7 (.lit 0), .p (.int .i64 (.sym ph)), .p (.int .i64 (.sym sp)), .p (.int .i64 (.sym cy))]), (1, .mix [.ptr 2 (.lit 0), .sl 5 3 1 (.lit 0) (.sym W)]), (2, .mix [.sl 3 3 1 (.lit 0) (.sym N), .sl 4 189 8 (.lit 0) (.sym N)]), (3, .pure true P), (4, .pure true B), (5, .pure true V), (6, .pure true Q), (7, .mix [.p (.vsl (.sym m) true la), .p (.bool ov)])] 8 (Re.at [(0, 0), (1, 1), (2, 2), (3, 3), (4, 4), (5, 5), (6, 6), (7, 7)] []) rfl ⟨⟨[], 0, 10, [], rfl, rfl, rfl, .no (fun k => g2 (lenR_of6 k hl))⟩, rfl, rfl⟩
    · have g2 : l = 9 := Classical.byContradiction fun q => g2 q
      have hK : Kept R vs a 1 9 := by
        cases hv with
        | no hn => exact absurd g1 (by decide)
        | is _ _ hK => have := lenR_of6 hK hl; rw [g1, ← this, g2] at hK; exact hK
      obtain ⟨X, hX, hlX, hX31⟩ := wrds_ex h.a (.is 1 9 hK)
      clear hv hl
      conv => cbv
      refine LoopF.mk (fun kk s => ∃ (i : Int) (O : List PV), s = ⟨.ptr 0 (.lit 0) :: .p (.int .i64 (.sym a)) :: (undefs 6 ++ .p (.int .i64 (.lit 9)) :: .undef :: .sl 8 3 1 (.lit 0) (.sym i) :: .p (.int .i64 (.sym i)) :: undefs 45), [(0, .mix [.ptr 1 (.lit 0), .sl 6 3 1 (.lit 0) (.sym W), .ptr 7 (.lit 0), .p (.int .i64 (.sym ph)), .p (.int .i64 (.sym sp)), .p (.int .i64 (.sym cy))]), (1, .mix [.ptr 2 (.lit 0), .sl 5 3 1 (.lit 0) (.sym W)]), (2, .mix [.sl 3 3 1 (.lit 0) (.sym N), .sl 4 189 8 (.lit 0) (.sym N)]), (3, .pure true P), (4, .pure true B), (5, .pure true V), (6, .pure true Q), (7, .mix [.p (.vsl (.sym m) true la), .p (.bool ov)]), (8, .pure true O)], 9⟩ ∧ 0 ≤ i ∧ i ≤ 9 ∧ O = ipv (X.take i.toNat) ∧ kk = (9 - i).toNat) 9 _
        (Re.at [(0, 0), (1, 1), (2, 2), (3, 3), (4, 4), (5, 5), (6, 6), (7, 7)] [8]) ⟨0, [], rfl, by omega, by omega, by simp [ipv], by omega⟩ ?_
      rintro kk s ⟨i, O, rfl, hi0, hi1, hO, hk⟩
      have hOl : (O.length : Int) = i := by rw [hO, ipv_length, List.length_take]; omega
      conv => cbv
      refine Br.mk (fun gi => ?_) (fun gi => ?_)
      · have gi : i < 9 := gi
        obtain ⟨x0, hx0⟩ : ∃ x0, X[i.toNat]? = some x0 := ⟨_, List.getElem?_eq_getElem (by omega)⟩
        have hld := hX.2 _ _ hx0
        rw [show ((i.toNat : Nat) : Int) = i by omega] at hld
        conv => cbv
        refine callF_frame (rload_lx i R vs N a W P B V h.p h.b h.v h.n h.r h.a h.w) [(0, 1), (1, 2), (2, 3), (3, 4), (4, 5)] rfl (by simp [hmapOk, nget, hget, renB, okB, renV, renVs, rn, okVs, okV]) rfl rfl (fun r h' n' hrr => ?_)
        obtain ⟨x, e, e1, e2, e3, hx⟩ := hrr
        subst e1 e2 e3
        obtain ⟨rfl, rfl⟩ := loaded_det hx hld
        conv => cbv
        refine Room.new rfl ?_
        conv => cbv
        refine Room.new ⟨?_, ?_, ?_⟩ ?_
        · show (O.length : Int) = i * 1; omega
        · show (i + 1) * 8 ≤ 140737488355328; omega
        · show i + 1 ≤ 9223372036854775807; omega
        conv => cbv
        refine Upd.mk fun O3 hO3 => ?_
        have hO3 : O3 = O ++ [.int .i64 (.sym x)] := hO3
        have hO3 : O3 = ipv (X.take (i.toNat + 1)) := by
          rw [hO3, hO, List.take_add_one, hx0]
          simp [ipv]
        conv => cbv
        refine Sum.mk fun j2 hj2 => ?_
        have hj2 : j2 = i + 1 := hj2
        conv => cbv
        refine Fit.mk (by show (-9223372036854775808 : Int) ≤ i + 1; omega) (by show i + 1 ≤ 9223372036854775807; omega) fun i2 hi2 => ?_
        have hi2 : i2 = i + 1 := hi2
        obtain rfl : j2 = i2 := by omega
        have htt : j2.toNat = i.toNat + 1 := by omega
        rw [← htt] at hO3
        conv => cbv
        refine Again.mk (9 - j2).toNat _ (by omega) (Re.at [(0, 0), (1, 1), (2, 2), (3, 3), (4, 4), (5, 5), (6, 6), (7, 7), (10, 8)] []) ⟨j2, O3, rfl, by omega, by omega, hO3, by omega⟩
      · have gi : ¬ i < 9 := gi
        obtain rfl : i = 9 := by omega
        have hOX : O = ipv X := by rw [hO, List.take_of_length_le (by omega)]
        conv => cbv
        refine RetF.mk [.p (.vsl (.sym 9) true O), .p (.int .i64 (.sym 0))] [(0, .mix [.ptr 1 (.lit 0), .sl 6 3 1 (.lit 0) (.sym W), .ptr 7 (.lit 0), .p (.int .i64 (.sym ph)), .p (.int .i64 (.sym sp)), .p (.int .i64 (.sym cy))]), (1, .mix [.ptr 2 (.lit 0), .sl 5 3 1 (.lit 0) (.sym W)]), (2, .mix [.sl 3 3 1 (.lit 0) (.sym N), .sl 4 189 8 (.lit 0) (.sym N)]), (3, .pure true P), (4, .pure true B), (5, .pure true V), (6, .pure true Q), (7, .mix [.p (.vsl (.sym m) true la), .p (.bool ov)])] 8 (Re.at [(0, 0), (1, 1), (2, 2), (3, 3), (4, 4), (5, 5), (6, 6), (7, 7)] []) rfl ⟨⟨X, 9, 0, O, rfl, hOX, hlX, .ok X hK hX hlX.symm⟩, rfl, rfl⟩
set_option maxHeartbeats 8000000 in
theorem rWords3_lx (R : List Rw) (vs C G : List Int) (N W ph sp cy : Int) (P B V Q la : List PV) (m : Int) (ov : Bool) (h : RM R vs C G N W P B V Q la m) (a : Int) : CallF (fun _ => Tryz.prog) 107 [.ptr 0 (.lit 0), .p (.int .i64 (.sym a)), .p (.int .i64 (.lit 3))] [(0, .mix [.ptr 1 (.lit 0), .sl 6 3 1 (.lit 0) (.sym W), .ptr 7 (.lit 0), .p (.int .i64 (.sym ph)), .p (.int .i64 (.sym sp)), .p (.int .i64 (.sym cy))]), (1, .mix [.ptr 2 (.lit 0), .sl 5 3 1 (.lit 0) (.sym W)]), (2, .mix [.sl 3 3 1 (.lit 0) (.sym N), .sl 4 189 8 (.lit 0) (.sym N)]), (3, .pure true P), (4, .pure true B), (5, .pure true V), (6, .pure true Q), (7, .mix [.p (.vsl (.sym m) true la), .p (.bool ov)])] 8 (fun r h n => (∃ (X : List Int) (k e : Int) (O : List PV), r = .tup [.p (.vsl (.sym k) true O), .p (.int .i64 (.sym e))] ∧ O = ipv X ∧ k = X.length ∧ WR 3 7 R vs a e X) ∧ h = [(0, .mix [.ptr 1 (.lit 0), .sl 6 3 1 (.lit 0) (.sym W), .ptr 7 (.lit 0), .p (.int .i64 (.sym ph)), .p (.int .i64 (.sym sp)), .p (.int .i64 (.sym cy))]), (1, .mix [.ptr 2 (.lit 0), .sl 5 3 1 (.lit 0) (.sym W)]), (2, .mix [.sl 3 3 1 (.lit 0) (.sym N), .sl 4 189 8 (.lit 0) (.sym N)]), (3, .pure true P), (4, .pure true B), (5, .pure true V), (6, .pure true Q), (7, .mix [.p (.vsl (.sym m) true la), .p (.bool ov)])] ∧ n = 8) := by
  refine callF_of_body tok Tryz.func107 (by kernel_rfl) rfl rfl rfl ?_; conv => cbv
  refine callF_frame rNeed3_lx [] rfl trivial rfl rfl (fun r h' n' ⟨e1, e2, e3⟩ => ?_)
  subst e1 e2 e3
  conv => cbv
  refine callF_frame (rkind_lx R vs N a W P B V h.p h.b h.v h.n h.r h.a h.w) [(0, 1), (1, 2), (2, 3), (3, 4), (4, 5)] rfl (by simp [hmapOk, nget, hget, renB, okB, renV, renVs, rn, okVs, okV]) rfl rfl (fun r h' n' hrr => ?_)
  obtain ⟨v, e1, e2, e3, hv⟩ := hrr
  subst e1 e2 e3
  conv => cbv
  refine Br.mk (fun g1 => ?_) (fun g1 => ?_)
  · have g1 : ¬ v = 3 := g1
    conv => cbv
    refine RetF.mk [.p (.vsl (.sym 0) true []), .p (.int .i64 (.sym 10))] [(0, .mix [.ptr 1 (.lit 0), .sl 6 3 1 (.lit 0) (.sym W), .ptr 7 (.lit 0), .p (.int .i64 (.sym ph)), .p (.int .i64 (.sym sp)), .p (.int .i64 (.sym cy))]), (1, .mix [.ptr 2 (.lit 0), .sl 5 3 1 (.lit 0) (.sym W)]), (2, .mix [.sl 3 3 1 (.lit 0) (.sym N), .sl 4 189 8 (.lit 0) (.sym N)]), (3, .pure true P), (4, .pure true B), (5, .pure true V), (6, .pure true Q), (7, .mix [.p (.vsl (.sym m) true la), .p (.bool ov)])] 8 (Re.at [(0, 0), (1, 1), (2, 2), (3, 3), (4, 4), (5, 5), (6, 6), (7, 7)] []) rfl ⟨⟨[], 0, 10, [], rfl, rfl, rfl, .no (fun k => g1 (kindR_of6 k hv))⟩, rfl, rfl⟩
  · have g1 : v = 3 := Classical.byContradiction fun q => g1 q
    conv => cbv
    refine callF_frame (rlen_lx R vs N a W P B V h.p h.b h.v h.n h.r h.a h.w) [(0, 1), (1, 2), (2, 3), (3, 4), (4, 5)] rfl (by simp [hmapOk, nget, hget, renB, okB, renV, renVs, rn, okVs, okV]) rfl rfl (fun r h' n' hrr => ?_)
    obtain ⟨l, e1, e2, e3, hl⟩ := hrr
    subst e1 e2 e3
    conv => cbv
    refine Br.mk (fun g2 => ?_) (fun g2 => ?_)
    · have g2 : ¬ l = 7 := g2
      conv => cbv
      refine RetF.mk [.p (.vsl (.sym 0) true []), .p (.int .i64 (.sym 10))] [(0, .mix [.ptr 1 (.lit 0), .sl 6 3 1 (.lit 0) (.sym W), .ptr 7 (.lit 0), .p (.int .i64 (.sym ph)), .p (.int .i64 (.sym sp)), .p (.int .i64 (.sym cy))]), (1, .mix [.ptr 2 (.lit 0), .sl 5 3 1 (.lit 0) (.sym W)]), (2, .mix [.sl 3 3 1 (.lit 0) (.sym N), .sl 4 189 8 (.lit 0) (.sym N)]), (3, .pure true P), (4, .pure true B), (5, .pure true V), (6, .pure true Q), (7, .mix [.p (.vsl (.sym m) true la), .p (.bool ov)])] 8 (Re.at [(0, 0), (1, 1), (2, 2), (3, 3), (4, 4), (5, 5), (6, 6), (7, 7)] []) rfl ⟨⟨[], 0, 10, [], rfl, rfl, rfl, .no (fun k => g2 (lenR_of6 k hl))⟩, rfl, rfl⟩
    · have g2 : l = 7 := Classical.byContradiction fun q => g2 q
      have hK : Kept R vs a 3 7 := by
        cases hv with
        | no hn => exact absurd g1 (by decide)
        | is _ _ hK => have := lenR_of6 hK hl; rw [g1, ← this, g2] at hK; exact hK
      obtain ⟨X, hX, hlX, hX31⟩ := wrds_ex h.a (.is 3 7 hK)
      clear hv hl
      conv => cbv
      refine LoopF.mk (fun kk s => ∃ (i : Int) (O : List PV), s = ⟨.ptr 0 (.lit 0) :: .p (.int .i64 (.sym a)) :: (undefs 6 ++ .p (.int .i64 (.lit 7)) :: .undef :: .sl 8 3 1 (.lit 0) (.sym i) :: .p (.int .i64 (.sym i)) :: undefs 45), [(0, .mix [.ptr 1 (.lit 0), .sl 6 3 1 (.lit 0) (.sym W), .ptr 7 (.lit 0), .p (.int .i64 (.sym ph)), .p (.int .i64 (.sym sp)), .p (.int .i64 (.sym cy))]), (1, .mix [.ptr 2 (.lit 0), .sl 5 3 1 (.lit 0) (.sym W)]), (2, .mix [.sl 3 3 1 (.lit 0) (.sym N), .sl 4 189 8 (.lit 0) (.sym N)]), (3, .pure true P), (4, .pure true B), (5, .pure true V), (6, .pure true Q), (7, .mix [.p (.vsl (.sym m) true la), .p (.bool ov)]), (8, .pure true O)], 9⟩ ∧ 0 ≤ i ∧ i ≤ 7 ∧ O = ipv (X.take i.toNat) ∧ kk = (7 - i).toNat) 7 _
        (Re.at [(0, 0), (1, 1), (2, 2), (3, 3), (4, 4), (5, 5), (6, 6), (7, 7)] [8]) ⟨0, [], rfl, by omega, by omega, by simp [ipv], by omega⟩ ?_
      rintro kk s ⟨i, O, rfl, hi0, hi1, hO, hk⟩
      have hOl : (O.length : Int) = i := by rw [hO, ipv_length, List.length_take]; omega
      conv => cbv
      refine Br.mk (fun gi => ?_) (fun gi => ?_)
      · have gi : i < 7 := gi
        obtain ⟨x0, hx0⟩ : ∃ x0, X[i.toNat]? = some x0 := ⟨_, List.getElem?_eq_getElem (by omega)⟩
        have hld := hX.2 _ _ hx0
        rw [show ((i.toNat : Nat) : Int) = i by omega] at hld
        conv => cbv
        refine callF_frame (rload_lx i R vs N a W P B V h.p h.b h.v h.n h.r h.a h.w) [(0, 1), (1, 2), (2, 3), (3, 4), (4, 5)] rfl (by simp [hmapOk, nget, hget, renB, okB, renV, renVs, rn, okVs, okV]) rfl rfl (fun r h' n' hrr => ?_)
        obtain ⟨x, e, e1, e2, e3, hx⟩ := hrr
        subst e1 e2 e3
        obtain ⟨rfl, rfl⟩ := loaded_det hx hld
        conv => cbv
        refine Room.new rfl ?_
        conv => cbv
        refine Room.new ⟨?_, ?_, ?_⟩ ?_
        · show (O.length : Int) = i * 1; omega
        · show (i + 1) * 8 ≤ 140737488355328; omega
        · show i + 1 ≤ 9223372036854775807; omega
        conv => cbv
        refine Upd.mk fun O3 hO3 => ?_
        have hO3 : O3 = O ++ [.int .i64 (.sym x)] := hO3
        have hO3 : O3 = ipv (X.take (i.toNat + 1)) := by
          rw [hO3, hO, List.take_add_one, hx0]
          simp [ipv]
        conv => cbv
        refine Sum.mk fun j2 hj2 => ?_
        have hj2 : j2 = i + 1 := hj2
        conv => cbv
        refine Fit.mk (by show (-9223372036854775808 : Int) ≤ i + 1; omega) (by show i + 1 ≤ 9223372036854775807; omega) fun i2 hi2 => ?_
        have hi2 : i2 = i + 1 := hi2
        obtain rfl : j2 = i2 := by omega
        have htt : j2.toNat = i.toNat + 1 := by omega
        rw [← htt] at hO3
        conv => cbv
        refine Again.mk (7 - j2).toNat _ (by omega) (Re.at [(0, 0), (1, 1), (2, 2), (3, 3), (4, 4), (5, 5), (6, 6), (7, 7), (10, 8)] []) ⟨j2, O3, rfl, by omega, by omega, hO3, by omega⟩
      · have gi : ¬ i < 7 := gi
        obtain rfl : i = 7 := by omega
        have hOX : O = ipv X := by rw [hO, List.take_of_length_le (by omega)]
        conv => cbv
        refine RetF.mk [.p (.vsl (.sym 7) true O), .p (.int .i64 (.sym 0))] [(0, .mix [.ptr 1 (.lit 0), .sl 6 3 1 (.lit 0) (.sym W), .ptr 7 (.lit 0), .p (.int .i64 (.sym ph)), .p (.int .i64 (.sym sp)), .p (.int .i64 (.sym cy))]), (1, .mix [.ptr 2 (.lit 0), .sl 5 3 1 (.lit 0) (.sym W)]), (2, .mix [.sl 3 3 1 (.lit 0) (.sym N), .sl 4 189 8 (.lit 0) (.sym N)]), (3, .pure true P), (4, .pure true B), (5, .pure true V), (6, .pure true Q), (7, .mix [.p (.vsl (.sym m) true la), .p (.bool ov)])] 8 (Re.at [(0, 0), (1, 1), (2, 2), (3, 3), (4, 4), (5, 5), (6, 6), (7, 7)] []) rfl ⟨⟨X, 7, 0, O, rfl, hOX, hlX, .ok X hK hX hlX.symm⟩, rfl, rfl⟩
set_option maxHeartbeats 8000000 in
theorem rWords4_lx (R : List Rw) (vs C G : List Int) (N W ph sp cy : Int) (P B V Q la : List PV) (m : Int) (ov : Bool) (h : RM R vs C G N W P B V Q la m) (a : Int) : CallF (fun _ => Tryz.prog) 107 [.ptr 0 (.lit 0), .p (.int .i64 (.sym a)), .p (.int .i64 (.lit 4))] [(0, .mix [.ptr 1 (.lit 0), .sl 6 3 1 (.lit 0) (.sym W), .ptr 7 (.lit 0), .p (.int .i64 (.sym ph)), .p (.int .i64 (.sym sp)), .p (.int .i64 (.sym cy))]), (1, .mix [.ptr 2 (.lit 0), .sl 5 3 1 (.lit 0) (.sym W)]), (2, .mix [.sl 3 3 1 (.lit 0) (.sym N), .sl 4 189 8 (.lit 0) (.sym N)]), (3, .pure true P), (4, .pure true B), (5, .pure true V), (6, .pure true Q), (7, .mix [.p (.vsl (.sym m) true la), .p (.bool ov)])] 8 (fun r h n => (∃ (X : List Int) (k e : Int) (O : List PV), r = .tup [.p (.vsl (.sym k) true O), .p (.int .i64 (.sym e))] ∧ O = ipv X ∧ k = X.length ∧ WR 4 10 R vs a e X) ∧ h = [(0, .mix [.ptr 1 (.lit 0), .sl 6 3 1 (.lit 0) (.sym W), .ptr 7 (.lit 0), .p (.int .i64 (.sym ph)), .p (.int .i64 (.sym sp)), .p (.int .i64 (.sym cy))]), (1, .mix [.ptr 2 (.lit 0), .sl 5 3 1 (.lit 0) (.sym W)]), (2, .mix [.sl 3 3 1 (.lit 0) (.sym N), .sl 4 189 8 (.lit 0) (.sym N)]), (3, .pure true P), (4, .pure true B), (5, .pure true V), (6, .pure true Q), (7, .mix [.p (.vsl (.sym m) true la), .p (.bool ov)])] ∧ n = 8) := by
  refine callF_of_body tok Tryz.func107 (by kernel_rfl) rfl rfl rfl ?_; conv => cbv
  refine callF_frame rNeed4_lx [] rfl trivial rfl rfl (fun r h' n' ⟨e1, e2, e3⟩ => ?_)
  subst e1 e2 e3
  conv => cbv
  refine callF_frame (rkind_lx R vs N a W P B V h.p h.b h.v h.n h.r h.a h.w) [(0, 1), (1, 2), (2, 3), (3, 4), (4, 5)] rfl (by simp [hmapOk, nget, hget, renB, okB, renV, renVs, rn, okVs, okV]) rfl rfl (fun r h' n' hrr => ?_)
  obtain ⟨v, e1, e2, e3, hv⟩ := hrr
  subst e1 e2 e3
  conv => cbv
  refine Br.mk (fun g1 => ?_) (fun g1 => ?_)
  · have g1 : ¬ v = 4 := g1
    conv => cbv
    refine RetF.mk [.p (.vsl (.sym 0) true []), .p (.int .i64 (.sym 10))] [(0, .mix [.ptr 1 (.lit 0), .sl 6 3 1 (.lit 0) (.sym W), .ptr 7 (.lit 0), .p (.int .i64 (.sym ph)), .p (.int .i64 (.sym sp)), .p (.int .i64 (.sym cy))]), (1, .mix [.ptr 2 (.lit 0), .sl 5 3 1 (.lit 0) (.sym W)]), (2, .mix [.sl 3 3 1 (.lit 0) (.sym N), .sl 4 189 8 (.lit 0) (.sym N)]), (3, .pure true P), (4, .pure true B), (5, .pure true V), (6, .pure true Q), (7, .mix [.p (.vsl (.sym m) true la), .p (.bool ov)])] 8 (Re.at [(0, 0), (1, 1), (2, 2), (3, 3), (4, 4), (5, 5), (6, 6), (7, 7)] []) rfl ⟨⟨[], 0, 10, [], rfl, rfl, rfl, .no (fun k => g1 (kindR_of6 k hv))⟩, rfl, rfl⟩
  · have g1 : v = 4 := Classical.byContradiction fun q => g1 q
    conv => cbv
    refine callF_frame (rlen_lx R vs N a W P B V h.p h.b h.v h.n h.r h.a h.w) [(0, 1), (1, 2), (2, 3), (3, 4), (4, 5)] rfl (by simp [hmapOk, nget, hget, renB, okB, renV, renVs, rn, okVs, okV]) rfl rfl (fun r h' n' hrr => ?_)
    obtain ⟨l, e1, e2, e3, hl⟩ := hrr
    subst e1 e2 e3
    conv => cbv
    refine Br.mk (fun g2 => ?_) (fun g2 => ?_)
    · have g2 : ¬ l = 10 := g2
      conv => cbv
      refine RetF.mk [.p (.vsl (.sym 0) true []), .p (.int .i64 (.sym 10))] [(0, .mix [.ptr 1 (.lit 0), .sl 6 3 1 (.lit 0) (.sym W), .ptr 7 (.lit 0), .p (.int .i64 (.sym ph)), .p (.int .i64 (.sym sp)), .p (.int .i64 (.sym cy))]), (1, .mix [.ptr 2 (.lit 0), .sl 5 3 1 (.lit 0) (.sym W)]), (2, .mix [.sl 3 3 1 (.lit 0) (.sym N), .sl 4 189 8 (.lit 0) (.sym N)]), (3, .pure true P), (4, .pure true B), (5, .pure true V), (6, .pure true Q), (7, .mix [.p (.vsl (.sym m) true la), .p (.bool ov)])] 8 (Re.at [(0, 0), (1, 1), (2, 2), (3, 3), (4, 4), (5, 5), (6, 6), (7, 7)] []) rfl ⟨⟨[], 0, 10, [], rfl, rfl, rfl, .no (fun k => g2 (lenR_of6 k hl))⟩, rfl, rfl⟩
    · have g2 : l = 10 := Classical.byContradiction fun q => g2 q
      have hK : Kept R vs a 4 10 := by
        cases hv with
        | no hn => exact absurd g1 (by decide)
        | is _ _ hK => have := lenR_of6 hK hl; rw [g1, ← this, g2] at hK; exact hK
      obtain ⟨X, hX, hlX, hX31⟩ := wrds_ex h.a (.is 4 10 hK)
      clear hv hl
      conv => cbv
      refine LoopF.mk (fun kk s => ∃ (i : Int) (O : List PV), s = ⟨.ptr 0 (.lit 0) :: .p (.int .i64 (.sym a)) :: (undefs 6 ++ .p (.int .i64 (.lit 10)) :: .undef :: .sl 8 3 1 (.lit 0) (.sym i) :: .p (.int .i64 (.sym i)) :: undefs 45), [(0, .mix [.ptr 1 (.lit 0), .sl 6 3 1 (.lit 0) (.sym W), .ptr 7 (.lit 0), .p (.int .i64 (.sym ph)), .p (.int .i64 (.sym sp)), .p (.int .i64 (.sym cy))]), (1, .mix [.ptr 2 (.lit 0), .sl 5 3 1 (.lit 0) (.sym W)]), (2, .mix [.sl 3 3 1 (.lit 0) (.sym N), .sl 4 189 8 (.lit 0) (.sym N)]), (3, .pure true P), (4, .pure true B), (5, .pure true V), (6, .pure true Q), (7, .mix [.p (.vsl (.sym m) true la), .p (.bool ov)]), (8, .pure true O)], 9⟩ ∧ 0 ≤ i ∧ i ≤ 10 ∧ O = ipv (X.take i.toNat) ∧ kk = (10 - i).toNat) 10 _
        (Re.at [(0, 0), (1, 1), (2, 2), (3, 3), (4, 4), (5, 5), (6, 6), (7, 7)] [8]) ⟨0, [], rfl, by omega, by omega, by simp [ipv], by omega⟩ ?_
      rintro kk s ⟨i, O, rfl, hi0, hi1, hO, hk⟩
      have hOl : (O.length : Int) = i := by rw [hO, ipv_length, List.length_take]; omega
      conv => cbv
      refine Br.mk (fun gi => ?_) (fun gi => ?_)
      · have gi : i < 10 := gi
        obtain ⟨x0, hx0⟩ : ∃ x0, X[i.toNat]? = some x0 := ⟨_, List.getElem?_eq_getElem (by omega)⟩
        have hld := hX.2 _ _ hx0
        rw [show ((i.toNat : Nat) : Int) = i by omega] at hld
        conv => cbv
        refine callF_frame (rload_lx i R vs N a W P B V h.p h.b h.v h.n h.r h.a h.w) [(0, 1), (1, 2), (2, 3), (3, 4), (4, 5)] rfl (by simp [hmapOk, nget, hget, renB, okB, renV, renVs, rn, okVs, okV]) rfl rfl (fun r h' n' hrr => ?_)
        obtain ⟨x, e, e1, e2, e3, hx⟩ := hrr
        subst e1 e2 e3
        obtain ⟨rfl, rfl⟩ := loaded_det hx hld
        conv => cbv
        refine Room.new rfl ?_
        conv => cbv
        refine Room.new ⟨?_, ?_, ?_⟩ ?_
        · show (O.length : Int) = i * 1; omega
        · show (i + 1) * 8 ≤ 140737488355328; omega
        · show i + 1 ≤ 9223372036854775807; omega
        conv => cbv
        refine Upd.mk fun O3 hO3 => ?_
        have hO3 : O3 = O ++ [.int .i64 (.sym x)] := hO3
        have hO3 : O3 = ipv (X.take (i.toNat + 1)) := by
          rw [hO3, hO, List.take_add_one, hx0]
          simp [ipv]
        conv => cbv
        refine Sum.mk fun j2 hj2 => ?_
        have hj2 : j2 = i + 1 := hj2
        conv => cbv
        refine Fit.mk (by show (-9223372036854775808 : Int) ≤ i + 1; omega) (by show i + 1 ≤ 9223372036854775807; omega) fun i2 hi2 => ?_
        have hi2 : i2 = i + 1 := hi2
        obtain rfl : j2 = i2 := by omega
        have htt : j2.toNat = i.toNat + 1 := by omega
        rw [← htt] at hO3
        conv => cbv
        refine Again.mk (10 - j2).toNat _ (by omega) (Re.at [(0, 0), (1, 1), (2, 2), (3, 3), (4, 4), (5, 5), (6, 6), (7, 7), (10, 8)] []) ⟨j2, O3, rfl, by omega, by omega, hO3, by omega⟩
      · have gi : ¬ i < 10 := gi
        obtain rfl : i = 10 := by omega
        have hOX : O = ipv X := by rw [hO, List.take_of_length_le (by omega)]
        conv => cbv
        refine RetF.mk [.p (.vsl (.sym 10) true O), .p (.int .i64 (.sym 0))] [(0, .mix [.ptr 1 (.lit 0), .sl 6 3 1 (.lit 0) (.sym W), .ptr 7 (.lit 0), .p (.int .i64 (.sym ph)), .p (.int .i64 (.sym sp)), .p (.int .i64 (.sym cy))]), (1, .mix [.ptr 2 (.lit 0), .sl 5 3 1 (.lit 0) (.sym W)]), (2, .mix [.sl 3 3 1 (.lit 0) (.sym N), .sl 4 189 8 (.lit 0) (.sym N)]), (3, .pure true P), (4, .pure true B), (5, .pure true V), (6, .pure true Q), (7, .mix [.p (.vsl (.sym m) true la), .p (.bool ov)])] 8 (Re.at [(0, 0), (1, 1), (2, 2), (3, 3), (4, 4), (5, 5), (6, 6), (7, 7)] []) rfl ⟨⟨X, 10, 0, O, rfl, hOX, hlX, .ok X hK hX hlX.symm⟩, rfl, rfl⟩
end Go.Proofs.YtolamdalijjlnaaGreatDoor
