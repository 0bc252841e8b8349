/-
  Layer 7: all objects; nil ones.
-/
import Derived.Test.YtllafhhnciobhaaGreatDoorAa
namespace Go.Proofs.YtllafhhnciobhaaGreatDoor

open Go Go.LX
set_option maxRecDepth 100000
set_option linter.unusedVariables false
set_option linter.unusedSimpArgs false


theorem slotAt_nil (a : I) : CallF (fun _ => Tryz.prog) 80 [.p .nilp, .p (.int .i64 a)] [] 0 (fun r h n => r = .tup [.p (.int .i64 (.sym 0)), .p (.int .i64 (.sym 0)), .p (.bool false)] ∧ h = [] ∧ n = 0) := by
  refine callF_of_body tok Tryz.func80 (by kernel_rfl) rfl rfl rfl ?_; conv => cbv
  refine RetF.mk [.p (.int .i64 (.sym 0)), .p (.int .i64 (.sym 0)), .p (.bool false)] [] 0 (Re.at [] []) rfl ⟨rfl, rfl, rfl⟩
theorem look_nil (a : I) : CallF (fun _ => Tryz.prog) 60 [.p .nilp, .p (.int .i64 a)] [] 0 (fun r h n => r = .iface 105 (.agg []) ∧ h = [] ∧ n = 0) := by
  refine callF_of_body tok Tryz.func60 (by kernel_rfl) rfl rfl rfl ?_; conv => cbv
  refine callF_frame (slotAt_nil a) [] rfl trivial rfl rfl (fun r h' n' ⟨e1, e2, e3⟩ => ?_)
  subst e1 e2 e3
  conv => cbv
  refine RetF.mk [.iface 105 (.agg [])] [] 0 (Re.at [] []) rfl ⟨rfl, rfl, rfl⟩
theorem kind_nil (a : I) : CallF (fun _ => Tryz.prog) 24 [.p .nilp, .p (.int .i64 a)] [] 0 (fun r h n => r = .p (.int .i64 (.sym 0)) ∧ h = [] ∧ n = 0) := by
  refine callF_of_body tok Tryz.func24 (by kernel_rfl) rfl rfl rfl ?_; conv => cbv
  refine callF_frame (look_nil a) [] rfl trivial rfl rfl (fun r h' n' ⟨e1, e2, e3⟩ => ?_)
  subst e1 e2 e3
  conv => cbv
  refine RetF.mk [.p (.int .i64 (.sym 0))] [] 0 (Re.at [] []) rfl ⟨rfl, rfl, rfl⟩
theorem lenA_nil (a : I) : CallF (fun _ => Tryz.prog) 19 [.p .nilp, .p (.int .i64 a)] [] 0 (fun r h n => r = .p (.int .i64 (.sym 0)) ∧ h = [] ∧ n = 0) := by
  refine callF_of_body tok Tryz.func19 (by kernel_rfl) rfl rfl rfl ?_; conv => cbv
  refine callF_frame (look_nil a) [] rfl trivial rfl rfl (fun r h' n' ⟨e1, e2, e3⟩ => ?_)
  subst e1 e2 e3
  conv => cbv
  refine RetF.mk [.p (.int .i64 (.sym 0))] [] 0 (Re.at [] []) rfl ⟨rfl, rfl, rfl⟩
theorem judge_nil (a i : I) : CallF (fun _ => Tryz.prog) 81 [.p .nilp, .p (.int .i64 a), .p (.int .i64 i)] [] 0 (fun r h n => r = .p (.int .i64 (.sym 2)) ∧ h = [] ∧ n = 0) := by
  refine callF_of_body tok Tryz.func81 (by kernel_rfl) rfl rfl rfl ?_; conv => cbv
  refine RetF.mk [.p (.int .i64 (.sym 2))] [] 0 (Re.at [] []) rfl ⟨rfl, rfl, rfl⟩
theorem loadA_nil (a i : I) : CallF (fun _ => Tryz.prog) 61 [.p .nilp, .p (.int .i64 a), .p (.int .i64 i)] [] 0 (fun r h n => r = .tup [.p (.int .i64 (.sym 0)), .p (.int .i64 (.sym 2))] ∧ h = [] ∧ n = 0) := by
  refine callF_of_body tok Tryz.func61 (by kernel_rfl) rfl rfl rfl ?_; conv => cbv
  refine callF_frame (judge_nil a i) [] rfl trivial rfl rfl (fun r h' n' ⟨e1, e2, e3⟩ => ?_)
  subst e1 e2 e3
  conv => cbv
  refine Br.mk (fun g => ?_) (fun g => ?_)
  case refine_2 =>
    have gf : False := g (by decide)
    cases gf
  conv => cbv
  refine RetF.mk [.p (.int .i64 (.sym 0)), .p (.int .i64 (.sym 2))] [] 0 (Re.at [] []) rfl ⟨rfl, rfl, rfl⟩
theorem storeA_nil (a i x : I) : CallF (fun _ => Tryz.prog) 71 [.p .nilp, .p (.int .i64 a), .p (.int .i64 i), .p (.int .i64 x)] [] 0 (fun r h n => r = .p (.int .i64 (.sym 2)) ∧ h = [] ∧ n = 0) := by
  refine callF_of_body tok Tryz.func71 (by kernel_rfl) rfl rfl rfl ?_; conv => cbv
  refine callF_frame (judge_nil a i) [] rfl trivial rfl rfl (fun r h' n' ⟨e1, e2, e3⟩ => ?_)
  subst e1 e2 e3
  conv => cbv
  refine Br.mk (fun g => ?_) (fun g => ?_)
  case refine_2 =>
    have gf : False := g (by decide)
    cases gf
  conv => cbv
  refine RetF.mk [.p (.int .i64 (.sym 2))] [] 0 (Re.at [] []) rfl ⟨rfl, rfl, rfl⟩
theorem allocA_nil (a i : I) : CallF (fun _ => Tryz.prog) 68 [.p .nilp, .p (.int .i64 a), .p (.int .i64 i)] [] 0 (fun r h n => r = .tup [.p (.int .i64 (.sym 0)), .p (.int .i64 (.sym 2))] ∧ h = [] ∧ n = 0) := by
  refine callF_of_body tok Tryz.func68 (by kernel_rfl) rfl rfl rfl ?_; conv => cbv
  refine RetF.mk [.p (.int .i64 (.sym 0)), .p (.int .i64 (.sym 2))] [] 0 (Re.at [] []) rfl ⟨rfl, rfl, rfl⟩
theorem freeA_nil (a : I) : CallF (fun _ => Tryz.prog) 87 [.p .nilp, .p (.int .i64 a)] [] 0 (fun r h n => r = .p (.int .i64 (.sym 2)) ∧ h = [] ∧ n = 0) := by
  refine callF_of_body tok Tryz.func87 (by kernel_rfl) rfl rfl rfl ?_; conv => cbv
  refine RetF.mk [.p (.int .i64 (.sym 2))] [] 0 (Re.at [] []) rfl ⟨rfl, rfl, rfl⟩
theorem objects_nil : CallF (fun _ => Tryz.prog) 17 [.p .nilp] [] 0 (fun r h n => r = .p .nils ∧ h = [] ∧ n = 0) := by
  refine callF_of_body tok Tryz.func17 (by kernel_rfl) rfl rfl rfl ?_; conv => cbv
  refine RetF.mk [.p .nils] [] 0 (Re.at [] []) rfl ⟨rfl, rfl, rfl⟩
theorem wordsA_nil : CallF (fun _ => Tryz.prog) 42 [.p .nilp] [] 0 (fun r h n => r = .p (.int .i64 (.sym 0)) ∧ h = [] ∧ n = 0) := by
  refine callF_of_body tok Tryz.func42 (by kernel_rfl) rfl rfl rfl ?_; conv => cbv
  refine RetF.mk [.p (.int .i64 (.sym 0))] [] 0 (Re.at [] []) rfl ⟨rfl, rfl, rfl⟩
/-- The objects of a row, as far as a slot; of rows, as far as a row. -/
def rowPart (q : Nat) (e : Rw) : Nat → List Int
  | 0 => []
  | s + 1 => rowPart q e s ++ (if e.2[s]? = some true then [32 * (q : Int) + s * wordsOf e.1] else [])
def objsTo (R : List Rw) : Nat → List Int
  | 0 => []
  | q + 1 => objsTo R q ++ (match R[q]? with | some e => rowPart q e (slotsOf (clsOf e)) | none => [])
theorem rowPart_length (q : Nat) (e : Rw) : ∀ s, (rowPart q e s).length = (e.2.take s).count true
  | 0 => by simp [rowPart]
  | s + 1 => by
    rw [rowPart, List.length_append, rowPart_length q e s, List.take_add_one, List.count_append]
    congr 1
    cases h : e.2[s]? with
    | none => rfl
    | some b => cases b <;> rfl
theorem objsTo_length {R : List Rw} (hR : RowsOk R) : ∀ q, (objsTo R q).length = objCount (R.take q)
  | 0 => rfl
  | q + 1 => by
    rw [objsTo, List.length_append, objsTo_length hR q, List.take_add_one]
    unfold objCount
    rw [List.map_append, List.sum_append]
    congr 1
    cases h : R[q]? with
    | none => rfl
    | some e =>
      show (rowPart q e (slotsOf (clsOf e))).length = e.2.count true + 0
      rw [rowPart_length, Nat.add_zero]
      by_cases h0 : e.2 = []
      · rw [h0]; simp
      · have hcl : clsOf e = e.1 := if_neg h0
        rw [hcl, List.take_of_length_le]
        rw [((hR e (List.mem_of_getElem? h)).2 h0).2.1]
        exact Nat.le_refl _
theorem objs_length {R : List Rw} (hR : RowsOk R) : (objsTo R R.length).length = objCount R := by
  rw [objsTo_length hR, List.take_length]
theorem rowPart_le (q : Nat) (e : Rw) : ∀ s, (rowPart q e s).length ≤ s
  | 0 => Nat.le_refl _
  | s + 1 => by
    have := rowPart_le q e s
    rw [rowPart, List.length_append]
    split
    · simp; omega
    · simp; omega
theorem objsTo_le (R : List Rw) : ∀ q, (objsTo R q).length ≤ 8 * q
  | 0 => Nat.le_refl _
  | q + 1 => by
    have := objsTo_le R q
    rw [objsTo, List.length_append]
    split
    · rename_i e he
      have h1 := rowPart_le q e (slotsOf (clsOf e))
      have h2 := slots_le (clsOf e)
      omega
    · simp; omega
theorem ipv_app (a b : List Int) : ipv a ++ ipv b = ipv (a ++ b) := by rw [ipv, ipv, ipv, List.map_append]
set_option maxHeartbeats 4000000 in
theorem objects_lx (m : Int) (R : List Rw) (n W : Int) (L D : List PV) (hL : L = rpv R) (hn : n = R.length) (hR : R.length ≤ 1000) (hok : RowsOk R) (hW : W = 32 * n) (hm : m = objCount R) : CallF (fun _ => Tryz.prog) 17 [.ptr 0 (.lit 0)] [(0, .mix [.ptr 1 (.lit 0), .sl 3 3 1 (.lit 0) (.sym W)]), (1, .mix [.sl 2 101 2 (.lit 0) (.sym n)]), (2, .pure true L), (3, .pure true D)] 4
    (fun r h n' => ∃ O : List PV, r = .sl 4 3 1 (.lit 0) (.sym m) ∧ h = [(0, .mix [.ptr 1 (.lit 0), .sl 3 3 1 (.lit 0) (.sym W)]), (1, .mix [.sl 2 101 2 (.lit 0) (.sym n)]), (2, .pure true L), (3, .pure true D), (4, .pure true O)] ∧ n' = 5 ∧ O = ipv (objsTo R R.length)) := by
  refine callF_of_body tok Tryz.func17 (by kernel_rfl) rfl rfl rfl ?_; conv => cbv
  refine callF_frame (lenS_lx n L) [(0, 1), (1, 2)] rfl (by simp [hmapOk, nget, hget, renB, okB, renV, renVs, rn, okVs, okV]) rfl rfl (fun r h' n' ⟨e1, e2, e3⟩ => ?_)
  subst e1 e2 e3
  conv => cbv
  obtain ⟨f, hf⟩ : ∃ f : Nat → List Int, ∀ q, f q = objsTo R q := ⟨_, fun _ => rfl⟩
  obtain ⟨g, hg⟩ : ∃ g : Nat → Int, ∀ q, g q = (f q).length := ⟨_, fun _ => rfl⟩
  have f0 : f 0 = [] := hf 0
  have g0 : g 0 = 0 := by rw [hg, f0]; rfl
  have o0 : ([] : List PV) = ipv (f 0) := by rw [f0]; rfl
  refine LoopF.mk (fun k s => ∃ (i j : Int) (O : List PV), s = ⟨.ptr 0 (.lit 0) :: (undefs 2 ++ .sl 4 3 1 (.lit 0) (.sym j) :: (undefs 9 ++ .p (.int .i64 (.sym n)) :: .p (.int .i64 (.sym i)) :: undefs 33)), [(0, .mix [.ptr 1 (.lit 0), .sl 3 3 1 (.lit 0) (.sym W)]), (1, .mix [.sl 2 101 2 (.lit 0) (.sym n)]), (2, .pure true L), (3, .pure true D), (4, .pure true O)], 5⟩ ∧ 0 ≤ i ∧ i ≤ n ∧ O = ipv (f i.toNat) ∧ j = g i.toNat ∧ k = (n - i).toNat) n.toNat _
    (Re.at [(0, 0), (1, 1), (2, 2), (3, 3)] [4]) ⟨0, 0, [], rfl, by omega, by omega, o0, g0.symm, by omega⟩ ?_
  clear f0 g0 o0
  rintro k s ⟨i, j, O, rfl, hi0, hi1, hO, hj, hk⟩
  conv => cbv
  refine Br.mk (fun gi => ?_) (fun gi => ?_)
  · have gi : i < n := gi
    obtain ⟨k', rfl⟩ : ∃ k', k = k' + 1 := ⟨k - 1, by omega⟩
    obtain ⟨e, he⟩ : ∃ e, R[i.toNat]? = some e := ⟨_, List.getElem?_eq_getElem (by omega)⟩
    obtain ⟨v, hv⟩ : ∃ v, v = clsOf e := ⟨_, rfl⟩
    obtain ⟨sn, hsn⟩ : ∃ sn, sn = slotsOf v := ⟨_, rfl⟩
    obtain ⟨sl, hsl⟩ : ∃ sl : Int, sl = sn := ⟨_, rfl⟩
    have hsn8 : sn ≤ 8 := by rw [hsn]; exact slots_le v
    conv => cbv
    refine callF_frame (classA_lx R n i v e L hL hn hi0 he hv) [(0, 1), (1, 2)] rfl (by simp [hmapOk, nget, hget, renB, okB, renV, renVs, rn, okVs, okV]) rfl rfl (fun r h' n' ⟨e1, e2, e3⟩ => ?_)
    subst e1 e2 e3
    conv => cbv
    refine callF_frame (slots_lx v sl (by rw [hsl, hsn])) [] rfl trivial rfl rfl (fun r h' n' ⟨e1, e2, e3⟩ => ?_)
    subst e1 e2 e3
    conv => cbv
    obtain ⟨w, hw⟩ : ∃ w, w = wordsOf v := ⟨_, rfl⟩
    have hwb := wordsOf_bd v
    rw [← hw] at hwb
    obtain ⟨p, hp⟩ : ∃ p : Nat → List Int, ∀ t, p t = f i.toNat ++ rowPart i.toNat e t := ⟨_, fun _ => rfl⟩
    obtain ⟨pl, hpl⟩ : ∃ pl : Nat → Int, ∀ t, pl t = (p t).length := ⟨_, fun _ => rfl⟩
    have hplb : ∀ t, t ≤ 8 → 0 ≤ pl t ∧ pl t ≤ 8008 := fun t ht => by
      have h1 := rowPart_le i.toNat e t
      have h2 := objsTo_le R i.toNat
      rw [hpl, hp, List.length_append, hf]; omega
    have p0 : O = ipv (p 0) := by rw [hO, hp, rowPart, List.append_nil]
    have pl0 : j = pl 0 := by rw [hj, hg, hpl, hp, rowPart, List.append_nil]
    have hpn : p sn = f (i.toNat + 1) := by
      rw [hp, hf, hf, objsTo, he, hsn, hv]
    refine LoopF.mk (fun k s => ∃ (t j : Int) (O2 : List PV), s = ⟨.ptr 0 (.lit 0) :: (undefs 2 ++ .sl 4 3 1 (.lit 0) (.sym j) :: .p (.int .i64 (.sym i)) :: .p (.int .i64 (.sym v)) :: (undefs 7 ++ .p (.int .i64 (.sym n)) :: .p (.int .i64 (.sym i)) :: (undefs 9 ++ .p (.int .i64 (.sym sl)) :: .p (.int .i64 (.sym t)) :: undefs 22))), [(0, .mix [.ptr 1 (.lit 0), .sl 3 3 1 (.lit 0) (.sym W)]), (1, .mix [.sl 2 101 2 (.lit 0) (.sym n)]), (2, .pure true L), (3, .pure true D), (4, .pure true O2)], 5⟩ ∧ 0 ≤ t ∧ t ≤ sl ∧ O2 = ipv (p t.toNat) ∧ j = pl t.toNat ∧ k = (sl - t).toNat) sl.toNat _
      (Re.at [(0, 0), (1, 1), (2, 2), (3, 3), (4, 4)] []) ⟨0, j, O, rfl, by omega, by omega, p0, pl0, by omega⟩ ?_
    clear p0 pl0 hO hj
    rintro k s ⟨t, j, O2, rfl, ht0, ht1, hO2, hj, hk2⟩
    conv => cbv
    refine Br.mk (fun gt => ?_) (fun gt => ?_)
    · have gt : t < sl := gt
      obtain ⟨k'', rfl⟩ : ∃ k', k = k' + 1 := ⟨k - 1, by omega⟩
      have hjb := hplb t.toNat (by omega)
      rw [← hj] at hjb
      have hm8 := (hok e (List.mem_of_getElem? he)).1
      by_cases hu : e.2[t.toNat]? = some true
      · have hne : e.2 ≠ [] := by intro e0; rw [e0] at hu; simp at hu
        have hve : v = e.1 := by rw [hv]; exact if_neg hne
        conv => cbv
        refine callF_frame (used_lx R n i t e.1 e.2 L hL hn hi0 he true ht0 hu) [(0, 1), (1, 2)] rfl (by simp [hmapOk, nget, hget, renB, okB, renV, renVs, rn, okVs, okV]) rfl rfl (fun r h' n' ⟨e1, e2, e3⟩ => ?_)
        subst e1 e2 e3
        conv => cbv
        have hwe : w = wordsOf e.1 := by rw [hw, hve]
        have hp1 : p (t.toNat + 1) = p t.toNat ++ [32 * ((i.toNat : Nat) : Int) + ((t.toNat : Nat) : Int) * wordsOf e.1] := by rw [hp, hp, rowPart, if_pos hu, List.append_assoc]
        rw [show ((i.toNat : Nat) : Int) = i by omega, show ((t.toNat : Nat) : Int) = t by omega, ← hwe] at hp1
        obtain ⟨tw, htw⟩ : ∃ tw, tw = t * w := ⟨_, rfl⟩
        have htw0 : 0 ≤ tw := by rw [htw]; exact Int.mul_nonneg ht0 hwb.1
        have htw1 : tw ≤ 256 := by
          rw [htw]
          exact Int.le_trans (Int.mul_le_mul (show t ≤ 8 by omega) hwb.2 hwb.1 (by decide)) (by decide)
        refine Fit.mk (by show (-9223372036854775808 : Int) ≤ i * 32; omega) (by show i * 32 ≤ 9223372036854775807; omega) fun i32 hi32 => ?_
        have hi32 : i32 = i * 32 := hi32
        conv => cbv
        refine callF_frame (words_lx v w hw) [] rfl trivial rfl rfl (fun r h' n' ⟨e1, e2, e3⟩ => ?_)
        subst e1 e2 e3
        conv => cbv
        refine Fit.mk (by show (-9223372036854775808 : Int) ≤ t * w; rw [← htw]; omega) (by show t * w ≤ 9223372036854775807; rw [← htw]; omega) fun tw' htw' => ?_
        have htw' : tw' = tw := by rw [htw]; exact htw'
        conv => cbv
        refine Fit.mk (by show (-9223372036854775808 : Int) ≤ i32 + tw'; omega) (by show i32 + tw' ≤ 9223372036854775807; omega) fun a ha => ?_
        have ha : a = i32 + tw' := ha
        have ha2 : 32 * i + t * w = a := by rw [← htw]; omega
        rw [ha2] at hp1
        have hol : (O2.length : Int) = j := by rw [hO2, ipv_length, hj, hpl]
        conv => cbv
        refine Room.new rfl ?_
        conv => cbv
        refine Room.new ⟨?_, ?_, ?_⟩ ?_
        · show (O2.length : Int) = j * 1; omega
        · show (j + 1) * 8 ≤ 140737488355328; omega
        · show j + 1 ≤ 9223372036854775807; omega
        conv => cbv
        refine Upd.mk fun O3 hO3 => ?_
        have hO3 : O3 = O2 ++ [.int .i64 (.sym a)] := hO3
        have hO3 : O3 = ipv (p (t.toNat + 1)) := by rw [hO3, hO2, hp1, ← ipv_app]; rfl
        conv => cbv
        refine Sum.mk fun j2 hj2 => ?_
        have hj2 : j2 = j + 1 := hj2
        have hj3 : j2 = pl (t.toNat + 1) := by rw [hj2, hj, hpl, hpl, hp1, List.length_append]; rfl
        conv => cbv
        refine Fit.mk (by show (-9223372036854775808 : Int) ≤ t + 1; omega) (by show t + 1 ≤ 9223372036854775807; omega) fun t2 ht2 => ?_
        have ht2 : t2 = t + 1 := ht2
        have htt : t2.toNat = t.toNat + 1 := by omega
        rw [← htt] at hO3 hj3
        conv => cbv
        refine Again.mk k'' _ (Nat.lt_succ_self _) (Re.at [(0, 0), (1, 1), (2, 2), (3, 3), (6, 4)] []) ⟨t2, j2, O3, rfl, by omega, by omega, hO3, hj3, by omega⟩
      · have hp1 : p (t.toNat + 1) = p t.toNat := by rw [hp, hp, rowPart, if_neg hu, List.append_nil]
        conv => cbv
        refine callF_frame (used_no_lx R n i t e.1 e.2 L hL hn hi0 he hm8 (fun _ => hu)) [(0, 1), (1, 2)] rfl (by simp [hmapOk, nget, hget, renB, okB, renV, renVs, rn, okVs, okV]) rfl rfl (fun r h' n' ⟨e1, e2, e3⟩ => ?_)
        subst e1 e2 e3
        conv => cbv
        refine Fit.mk (by show (-9223372036854775808 : Int) ≤ t + 1; omega) (by show t + 1 ≤ 9223372036854775807; omega) fun t2 ht2 => ?_
        have ht2 : t2 = t + 1 := ht2
        have hO3 : O2 = ipv (p t2.toNat) := by rw [hO2, show t2.toNat = t.toNat + 1 by omega, hp1]
        have hj3 : j = pl t2.toNat := by rw [hj, hpl, hpl, show t2.toNat = t.toNat + 1 by omega, hp1]
        conv => cbv
        refine Again.mk k'' _ (Nat.lt_succ_self _) (Re.at [(0, 0), (1, 1), (2, 2), (3, 3), (4, 4)] []) ⟨t2, j, O2, rfl, by omega, by omega, hO3, hj3, by omega⟩
    · have gt : ¬ t < sl := gt
      have hts : t.toNat = sn := by omega
      rw [hts, hpn] at hO2
      have hj3 : j = g (i.toNat + 1) := by rw [hj, hts, hpl, hpn, hg]
      conv => cbv
      refine Fit.mk (by show (-9223372036854775808 : Int) ≤ i + 1; omega) (by show i + 1 ≤ 9223372036854775807; omega) fun i2 hi2 => ?_
      have hi2 : i2 = i + 1 := hi2
      have hii : i2.toNat = i.toNat + 1 := by omega
      rw [← hii] at hO2 hj3
      conv => cbv
      refine Again.mk k' _ (Nat.lt_succ_self _) (Re.at [(0, 0), (1, 1), (2, 2), (3, 3), (4, 4)] []) ⟨i2, j, O2, rfl, by omega, by omega, hO2, hj3, by omega⟩
  · have gi : ¬ i < n := gi
    have hend : i.toNat = R.length := by omega
    have hjm : j = m := by rw [hj, hg, hf, hend, hm, objs_length hok]
    rw [hend, hf] at hO
    conv => cbv
    refine RetF.mk [.sl 4 3 1 (.lit 0) (.sym m)] [(0, .mix [.ptr 1 (.lit 0), .sl 3 3 1 (.lit 0) (.sym W)]), (1, .mix [.sl 2 101 2 (.lit 0) (.sym n)]), (2, .pure true L), (3, .pure true D), (4, .pure true O)] 5 (Re.at [(0, 0), (1, 1), (2, 2), (3, 3), (4, 4)] []) rfl ⟨O, rfl, rfl, rfl, hO⟩
end Go.Proofs.YtllafhhnciobhaaGreatDoor
