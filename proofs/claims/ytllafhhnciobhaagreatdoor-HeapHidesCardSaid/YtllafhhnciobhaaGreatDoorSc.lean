/-
  Layer 6: what is told of rows; nil ones; laws.
-/
import Derived.Test.YtllafhhnciobhaaGreatDoorSb
import Derived.Test.YtllafhhnciobhaaGreatDoorLxSplit
namespace Go.Proofs.YtllafhhnciobhaaGreatDoor

open Go Go.LX
set_option maxRecDepth 100000
set_option linter.unusedVariables false
set_option linter.unusedSimpArgs false

theorem has_nil (i : I) : CallF (fun _ => Tryz.prog) 79 [.p .nilp, .p (.int .i64 i)] [] 0 (fun r h n => r = .p (.bool false) ∧ h = [] ∧ n = 0) := by
  refine callF_of_body tok Tryz.func79 (by kernel_rfl) rfl rfl rfl ?_; conv => cbv
  refine RetF.mk [.p (.bool false)] [] 0 (Re.at [] []) rfl ⟨rfl, rfl, rfl⟩
theorem has_lx (n i : Int) (L : List PV) (hi0 : 0 ≤ i) (hin : i < n) : CallF (fun _ => Tryz.prog) 79 [.ptr 0 (.lit 0), .p (.int .i64 (.sym i))] [(0, .mix [.sl 1 101 2 (.lit 0) (.sym n)]), (1, .pure true L)] 2 (fun r h n' => r = .p (.bool true) ∧ h = [(0, .mix [.sl 1 101 2 (.lit 0) (.sym n)]), (1, .pure true L)] ∧ n' = 2) := by
  refine callF_of_body tok Tryz.func79 (by kernel_rfl) rfl rfl rfl ?_; conv => cbv
  refine Br.mk (fun g => ?_) (fun g => ?_)
  case refine_2 =>
    have gf : False := g hi0
    cases gf
  conv => cbv
  refine Br.mk (fun g => ?_) (fun g => ?_)
  case refine_2 =>
    have gf : False := g hin
    cases gf
  conv => cbv
  refine RetF.mk [.p (.bool true)] [(0, .mix [.sl 1 101 2 (.lit 0) (.sym n)]), (1, .pure true L)] 2 (Re.at [(0, 0), (1, 1)] []) rfl ⟨rfl, rfl, rfl⟩
theorem class_nil (i : I) : CallF (fun _ => Tryz.prog) 56 [.p .nilp, .p (.int .i64 i)] [] 0 (fun r h n => (∃ v : Int, r = .p (.int .i64 (.sym v)) ∧ v = -1) ∧ h = [] ∧ n = 0) := by
  refine callF_of_body tok Tryz.func56 (by kernel_rfl) rfl rfl rfl ?_; conv => cbv
  refine callF_frame (has_nil i) [] rfl trivial rfl rfl (fun r h' n' ⟨e1, e2, e3⟩ => ?_)
  subst e1 e2 e3
  conv => cbv
  refine RetF.mk [.p (.int .i64 (.sym (-1)))] [] 0 (Re.at [] []) rfl ⟨⟨-1, rfl, rfl⟩, rfl, rfl⟩
theorem used_nil (i j : I) : CallF (fun _ => Tryz.prog) 58 [.p .nilp, .p (.int .i64 i), .p (.int .i64 j)] [] 0 (fun r h n => r = .p (.bool false) ∧ h = [] ∧ n = 0) := by
  refine callF_of_body tok Tryz.func58 (by kernel_rfl) rfl rfl rfl ?_; conv => cbv
  refine callF_frame (has_nil i) [] rfl trivial rfl rfl (fun r h' n' ⟨e1, e2, e3⟩ => ?_)
  subst e1 e2 e3
  conv => cbv
  refine RetF.mk [.p (.bool false)] [] 0 (Re.at [] []) rfl ⟨rfl, rfl, rfl⟩
theorem len_nil : CallF (fun _ => Tryz.prog) 55 [.p .nilp] [] 0 (fun r h n => r = .p (.int .i64 (.sym 0)) ∧ h = [] ∧ n = 0) := by
  refine callF_of_body tok Tryz.func55 (by kernel_rfl) rfl rfl rfl ?_; conv => cbv
  refine RetF.mk [.p (.int .i64 (.sym 0))] [] 0 (Re.at [] []) rfl ⟨rfl, rfl, rfl⟩
theorem free_nil (i j : I) : CallF (fun _ => Tryz.prog) 105 [.p .nilp, .p (.int .i64 i), .p (.int .i64 j)] [] 0 (fun r h n => r = .p (.bool false) ∧ h = [] ∧ n = 0) := by
  refine callF_of_body tok Tryz.func105 (by kernel_rfl) rfl rfl rfl ?_; conv => cbv
  refine callF_frame (used_nil i j) [] rfl trivial rfl rfl (fun r h' n' ⟨e1, e2, e3⟩ => ?_)
  subst e1 e2 e3
  conv => cbv
  refine RetF.mk [.p (.bool false)] [] 0 (Re.at [] []) rfl ⟨rfl, rfl, rfl⟩
theorem alloc_nil (c : Int) : CallF (fun _ => Tryz.prog) 91 [.p .nilp, .p (.int .i64 (.sym c))] [] 0 (fun r h n => r = .tup [.p (.int .i64 (.sym 0)), .p (.int .i64 (.sym 0)), .p (.bool false)] ∧ h = [] ∧ n = 0) := by
  obtain ⟨z, hz⟩ : ∃ z : ByteArray, z = ⟨(mkB (List.replicate (slotsOf c) false)).toArray⟩ := ⟨_, rfl⟩
  refine callF_of_body tok Tryz.func91 (by kernel_rfl) rfl rfl rfl ?_; conv => cbv
  refine callF_frame (unusedRow_lx c z hz) [] rfl trivial rfl rfl (fun r h' n' ⟨e1, e2, e3⟩ => ?_)
  subst e1 e2 e3
  conv => cbv
  refine RetF.mk [.p (.int .i64 (.sym 0)), .p (.int .i64 (.sym 0)), .p (.bool false)] [] 0 (Re.at [] []) rfl ⟨rfl, rfl, rfl⟩
theorem class_lx (R : List Rw) (n i d : Int) (m : List Bool) (L : List PV) (hL : L = rpv R) (hn : n = R.length) (hi0 : 0 ≤ i) (hi : R[i.toNat]? = some (d, m)) (hm : m ≠ []) : CallF (fun _ => Tryz.prog) 56 [.ptr 0 (.lit 0), .p (.int .i64 (.sym i))] [(0, .mix [.sl 1 101 2 (.lit 0) (.sym n)]), (1, .pure true L)] 2
    (fun r h n' => r = .p (.int .i64 (.sym d)) ∧ h = [(0, .mix [.sl 1 101 2 (.lit 0) (.sym n)]), (1, .pure true L)] ∧ n' = 2) := by
  have hiR : i.toNat < R.length := (List.getElem?_eq_some_iff.1 hi).1
  obtain ⟨y, hy⟩ : ∃ y : ByteArray, y = ⟨(mkB m).toArray⟩ := ⟨_, rfl⟩
  obtain ⟨c1, c2⟩ := rpv_get R i.toNat _ hi
  dsimp only at c1 c2
  rw [← hL] at c1 c2
  rw [← hy] at c2
  have hyn : ¬ y = ⟨#[]⟩ := fun h => hm ((mkB_nil m).1 (hy.symm.trans h))
  refine callF_of_body tok Tryz.func56 (by kernel_rfl) rfl rfl rfl ?_; conv => cbv
  refine callF_frame (has_lx n i L hi0 (by omega)) [(0, 0), (1, 1)] rfl (by simp [hmapOk, nget, hget, renB, okB, renV, renVs, rn, okVs, okV]) rfl rfl (fun r h' n' ⟨e1, e2, e3⟩ => ?_)
  subst e1 e2 e3
  conv => cbv
  refine Need.mk ⟨hi0, by show i < n; omega⟩ ?_
  conv => cbv
  refine Sum.mk fun w hw => ?_
  have hw : w = i * 2 := hw
  conv => cbv
  refine Sum.mk fun a ha => ?_
  have ha : a = w + 1 := ha
  conv => cbv
  refine Cell.at a _ c2 (by simp [I.val]) (by omega) ?_
  conv => cbv
  refine Br.mk (fun g => ?_) (fun g => ?_)
  case refine_1 =>
    have gf : False := hyn g
    cases gf
  conv => cbv
  refine Need.mk ⟨hi0, by show i < n; omega⟩ ?_
  conv => cbv
  refine Sum.mk fun w2 hw2 => ?_
  have hw2 : w2 = i * 2 := hw2
  conv => cbv
  refine Cell.at w2 _ c1 (by simp [I.val]) (by omega) ?_
  conv => cbv
  refine RetF.mk [.p (.int .i64 (.sym d))] [(0, .mix [.sl 1 101 2 (.lit 0) (.sym n)]), (1, .pure true L)] 2 (Re.at [(0, 0), (1, 1)] []) rfl ⟨rfl, rfl, rfl⟩
theorem used_lx (R : List Rw) (n i j d : Int) (m : List Bool) (L : List PV) (hL : L = rpv R) (hn : n = R.length) (hi0 : 0 ≤ i) (hi : R[i.toNat]? = some (d, m)) (b : Bool) (hj0 : 0 ≤ j) (hj : m[j.toNat]? = some b) : CallF (fun _ => Tryz.prog) 58 [.ptr 0 (.lit 0), .p (.int .i64 (.sym i)), .p (.int .i64 (.sym j))] [(0, .mix [.sl 1 101 2 (.lit 0) (.sym n)]), (1, .pure true L)] 2
    (fun r h n' => r = .p (.bool b) ∧ h = [(0, .mix [.sl 1 101 2 (.lit 0) (.sym n)]), (1, .pure true L)] ∧ n' = 2) := by
  have hiR : i.toNat < R.length := (List.getElem?_eq_some_iff.1 hi).1
  obtain ⟨y, hy⟩ : ∃ y : ByteArray, y = ⟨(mkB m).toArray⟩ := ⟨_, rfl⟩
  obtain ⟨c1, c2⟩ := rpv_get R i.toNat _ hi
  dsimp only at c1 c2
  rw [← hL] at c1 c2
  rw [← hy] at c2
  refine callF_of_body tok Tryz.func58 (by kernel_rfl) rfl rfl rfl ?_; conv => cbv
  refine callF_frame (has_lx n i L hi0 (by omega)) [(0, 0), (1, 1)] rfl (by simp [hmapOk, nget, hget, renB, okB, renV, renVs, rn, okVs, okV]) rfl rfl (fun r h' n' ⟨e1, e2, e3⟩ => ?_)
  subst e1 e2 e3
  conv => cbv
  refine Need.mk ⟨hi0, by show i < n; omega⟩ ?_
  conv => cbv
  refine Sum.mk fun w hw => ?_
  have hw : w = i * 2 := hw
  conv => cbv
  refine Sum.mk fun a ha => ?_
  have ha : a = w + 1 := ha
  conv => cbv
  refine Cell.at a _ c2 (by simp [I.val]) (by omega) ?_
  conv => cbv
  obtain ⟨N, hN⟩ : ∃ N : Int, N = m.length := ⟨_, rfl⟩
  have hjN : j < N := by have := (List.getElem?_eq_some_iff.1 hj).1; omega
  have hys : (y.size : Int) = N := by rw [hy, mk_size, mkB_length, hN]
  refine LoopF.mk (fun k s => ∃ pos : Int, s = ⟨.ptr 0 (.lit 0) :: .p (.int .i64 (.sym i)) :: .p (.int .i64 (.sym j)) :: (undefs 18 ++ .ptr 2 (.lit 0) :: undefs 9), [(2, .iter (fun _ => y) (.sym pos)), (0, .mix [.sl 1 101 2 (.lit 0) (.sym n)]), (1, .pure true L)], 3⟩ ∧ 0 ≤ pos ∧ pos ≤ j ∧ k = (N - pos).toNat) N.toNat _
    (Re.at [(0, 0), (1, 1), (2, 2)] []) ⟨0, rfl, by omega, hj0, by omega⟩ ?_
  rintro k s ⟨pos, rfl, h0, h1, hk⟩
  obtain ⟨x, hb⟩ : ∃ x, m[pos.toNat]? = some x := ⟨_, List.getElem?_eq_getElem (by omega)⟩
  have hx : (mkB m)[pos.toNat]? = some (if x then 120 else 46) := by rw [mkB, List.getElem?_map, hb]; rfl
  have hd := dec_at (mkB m) (mkB_low m) pos.toNat _ hx
  rw [← hy] at hd
  obtain ⟨k', rfl⟩ : ∃ k', k = k' + 1 := ⟨k - 1, by omega⟩
  conv => cbv
  refine NextS.more (by show pos < (y.size : Int); omega) ?_
  intro r p' hr hp
  have hr : r = (if x then 120 else 46) := by
    have : r = ((Utf8.decode y pos.toNat).1 : Int) := hr
    rw [this, hd]; cases x <;> rfl
  have hp : p' = pos + 1 := by
    have : p' = pos + ((Utf8.decode y pos.toNat).2 : Int) := hp
    rw [this, hd]; rfl
  conv => cbv
  refine Br.mk (fun g => ?_) (fun g => ?_)
  · have g : pos = j := g
    have hxb : x = b := by rw [g] at hb; rw [hb] at hj; exact Option.some.inj hj
    conv => cbv
    refine Br.mk (fun g2 => ?_) (fun g2 => ?_)
    · have g2 : r = 120 := g2
      have hbt : true = b := by
        cases b with
        | true => rfl
        | false => rw [hxb] at hr; simp at hr; omega
      subst hbt
      conv => cbv
      refine RetF.mk [.p (.bool true)] [(0, .mix [.sl 1 101 2 (.lit 0) (.sym n)]), (1, .pure true L)] 2 (Re.at [(0, 0), (1, 1)] []) rfl ⟨rfl, rfl, rfl⟩
    · have g2 : ¬ r = 120 := g2
      have hbf : false = b := by
        cases b with
        | false => rfl
        | true => rw [hxb] at hr; simp at hr; omega
      subst hbf
      conv => cbv
      refine RetF.mk [.p (.bool false)] [(0, .mix [.sl 1 101 2 (.lit 0) (.sym n)]), (1, .pure true L)] 2 (Re.at [(0, 0), (1, 1)] []) rfl ⟨rfl, rfl, rfl⟩
  · have g : ¬ pos = j := g
    conv => cbv
    refine Again.mk k' _ (Nat.lt_succ_self _) (Re.at [(0, 0), (1, 1), (2, 2)] []) ⟨p', rfl, by omega, by omega, by omega⟩
theorem wordsOf_bd (c : Int) : 0 ≤ wordsOf c ∧ wordsOf c ≤ 32 := by
  unfold wordsOf; split
  · omega
  · split
    · omega
    · split
      · omega
      · split <;> omega
theorem lenS_lx (n : Int) (L : List PV) : CallF (fun _ => Tryz.prog) 55 [.ptr 0 (.lit 0)] [(0, .mix [.sl 1 101 2 (.lit 0) (.sym n)]), (1, .pure true L)] 2
    (fun r h n' => r = .p (.int .i64 (.sym n)) ∧ h = [(0, .mix [.sl 1 101 2 (.lit 0) (.sym n)]), (1, .pure true L)] ∧ n' = 2) := by
  refine callF_of_body tok Tryz.func55 (by kernel_rfl) rfl rfl rfl ?_; conv => cbv
  refine RetF.mk [.p (.int .i64 (.sym n))] [(0, .mix [.sl 1 101 2 (.lit 0) (.sym n)]), (1, .pure true L)] 2 (Re.at [(0, 0), (1, 1)] []) rfl ⟨rfl, rfl, rfl⟩
def R0 : List Rw := [(0, []), (0, [])]
theorem alloced_new {c i s : Int} {b : Bool} {R' : List Rw} (h : Alloced R0 c i s b R') : (slotsOf c = 0 ∧ b = false) ∨ (slotsOf c ≠ 0 ∧ i = 0 ∧ s = 0 ∧ b = true ∧ R' = [(c, (List.replicate (slotsOf c) false).set 0 true), (0, [])]) := by
  cases h with
  | no h => exact .inl ⟨h, rfl⟩
  | old i s l h0 hi hs h1 h2 =>
    exfalso
    have hl : l = [] := by
      rcases i with _ | _ | i
      · exact (congrArg Prod.snd (Option.some.inj hi)).symm
      · exact (congrArg Prod.snd (Option.some.inj hi)).symm
      · simp [R0] at hi
    rw [hl] at hs
    simp at hs
  | fresh i d h0 h2 hi h3 =>
    rcases i with _ | i
    · exact .inr ⟨h0, rfl, rfl, rfl, rfl⟩
    · exact absurd rfl (h3 0 (Nat.succ_pos _) 0)
  | full h0 h2 h3 => exact absurd rfl (h3 0 0)
theorem slots_iff (c : Int) : slotsOf c ≠ 0 ↔ 0 ≤ c ∧ c ≤ 3 := by
  unfold slotsOf
  constructor
  · intro h
    split at h
    · omega
    · split at h
      · omega
      · split at h
        · omega
        · split at h
          · omega
          · exact absurd rfl h
  · intro h
    split
    · decide
    · split
      · decide
      · split
        · decide
        · split
          · decide
          · omega
theorem R0_ok : ∀ e ∈ R0, e.2.length ≤ 8 := by decide
end Go.Proofs.YtllafhhnciobhaaGreatDoor
/-
  Layer 6: what is given back.
-/
namespace Go.Proofs.YtllafhhnciobhaaGreatDoor

open Go Go.LX
set_option maxRecDepth 100000
set_option linter.unusedVariables false
set_option linter.unusedSimpArgs false

theorem used_no_lx (R : List Rw) (n i j d : Int) (m : List Bool) (L : List PV) (hL : L = rpv R) (hn : n = R.length) (hi0 : 0 ≤ i) (hi : R[i.toNat]? = some (d, m)) (hm : m.length ≤ 8) (hj : 0 ≤ j → m[j.toNat]? ≠ some true) : CallF (fun _ => Tryz.prog) 58 [.ptr 0 (.lit 0), .p (.int .i64 (.sym i)), .p (.int .i64 (.sym j))] [(0, .mix [.sl 1 101 2 (.lit 0) (.sym n)]), (1, .pure true L)] 2
    (fun r h n' => r = .p (.bool false) ∧ h = [(0, .mix [.sl 1 101 2 (.lit 0) (.sym n)]), (1, .pure true L)] ∧ n' = 2) := by
  have hiR : i.toNat < R.length := (List.getElem?_eq_some_iff.1 hi).1
  obtain ⟨y, hy⟩ : ∃ y : ByteArray, y = ⟨(mkB m).toArray⟩ := ⟨_, rfl⟩
  obtain ⟨c1, c2⟩ := rpv_get R i.toNat _ hi
  dsimp only at c1 c2
  rw [← hL] at c1 c2
  rw [← hy] at c2
  refine callF_of_body tok Tryz.func58 (by kernel_rfl) rfl rfl rfl ?_; conv => cbv
  refine callF_frame (has_lx n i L hi0 (by omega)) [(0, 0), (1, 1)] rfl (by simp [hmapOk, nget, hget, renB, okB, renV, renVs, rn, okVs, okV]) rfl rfl (fun r h' n' ⟨e1, e2, e3⟩ => ?_)
  subst e1 e2 e3
  conv => cbv
  refine Need.mk ⟨hi0, by show i < n; omega⟩ ?_
  conv => cbv
  refine Sum.mk fun w hw => ?_
  have hw : w = i * 2 := hw
  conv => cbv
  refine Sum.mk fun a ha => ?_
  have ha : a = w + 1 := ha
  conv => cbv
  refine Cell.at a _ c2 (by simp [I.val]) (by omega) ?_
  conv => cbv
  obtain ⟨N, hN⟩ : ∃ N : Int, N = m.length := ⟨_, rfl⟩
  have hys : (y.size : Int) = N := by rw [hy, mk_size, mkB_length, hN]
  refine LoopF.mk (fun k s => ∃ pos : Int, s = ⟨.ptr 0 (.lit 0) :: .p (.int .i64 (.sym i)) :: .p (.int .i64 (.sym j)) :: (undefs 18 ++ .ptr 2 (.lit 0) :: undefs 9), [(2, .iter (fun _ => y) (.sym pos)), (0, .mix [.sl 1 101 2 (.lit 0) (.sym n)]), (1, .pure true L)], 3⟩ ∧ 0 ≤ pos ∧ pos ≤ N ∧ (j < 0 ∨ pos ≤ j) ∧ k = (N - pos).toNat) N.toNat _
    (Re.at [(0, 0), (1, 1), (2, 2)] []) ⟨0, rfl, by omega, by omega, by omega, by omega⟩ ?_
  rintro k s ⟨pos, rfl, h0, h1, hpj, hk⟩
  conv => cbv
  by_cases hend : pos = N
  · refine NextS.over (by show (y.size : Int) ≤ pos; omega) ?_
    conv => cbv
    refine RetF.mk [.p (.bool false)] [(0, .mix [.sl 1 101 2 (.lit 0) (.sym n)]), (1, .pure true L)] 2 (Re.at [(0, 0), (1, 1)] []) rfl ⟨rfl, rfl, rfl⟩
  · obtain ⟨x, hb⟩ : ∃ x, m[pos.toNat]? = some x := ⟨_, List.getElem?_eq_getElem (by omega)⟩
    have hx : (mkB m)[pos.toNat]? = some (if x then 120 else 46) := by rw [mkB, List.getElem?_map, hb]; rfl
    have hd := dec_at (mkB m) (mkB_low m) pos.toNat _ hx
    rw [← hy] at hd
    obtain ⟨k', rfl⟩ : ∃ k', k = k' + 1 := ⟨k - 1, by omega⟩
    refine NextS.more (by show pos < (y.size : Int); omega) ?_
    intro r p' hr hp
    have hr : r = (if x then 120 else 46) := by
      have : r = ((Utf8.decode y pos.toNat).1 : Int) := hr
      rw [this, hd]; cases x <;> rfl
    have hp : p' = pos + 1 := by
      have : p' = pos + ((Utf8.decode y pos.toNat).2 : Int) := hp
      rw [this, hd]; rfl
    conv => cbv
    refine Br.mk (fun g => ?_) (fun g => ?_)
    · have g : pos = j := g
      have hxb : x = false := by
        cases x with
        | false => rfl
        | true => exact absurd (by rw [← g]; exact hb) (hj (by omega))
      conv => cbv
      refine Br.mk (fun g2 => ?_) (fun g2 => ?_)
      · have g2 : r = 120 := g2
        have gf : False := by rw [hxb] at hr; simp at hr; omega
        cases gf
      · have g2 : ¬ r = 120 := g2
        conv => cbv
        refine RetF.mk [.p (.bool false)] [(0, .mix [.sl 1 101 2 (.lit 0) (.sym n)]), (1, .pure true L)] 2 (Re.at [(0, 0), (1, 1)] []) rfl ⟨rfl, rfl, rfl⟩
    · have g : ¬ pos = j := g
      conv => cbv
      refine Again.mk k' _ (Nat.lt_succ_self _) (Re.at [(0, 0), (1, 1), (2, 2)] []) ⟨p', rfl, by omega, by omega, by omega, by omega⟩
theorem free_no_lx (R : List Rw) (n i j d : Int) (m : List Bool) (L : List PV) (hL : L = rpv R) (hn : n = R.length) (hi0 : 0 ≤ i) (hi : R[i.toNat]? = some (d, m)) (hm : m.length ≤ 8) (hj : 0 ≤ j → m[j.toNat]? ≠ some true) : CallF (fun _ => Tryz.prog) 105 [.ptr 0 (.lit 0), .p (.int .i64 (.sym i)), .p (.int .i64 (.sym j))] [(0, .mix [.sl 1 101 2 (.lit 0) (.sym n)]), (1, .pure true L)] 2
    (fun r h n' => r = .p (.bool false) ∧ h = [(0, .mix [.sl 1 101 2 (.lit 0) (.sym n)]), (1, .pure true L)] ∧ n' = 2) := by
  refine callF_of_body tok Tryz.func105 (by kernel_rfl) rfl rfl rfl ?_; conv => cbv
  refine callF_frame (used_no_lx R n i j d m L hL hn hi0 hi hm hj) [(0, 0), (1, 1)] rfl (by simp [hmapOk, nget, hget, renB, okB, renV, renVs, rn, okVs, okV]) rfl rfl (fun r h' n' ⟨e1, e2, e3⟩ => ?_)
  subst e1 e2 e3
  conv => cbv
  refine RetF.mk [.p (.bool false)] [(0, .mix [.sl 1 101 2 (.lit 0) (.sym n)]), (1, .pure true L)] 2 (Re.at [(0, 0), (1, 1)] []) rfl ⟨rfl, rfl, rfl⟩
theorem pvles_self : ∀ l : List PV, pvles l l
  | [] => trivial
  | x :: l => ⟨pvle_refl x, pvles_self l⟩
theorem rpv_upd0 : ∀ (R : List Rw) (i : Nat), i < R.length → pvles (updL (rpv R) (2 * i) [.int .i64 (.lit 0), .str fun _ => ⟨#[]⟩]) (rpv (R.set i (0, [])))
  | [], i, h => by simp at h
  | (c, l) :: R, 0, _ => ⟨by simp [pvle, I.val], SEq.mk rfl, pvles_self _⟩
  | (c, l) :: R, i + 1, h => by
    have ih := rpv_upd0 R i (by simpa using h)
    exact ⟨pvle_refl _, pvle_refl _, ih⟩
/-- A slot given back: the last one leaves a row of nothing. -/
def freed (R : List Rw) (i : Nat) (d : Int) (m : List Bool) : List Rw := R.set i (if m.count true = 0 then (0, []) else (d, m))
set_option maxHeartbeats 2000000 in
theorem free_lx (R R' : List Rw) (n i j d : Int) (m : List Bool) (L : List PV) (hL : L = rpv R) (hn : n = R.length) (hR : R.length ≤ 1000) (hi0 : 0 ≤ i) (hi : R[i.toNat]? = some (d, m)) (hm : m.length ≤ 8) (hj0 : 0 ≤ j) (hj : m[j.toNat]? = some true) (hR' : R' = freed R i.toNat d (m.set j.toNat false)) :
    CallF (fun _ => Tryz.prog) 105 [.ptr 0 (.lit 0), .p (.int .i64 (.sym i)), .p (.int .i64 (.sym j))] [(0, .mix [.sl 1 101 2 (.lit 0) (.sym n)]), (1, .pure true L)] 2
      (fun r h n' => ∃ L' : List PV, r = .p (.bool true) ∧ h = [(0, .mix [.sl 1 101 2 (.lit 0) (.sym n)]), (1, .pure true L')] ∧ n' = 2 ∧ L' = rpv R') := by
  have hiR : i.toNat < R.length := (List.getElem?_eq_some_iff.1 hi).1
  obtain ⟨m2, hm2⟩ : ∃ m2, m2 = m.set j.toNat false := ⟨_, rfl⟩
  have hm2l : m2.length ≤ 8 := by rw [hm2, List.length_set]; exact hm
  obtain ⟨R2, hR2⟩ : ∃ R2, R2 = R.set i.toNat (d, m2) := ⟨_, rfl⟩
  have hR2i : R2[i.toNat]? = some (d, m2) := by rw [hR2, List.getElem?_set_self hiR]
  have hR2l : R2.length = R.length := by rw [hR2, List.length_set]
  obtain ⟨y, hy⟩ : ∃ y : ByteArray, y = ⟨(mkB m2).toArray⟩ := ⟨_, rfl⟩
  refine callF_of_body tok Tryz.func105 (by kernel_rfl) rfl rfl rfl ?_; conv => cbv
  refine callF_frame (used_lx R n i j d m L hL hn hi0 hi true hj0 hj) [(0, 0), (1, 1)] rfl (by simp [hmapOk, nget, hget, renB, okB, renV, renVs, rn, okVs, okV]) rfl rfl (fun r h' n' ⟨e1, e2, e3⟩ => ?_)
  subst e1 e2 e3
  conv => cbv
  refine CallF.le (args0 := [.ptr 0 (.lit 0), .p (.int .i64 (.sym i)), .p (.int .i64 (.sym j)), .p (.int .i32 (.sym 46))]) (callF_frame (mark_lx R n i j 46 d m L hL hn hi0 hi hm hR false rfl) [(0, 0), (1, 1)] rfl (by simp [hmapOk, nget, hget, renB, okB, renV, renVs, rn, okVs, okV]) rfl rfl (fun r h' n' hrr => ?_)) (by simp [ales, ale, pvle, I.val])
  obtain ⟨L2, e1, e2, e3, hL2⟩ := hrr
  rw [if_pos hj0, ← hm2, ← hR2] at hL2
  subst e1 e2 e3
  obtain ⟨c1, c2⟩ := rpv_get R2 i.toNat _ hR2i
  dsimp only at c1 c2
  rw [← hL2] at c1 c2
  rw [← hy] at c2
  have hL2l : L2.length = 2 * R.length := by rw [hL2, rpv_length, hR2l]
  conv => cbv
  refine Need.mk ⟨hi0, by show i < n; omega⟩ ?_
  conv => cbv
  refine Sum.mk fun w hw => ?_
  have hw : w = i * 2 := hw
  conv => cbv
  refine Sum.mk fun a ha => ?_
  have ha : a = w + 1 := ha
  conv => cbv
  refine Cell.at a _ c2 (by simp [I.val]) (by omega) ?_
  conv => cbv
  refine callF_val (countUsed_lx m2 y hy (by omega)) (by simp [ales, ale, renVs, renV, pvle_refl]) rfl (fun r ⟨v, hr, _⟩ => by subst hr; rfl) (fun r hrr => ?_)
  obtain ⟨u, hr, hu⟩ := hrr
  subst hr
  conv => cbv
  refine Br.mk (fun g => ?_) (fun g => ?_)
  · have g : u = 0 := g
    have hq : R' = R2.set i.toNat (0, []) := by
      rw [hR', freed, ← hm2, if_pos (by omega), hR2, List.set_set]
    obtain ⟨L9, hL9⟩ : ∃ L9, L9 = rpv R' := ⟨_, rfl⟩
    conv => cbv
    refine Need.mk ⟨hi0, by show i < n; omega⟩ ?_
    conv => cbv
    refine Sum.mk fun w2 hw2 => ?_
    have hw2 : w2 = i * 2 := hw2
    conv => cbv
    refine Need.mk (by show w2 + ((2 : Nat) : Int) ≤ (L2.length : Int); omega) ?_
    conv => cbv
    refine Upd.mk fun L3 hL3 => ?_
    have hL3 : L3 = updL L2 w2.toNat [.int .i64 (.lit 0), .str fun _ => ⟨#[]⟩] := hL3
    have hle : pvles L3 L9 := by
      rw [hL3, hL2, hL9, hq, show w2.toNat = 2 * i.toNat by omega]
      exact rpv_upd0 R2 i.toNat (by omega)
    clear hL3
    unfold pvles at hle
    conv => cbv
    refine RetF.mk [.p (.bool true)] [(0, .mix [.sl 1 101 2 (.lit 0) (.sym n)]), (1, .pure true L9)] 2 (Re.at [(0, 0), (1, 1)] []) rfl ⟨L9, rfl, rfl, rfl, hL9⟩
  · have g : ¬ u = 0 := g
    have hq : R' = R2 := by rw [hR', freed, ← hm2, if_neg (by omega), hR2]
    rw [← hq] at hL2
    conv => cbv
    refine RetF.mk [.p (.bool true)] [(0, .mix [.sl 1 101 2 (.lit 0) (.sym n)]), (1, .pure true L2)] 2 (Re.at [(0, 0), (1, 1)] []) rfl ⟨L2, rfl, rfl, rfl, hL2⟩
theorem class_none_lx (R : List Rw) (n i d : Int) (L : List PV) (hL : L = rpv R) (hn : n = R.length) (hi0 : 0 ≤ i) (hi : R[i.toNat]? = some (d, [])) : CallF (fun _ => Tryz.prog) 56 [.ptr 0 (.lit 0), .p (.int .i64 (.sym i))] [(0, .mix [.sl 1 101 2 (.lit 0) (.sym n)]), (1, .pure true L)] 2
    (fun r h n' => (∃ v : Int, r = .p (.int .i64 (.sym v)) ∧ v = -1) ∧ h = [(0, .mix [.sl 1 101 2 (.lit 0) (.sym n)]), (1, .pure true L)] ∧ n' = 2) := by
  have hiR : i.toNat < R.length := (List.getElem?_eq_some_iff.1 hi).1
  obtain ⟨y, hy⟩ : ∃ y : ByteArray, y = ⟨(mkB []).toArray⟩ := ⟨_, rfl⟩
  obtain ⟨c1, c2⟩ := rpv_get R i.toNat _ hi
  dsimp only at c1 c2
  rw [← hL] at c1 c2
  rw [← hy] at c2
  have hyn : y = ⟨#[]⟩ := hy
  refine callF_of_body tok Tryz.func56 (by kernel_rfl) rfl rfl rfl ?_; conv => cbv
  refine callF_frame (has_lx n i L hi0 (by omega)) [(0, 0), (1, 1)] rfl (by simp [hmapOk, nget, hget, renB, okB, renV, renVs, rn, okVs, okV]) rfl rfl (fun r h' n' ⟨e1, e2, e3⟩ => ?_)
  subst e1 e2 e3
  conv => cbv
  refine Need.mk ⟨hi0, by show i < n; omega⟩ ?_
  conv => cbv
  refine Sum.mk fun w hw => ?_
  have hw : w = i * 2 := hw
  conv => cbv
  refine Sum.mk fun a ha => ?_
  have ha : a = w + 1 := ha
  conv => cbv
  refine Cell.at a _ c2 (by simp [I.val]) (by omega) ?_
  conv => cbv
  refine Br.mk (fun g => ?_) (fun g => ?_)
  case refine_2 =>
    have gf : False := g hyn
    cases gf
  conv => cbv
  refine RetF.mk [.p (.int .i64 (.sym (-1)))] [(0, .mix [.sl 1 101 2 (.lit 0) (.sym n)]), (1, .pure true L)] 2 (Re.at [(0, 0), (1, 1)] []) rfl ⟨⟨-1, rfl, rfl⟩, rfl, rfl⟩
end Go.Proofs.YtllafhhnciobhaaGreatDoor
/-
  Layer 6: the class of a row.
-/
namespace Go.Proofs.YtllafhhnciobhaaGreatDoor

open Go Go.LX
set_option maxRecDepth 100000
set_option linter.unusedVariables false
set_option linter.unusedSimpArgs false

/-- The class of a row: -1 of one without marks. -/
def clsOf (e : Rw) : Int := if e.2 = [] then -1 else e.1
theorem classA_lx (R : List Rw) (n i v : Int) (e : Rw) (L : List PV) (hL : L = rpv R) (hn : n = R.length) (hi0 : 0 ≤ i) (hi : R[i.toNat]? = some e) (hv : v = clsOf e) : CallF (fun _ => Tryz.prog) 56 [.ptr 0 (.lit 0), .p (.int .i64 (.sym i))] [(0, .mix [.sl 1 101 2 (.lit 0) (.sym n)]), (1, .pure true L)] 2
    (fun r h n' => r = .p (.int .i64 (.sym v)) ∧ h = [(0, .mix [.sl 1 101 2 (.lit 0) (.sym n)]), (1, .pure true L)] ∧ n' = 2) := by
  obtain ⟨d, m⟩ := e
  unfold clsOf at hv
  by_cases hm : m = []
  · subst hm
    rw [if_pos rfl] at hv
    refine (class_none_lx R n i d L hL hn hi0 hi).mono ?_
    rintro r h n' ⟨⟨v', e1, e2⟩, e3, e4⟩
    exact ⟨by rw [e1, e2, hv], e3, e4⟩
  · rw [if_neg hm] at hv
    rw [hv]
    exact class_lx R n i d m L hL hn hi0 hi hm
theorem wordsOf_cases (c : Int) : wordsOf c = 0 ∨ wordsOf c = 4 ∨ wordsOf c = 8 ∨ wordsOf c = 16 ∨ wordsOf c = 32 := by
  unfold wordsOf
  split
  · omega
  · split
    · omega
    · split
      · omega
      · split <;> omega
theorem refWords_lx (c w : Int) (h0 : 0 ≤ c) (h3 : c ≤ 3) (hw : w = wordsOf c) : CallF (fun _ => Tryz.prog) 88 [.p (.int .i64 (.sym c))] [] 0 (fun r h n => r = .p (.int .i64 (.sym w)) ∧ h = [] ∧ n = 0) := by
  refine callF_of_body tok Tryz.func88 (by kernel_rfl) rfl rfl rfl ?_; conv => cbv
  refine Br.mk (fun g => ?_) (fun g => ?_)
  case refine_1 =>
    have gf : False := by have g : c < 0 := g; omega
    cases gf
  conv => cbv
  refine Br.mk (fun g => ?_) (fun g => ?_)
  case refine_1 =>
    have gf : False := by have g : 3 < c := g; omega
    cases gf
  conv => cbv
  refine Need.mk ⟨h0, by show c < 4; omega⟩ ?_
  conv => cbv
  have hc4 : c = 0 ∨ c = 1 ∨ c = 2 ∨ c = 3 := by omega
  rcases hc4 with e | e | e | e
  · refine Cell.at c 0 (v := .int .i64 (.lit 4)) rfl (by simp [I.val]) (by omega) ?_
    have hw4 : w = 4 := by rw [hw, e]; rfl
    conv => cbv
    refine RetF.mk [.p (.int .i64 (.sym w))] [] 0 (Re.at [] []) rfl ⟨rfl, rfl, rfl⟩
  · refine Cell.at c 1 (v := .int .i64 (.lit 8)) rfl (by simp [I.val]) (by omega) ?_
    have hw4 : w = 8 := by rw [hw, e]; rfl
    conv => cbv
    refine RetF.mk [.p (.int .i64 (.sym w))] [] 0 (Re.at [] []) rfl ⟨rfl, rfl, rfl⟩
  · refine Cell.at c 2 (v := .int .i64 (.lit 16)) rfl (by simp [I.val]) (by omega) ?_
    have hw4 : w = 16 := by rw [hw, e]; rfl
    conv => cbv
    refine RetF.mk [.p (.int .i64 (.sym w))] [] 0 (Re.at [] []) rfl ⟨rfl, rfl, rfl⟩
  · refine Cell.at c 3 (v := .int .i64 (.lit 32)) rfl (by simp [I.val]) (by omega) ?_
    have hw4 : w = 32 := by rw [hw, e]; rfl
    conv => cbv
    refine RetF.mk [.p (.int .i64 (.sym w))] [] 0 (Re.at [] []) rfl ⟨rfl, rfl, rfl⟩
theorem refSlots_lx (c k : Int) (h0 : 0 ≤ c) (h3 : c ≤ 3) (hk : k = slotsOf c) : CallF (fun _ => Tryz.prog) 113 [.p (.int .i64 (.sym c))] [] 0 (fun r h n => r = .p (.int .i64 (.sym k)) ∧ h = [] ∧ n = 0) := by
  obtain ⟨w, hw⟩ : ∃ w, w = wordsOf c := ⟨_, rfl⟩
  refine callF_of_body tok Tryz.func113 (by kernel_rfl) rfl rfl rfl ?_; conv => cbv
  refine Br.mk (fun g => ?_) (fun g => ?_)
  case refine_1 =>
    have gf : False := by have g : c < 0 := g; omega
    cases gf
  conv => cbv
  refine Br.mk (fun g => ?_) (fun g => ?_)
  case refine_1 =>
    have gf : False := by have g : 3 < c := g; omega
    cases gf
  conv => cbv
  refine callF_frame (refWords_lx c w h0 h3 hw) [] rfl trivial rfl rfl (fun r h' n' ⟨e1, e2, e3⟩ => ?_)
  subst e1 e2 e3
  conv => cbv
  have hk2 : k = (32 : Int).tdiv w ∧ w ≠ 0 := by
    have : c = 0 ∨ c = 1 ∨ c = 2 ∨ c = 3 := by omega
    rcases this with e | e | e | e <;> (subst e; subst hk; subst hw; decide)
  have hk8 : 0 ≤ k ∧ k ≤ 8 := by
    have : c = 0 ∨ c = 1 ∨ c = 2 ∨ c = 3 := by omega
    rcases this with e | e | e | e <;> (subst e; subst hk; decide)
  refine Need.mk (show w ≠ 0 from hk2.2) ?_
  conv => cbv
  refine Fit.mk (by show (-9223372036854775808 : Int) ≤ Int.tdiv 32 w; omega) (by show Int.tdiv 32 w ≤ 9223372036854775807; omega) fun q hq => ?_
  have hq : q = Int.tdiv 32 w := hq
  have hqk : q = k := by rw [hq, hk2.1]
  conv => cbv
  refine RetF.mk [.p (.int .i64 (.sym k))] [] 0 (Re.at [] []) rfl ⟨rfl, rfl, rfl⟩
theorem refSlotsA_lx (c k : Int) (hk : k = slotsOf c) : CallF (fun _ => Tryz.prog) 113 [.p (.int .i64 (.sym c))] [] 0 (fun r h n => r = .p (.int .i64 (.sym k)) ∧ h = [] ∧ n = 0) := by
  by_cases h0 : 0 ≤ c ∧ c ≤ 3
  · exact refSlots_lx c k h0.1 h0.2 hk
  have hk0 : k = 0 := by
    rw [hk]
    have : slotsOf c = 0 := Classical.byContradiction fun h => h0 ((slots_iff c).1 h)
    rw [this]; rfl
  refine callF_of_body tok Tryz.func113 (by kernel_rfl) rfl rfl rfl ?_; conv => cbv
  refine Br.mk (fun g => ?_) (fun g => ?_)
  · conv => cbv
    refine RetF.mk [.p (.int .i64 (.sym k))] [] 0 (Re.at [] []) rfl ⟨rfl, rfl, rfl⟩
  have g : ¬ c < 0 := g
  conv => cbv
  refine Br.mk (fun g => ?_) (fun g => ?_)
  · conv => cbv
    refine RetF.mk [.p (.int .i64 (.sym k))] [] 0 (Re.at [] []) rfl ⟨rfl, rfl, rfl⟩
  · have gf : False := by have g : ¬ 3 < c := g; omega
    cases gf
theorem refWordsA_lx (c w : Int) (hw : w = wordsOf c) : CallF (fun _ => Tryz.prog) 88 [.p (.int .i64 (.sym c))] [] 0 (fun r h n => r = .p (.int .i64 (.sym w)) ∧ h = [] ∧ n = 0) := by
  by_cases h0 : 0 ≤ c ∧ c ≤ 3
  · exact refWords_lx c w h0.1 h0.2 hw
  have hk0 : w = 0 := by rw [hw, wordsOf, if_neg (by omega), if_neg (by omega), if_neg (by omega), if_neg (by omega)]
  refine callF_of_body tok Tryz.func88 (by kernel_rfl) rfl rfl rfl ?_; conv => cbv
  refine Br.mk (fun g => ?_) (fun g => ?_)
  · conv => cbv
    refine RetF.mk [.p (.int .i64 (.sym w))] [] 0 (Re.at [] []) rfl ⟨rfl, rfl, rfl⟩
  have g : ¬ c < 0 := g
  conv => cbv
  refine Br.mk (fun g => ?_) (fun g => ?_)
  · conv => cbv
    refine RetF.mk [.p (.int .i64 (.sym w))] [] 0 (Re.at [] []) rfl ⟨rfl, rfl, rfl⟩
  · have gf : False := by have g : ¬ 3 < c := g; omega
    cases gf
end Go.Proofs.YtllafhhnciobhaaGreatDoor
