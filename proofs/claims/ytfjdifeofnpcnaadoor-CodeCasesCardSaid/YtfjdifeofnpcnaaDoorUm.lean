/-
  Law 2, CodeCases.
-/
import Derived.Test.YtfjdifeofnpcnaaDoorBf

import Derived.Test.YtfjdifeofnpcnaaDoorUl


namespace Go.Proofs.YtfjdifeofnpcnaaDoor

open Go Go.LX
set_option maxRecDepth 100000
set_option linter.unusedVariables false
set_option linter.unusedSimpArgs false
def nPV (l : List Int) : List PV := l.map fun z => .int .i64 (.sym z)
theorem nPV_get {l : List Int} {i : Nat} {z : Int} (h : l[i]? = some z) : (nPV l)[i]? = some (.int .i64 (.sym z)) := by rw [nPV, List.getElem?_map, h]; rfl
/-- A case that sends, or takes, at a place that is told. -/
def CasK (x : Cs) : Prop := (x.k = 1 ∨ x.k = 2) ∧ (0 ≤ x.ch ∧ x.ch ≤ 5) ∧ (0 ≤ x.reg ∧ x.reg ≤ 5) ∧ (0 ≤ x.to ∧ x.to ≤ 9999)
theorem cask_line {x : Cs} (h : CasK x) : caseL x = caseB x.k :: regB x.ch :: regB x.reg :: Lib.itoa x.to := by
  have e : cshape x.k = [97, 98, 110] := by unfold cshape; rw [if_neg (by have := h.1; omega)]
  unfold caseL
  rw [e]
  show _ :: fieldsL _ ⟨x.ch, x.reg, x.to⟩ = _
  rw [fl_abn]
theorem cask_len : ∀ l : List Cs, (∀ x ∈ l, CasK x) → (l.flatMap caseL).length ≤ 7 * l.length
  | [], _ => by simp
  | x :: l, h => by
    have ih := cask_len l (fun y hy => h y (by simp [hy]))
    have hx := h x (by simp)
    have := itoa_four hx.2.2.2
    rw [List.flatMap_cons, List.length_append, cask_line hx, List.length_cons]
    simp only [List.length_cons]; omega
theorem cask_shp {x : Cs} (h : CasK x) : Shp3 (cshape x.k) x.f := by
  have e : cshape x.k = [97, 98, 110] := by unfold cshape; rw [if_neg (by have := h.1; omega)]
  rw [e]
  exact shp3_abn h.2.1 h.2.2.1 h.2.2.2
theorem cask_cshp : ∀ l : List Cs, (∀ x ∈ l, CasK x) → CShpL l
  | [], _ => trivial
  | x :: l, h => ⟨⟨by have := (h x (by simp)).1; omega, cask_shp (h x (by simp)), fun hk => by have := (h x (by simp)).1; omega⟩, cask_cshp l (fun y hy => h y (by simp [hy]))⟩
theorem cask_else (t : Int) (ht : 0 ≤ t ∧ t ≤ 9999) : ∀ l : List Cs, (∀ x ∈ l, CasK x) → CShpL (l ++ [⟨3, 0, 0, t⟩])
  | [], _ => ⟨⟨.inr (.inr rfl), shp3_n (n := t) ht, fun _ => rfl⟩, trivial⟩
  | x :: l, h => ⟨⟨by have := (h x (by simp)).1; omega, cask_shp (h x (by simp)), fun hk => by have := (h x (by simp)).1; omega⟩, cask_else t ht l (fun y hy => h y (by simp [hy]))⟩
/-- Behind cases that are ones: what is left is read. -/
theorem cask_read : ∀ (l : List Cs) (n : Nat) (t : List UInt8) (acc : List Cs), (∀ x ∈ l, CasK x) → (∀ c, t.head? = some c → isD c = false) → choiceB (l.length + n) (l.flatMap caseL ++ t) acc = choiceB n t (acc ++ l)
  | [], n, t, acc, _, _ => by simp
  | x :: l, n, t, acc, h, ht => by
    have hx := h x (by simp)
    have e : (x :: l).flatMap caseL ++ t = caseB x.k :: (fieldsL (cshape x.k) x.f ++ (l.flatMap caseL ++ t)) := by rw [List.flatMap_cons]; unfold caseL; simp
    have hh : ∀ c, (l.flatMap caseL ++ t).head? = some c → isD c = false := by
      intro c hc
      cases l with
      | nil => exact ht c hc
      | cons d l => exact caseL_head (d :: l) c (by simpa [caseL] using hc)
    have e2 : rdB (cshape x.k) (fieldsL (cshape x.k) x.f ++ (l.flatMap caseL ++ t)) .zero = some (x.f, l.flatMap caseL ++ t) := rd_fwd _ _ _ hh (cask_shp hx) (cshape_ok _).1 (cshape_ok _).2
    have hk := hx.1
    rw [e, List.length_cons, show l.length + 1 + n = (l.length + n) + 1 by omega, choiceB, case_sign (by omega), if_neg (by omega), e2]
    simp only
    rw [if_neg (by omega), show (⟨x.k, x.f.a, x.f.b, x.f.n⟩ : Cs) = x from rfl, cask_read l n t _ (fun y hy => h y (by simp [hy])) ht]
    simp
theorem cask_fuel (l : List Cs) (h : ∀ x ∈ l, CasK x) : l.length ≤ (l.flatMap caseL).length := by
  induction l with
  | nil => simp
  | cons x l ih =>
    have := ih (fun y hy => h y (by simp [hy]))
    rw [List.flatMap_cons, List.length_append, cask_line (h x (by simp))]
    simp only [List.length_cons]; omega
theorem cask_none (l : List Cs) (h : ∀ x ∈ l, CasK x) (t : List UInt8) (ht : ∀ c, t.head? = some c → isD c = false) (hn : ∀ n acc, choiceB n t acc = none) : decB (83 :: (l.flatMap caseL ++ t)) = none := by
  have hf := cask_fuel l h
  rw [decB, show opV [83] = 21 by rfl, if_neg (by decide), if_pos rfl]
  have e : (l.flatMap caseL ++ t).length + 2 = l.length + ((l.flatMap caseL ++ t).length + 2 - l.length) := by rw [List.length_append]; omega
  rw [e, cask_read l _ t [] h ht, hn]
  rfl
theorem bad_1 (n : Nat) (acc : List Cs) : choiceB n [101, 49, 115, 97, 98, 49] acc = none := by cases n <;> rfl
theorem bad_2 (n : Nat) (acc : List Cs) : choiceB n [115, 97, 49] acc = none := by cases n <;> rfl
theorem bad_3 (n : Nat) (acc : List Cs) : choiceB n [101] acc = none := by cases n <;> rfl
def xI (l : List Cs) : Is := ⟨21, 0, 0, 0, l⟩
theorem line_X (l : List Cs) : lineOf (xI l) = 83 :: l.flatMap caseL := rfl
theorem cask_X {l : List Cs} (h : ∀ x ∈ l, CasK x) (h0 : l ≠ []) : Shp (xI l) := by unfold Shp; rw [if_pos (show (xI l).op = 21 from rfl)]; exact ⟨rfl, rfl, rfl, h0, cask_cshp l h⟩
theorem cask_Y {l : List Cs} (h : ∀ x ∈ l, CasK x) {t : Int} (ht : 0 ≤ t ∧ t ≤ 9999) : Shp (xI (l ++ [⟨3, 0, 0, t⟩])) := by unfold Shp; rw [if_pos (show (xI (l ++ [⟨3, 0, 0, t⟩])).op = 21 from rfl)]; exact ⟨rfl, rfl, rfl, (by show l ++ _ ≠ []; simp), cask_else t ht l h⟩
theorem clean_X {l : List Cs} (h : ∀ x ∈ l, CasK x) {t : List UInt8} (ht : Clean t) : Clean (83 :: (l.flatMap caseL ++ t)) := by
  refine clean_cons (by decide) ?_
  induction l with
  | nil => exact ht
  | cons x l ih =>
    rw [List.flatMap_cons, List.append_assoc]
    refine clean_app ?_ (ih (fun y hy => h y (by simp [hy])))
    exact clean_cons (case_clean x.k) (fields_clean (shp3_regs (cask_shp (h x (by simp)))))
theorem dec_bad {l : List Cs} (h : ∀ x ∈ l, CasK x) (h6 : l.length ≤ 6) {t : List UInt8} (ht : Clean t) (hl : t.length ≤ 10) (hh : ∀ c, t.head? = some c → isD c = false) (hn : ∀ n acc, choiceB n t acc = none) : decodeV (bytesOfL (83 :: (l.flatMap caseL ++ t))) = ([], 1, 5) := by
  have h1 := cask_len l h
  rw [dec_line _ (clean_X h ht) (by simp) (by rw [List.length_cons, List.length_append]; omega), cask_none l h t hh hn]
theorem dec_good {x : Is} (h : Shp x) (hl : (lineOf x).length ≤ 100) : decodeV (bytesOfL (lineOf x)) = ([x], 0, 0) := by
  rw [dec_line _ (line_clean2 (shp_wl h)) (lineOf_ne x) (by omega), dec_fwd h]
theorem dec_empty : decodeV (bytesOfL [83]) = ([], 1, 5) := by
  rw [dec_line [83] (by unfold Clean; decide) (by simp) (by decide), show decB [83] = none by rfl]
theorem else_line (t : Int) : caseL ⟨3, 0, 0, t⟩ = 101 :: Lib.itoa t := by
  show caseB 3 :: fieldsL [110] ⟨0, 0, t⟩ = _
  rw [fl_n]; rfl
theorem line_Y (l : List Cs) (t : Int) : lineOf (xI (l ++ [⟨3, 0, 0, t⟩])) = 83 :: (l.flatMap caseL ++ 101 :: Lib.itoa t) := by
  rw [line_X, List.flatMap_append]
  simp [else_line]
set_option maxHeartbeats 8000000 in
theorem codeCases_lx (ks ch : List Int) (k c : Int) (K H : List PV) (t0 : Int) (o : Unit → Obj) (ho : IsPow o) (hk : k = ks.length) (hc : c = ch.length) (hK : K = nPV ks) (hH : H = nPV ch) (hks : ks.length ≤ maxLen) (hch : ch.length ≤ maxLen) :
    CallF (fun _ => Tryd.prog) 4 [.p (.vsl (.sym k) true K), .p (.vsl (.sym c) true H), .p (.int .i64 (.sym t0))] [(0, .fix 0 o)] 1 (fun r h n => r = .p (.bool true)) := by
  refine callF_of_bodyB tok Tryd.func4 (by kernel_rfl) rfl rfl rfl [4] ?_; conv => cbv
  refine Fit.wrap fun xn hxn => ?_
  have hxn : xn = IntKind.u64.wrap t0 := hxn
  have hx0 : 0 ≤ xn := by rw [hxn]; simp [IntKind.wrap, IntKind.bits, IntKind.signed]; omega
  clear hxn
  conv => cbv
  refine Sum.mk fun tn htn => ?_
  have htn : tn = xn % 100 := (show tn = xn.tmod 100 from htn).trans (Int.tmod_eq_emod_of_nonneg hx0)
  conv => cbv
  refine Fit.mk (by show (-9223372036854775808 : Int) ≤ tn; omega) (by show tn ≤ 9223372036854775807; omega) fun u hu => ?_
  have hu : u = tn := hu
  have hu0 : 0 ≤ u ∧ u < 100 := by omega
  clear hu htn hx0
  conv => cbv
  refine JoinF.mk (fun s => ∃ (j : Int) (y : ByteArray) (M : List PV) (acc : List Cs), s = ⟨.undef :: .undef :: .p (.int .i64 (.sym u)) :: (undefs 4 ++ .ptr 1 (.lit 0) :: .p (.str fun _ => y) :: undefs 179), [(0, .fix 0 o), (1, .mix [.p (.int .i64 (.sym 21)), .p (.int .i64 (.sym 0)), .p (.int .i64 (.sym 0)), .p (.int .i64 (.sym 0)), .sl 2 38 4 (.lit 0) (.sym j)]), (2, .pure true M)], 3⟩ ∧ y = bytesOfL (83 :: acc.flatMap caseL) ∧ M = csV acc ∧ j = acc.length ∧ (∀ x ∈ acc, CasK x) ∧ acc.length ≤ 6) ?_ ?_
  · conv => cbv
    refine LoopF.mk (fun kk s => ∃ (i j : Int) (y : ByteArray) (M : List PV) (acc : List Cs), s = ⟨.p (.vsl (.sym k) true K) :: .p (.vsl (.sym c) true H) :: .p (.int .i64 (.sym u)) :: (undefs 4 ++ .ptr 1 (.lit 0) :: .p (.str fun _ => y) :: .p (.int .i64 (.sym i)) :: undefs 178), [(0, .fix 0 o), (1, .mix [.p (.int .i64 (.sym 21)), .p (.int .i64 (.sym 0)), .p (.int .i64 (.sym 0)), .p (.int .i64 (.sym 0)), .sl 2 38 4 (.lit 0) (.sym j)]), (2, .pure true M)], 3⟩ ∧ y = bytesOfL (83 :: acc.flatMap caseL) ∧ M = csV acc ∧ j = acc.length ∧ (∀ x ∈ acc, CasK x) ∧ j = i ∧ 0 ≤ i ∧ i ≤ 6 ∧ kk = (6 - i).toNat) 6 _
      (Re.at [(0, 0), (1, 1)] [2]) ⟨0, 0, _, [], [], rfl, rfl, rfl, rfl, (fun x hx => by cases hx), rfl, by omega, by omega, by omega⟩ ?_
    rintro kk s ⟨i, j, y, M, acc, rfl, hy, hM, hj, hG, hji, hi0, hi6, hkk⟩
    have hl6 : acc.length ≤ 6 := by omega
    have hys0 : y.size ≤ 50 := by rw [hy, bol_size, List.length_cons]; have := cask_len acc hG; omega
    conv => cbv
    refine Br.mk (fun g1 => ?_) (fun g1 => ?_)
    case refine_2 =>
      conv => cbv
      refine Joined.mk _ (Re.at [(0, 0), (1, 1), (2, 2)] []) ⟨j, y, M, acc, rfl, hy, hM, hj, hG, hl6⟩
    have g1 : i < k := g1
    conv => cbv
    refine Br.mk (fun g2 => ?_) (fun g2 => ?_)
    case refine_2 =>
      conv => cbv
      refine Joined.mk _ (Re.at [(0, 0), (1, 1), (2, 2)] []) ⟨j, y, M, acc, rfl, hy, hM, hj, hG, hl6⟩
    have g2 : i < c := g2
    conv => cbv
    refine Br.mk (fun g3 => ?_) (fun g3 => ?_)
    case refine_2 =>
      conv => cbv
      refine Joined.mk _ (Re.at [(0, 0), (1, 1), (2, 2)] []) ⟨j, y, M, acc, rfl, hy, hM, hj, hG, hl6⟩
    have g3 : i < 6 := g3
    conv => cbv
    obtain ⟨a, ha⟩ : ∃ a, ks[i.toNat]? = some a := ⟨_, List.getElem?_eq_getElem (by omega)⟩
    obtain ⟨b, hb⟩ : ∃ b, ch[i.toNat]? = some b := ⟨_, List.getElem?_eq_getElem (by omega)⟩
    have hag := nPV_get ha
    rw [← hK] at hag
    have hbg := nPV_get hb
    rw [← hH] at hbg
    obtain ⟨k', rfl⟩ : ∃ k', kk = k' + 1 := ⟨kk - 1, by omega⟩
    conv => cbv
    refine drawn_sound tok (by kernel_rfl) [(21, [20, 19, 18, 17, 16, 15, 14, 13, 12, 11, 10, 9, 8, 7, 6, 5, 4, 3, 2, 1, 0]), (22, [])] [0, 1, 2, 3, 4, 5, 6, 7, 8, 9, 10, 11, 12, 13, 14, 15, 16, 17, 18, 19, 20, 21, 22] (by kernel_rfl) ?_; conv => cbv
    refine Need.mk ⟨by show (0 : Int) ≤ i; omega, by show i < k; omega⟩ ?_
    conv => cbv
    refine Cell.at i i.toNat hag (by simp [I.val]) (by omega) ?_
    conv => cbv
    refine Fit.wrap fun x1 hx1 => ?_
    have hx1 : x1 = IntKind.u64.wrap a := hx1
    have hx10 : 0 ≤ x1 := by rw [hx1]; simp [IntKind.wrap, IntKind.bits, IntKind.signed]; omega
    clear hx1
    conv => cbv
    refine Sum.mk fun t1 ht1 => ?_
    have ht1 : t1 = x1 % 2 := (show t1 = x1.tmod 2 from ht1).trans (Int.tmod_eq_emod_of_nonneg hx10)
    conv => cbv
    refine Fit.mk (by show (-9223372036854775808 : Int) ≤ t1; omega) (by show t1 ≤ 9223372036854775807; omega) fun m1 hm1 => ?_
    have hm1 : m1 = t1 := hm1
    have hm1b : 0 ≤ m1 ∧ m1 < 2 := by omega
    clear hm1 ht1 hx10
    conv => cbv
    refine Fit.mk (by show (-9223372036854775808 : Int) ≤ 1 + m1; omega) (by show 1 + m1 ≤ 9223372036854775807; omega) fun kd hkd => ?_
    have hkd : kd = 1 + m1 := hkd
    conv => cbv
    refine Need.mk ⟨by show (0 : Int) ≤ i; omega, by show i < c; omega⟩ ?_
    conv => cbv
    refine Cell.at i i.toNat hbg (by simp [I.val]) (by omega) ?_
    conv => cbv
    refine Fit.wrap fun x2 hx2 => ?_
    have hx2 : x2 = IntKind.u64.wrap b := hx2
    have hx20 : 0 ≤ x2 := by rw [hx2]; simp [IntKind.wrap, IntKind.bits, IntKind.signed]; omega
    clear hx2
    conv => cbv
    refine Sum.mk fun t2 ht2 => ?_
    have ht2 : t2 = x2 % 6 := (show t2 = x2.tmod 6 from ht2).trans (Int.tmod_eq_emod_of_nonneg hx20)
    conv => cbv
    refine Fit.mk (by show (-9223372036854775808 : Int) ≤ t2; omega) (by show t2 ≤ 9223372036854775807; omega) fun m2 hm2 => ?_
    have hm2 : m2 = t2 := hm2
    have hm2b : 0 ≤ m2 ∧ m2 < 6 := by omega
    clear hm2 ht2 hx20
    conv => cbv
    refine Sum.mk fun rg hrg => ?_
    have hrg : rg = i := by rw [show rg = i.tmod 6 from hrg, Int.tmod_eq_emod_of_nonneg hi0]; omega
    conv => cbv
    refine Fit.mk (by show (-9223372036854775808 : Int) ≤ u + i; omega) (by show u + i ≤ 9223372036854775807; omega) fun tq htq => ?_
    have htq : tq = u + i := htq
    conv => cbv
    obtain ⟨yd, hyd⟩ : ∃ yd, yd = bytesOfL (Lib.itoa tq) := ⟨_, rfl⟩
    have hydl := itoa_len (n := tq) (by omega) 3 (by show tq < ((10000 : Nat) : Int); omega)
    have hyds : yd.size ≤ 4 := by rw [hyd, bol_size]; exact hydl
    refine read_sound tok (by kernel_rfl) [] [21] [(16, [21, 20, 19, 7, 6, 5, 4, 3, 2, 1, 0])] [0, 1, 2, 3, 4, 5, 6, 7, 8, 9, 10, 11, 12, 13, 14, 15, 19, 20, 21, 16, 17, 18, 22, 23] (by kernel_rfl) ?_
    conv => cbv
    refine Fit.mk (by show (-9223372036854775808 : Int) ≤ kd - 1; omega) (by show kd - 1 ≤ 9223372036854775807; omega) fun kd1 hkd1 => ?_
    have hkd1 : kd1 = kd - 1 := hkd1
    conv => cbv
    refine Need.mk ⟨by show (0 : Int) ≤ kd1; omega, by show kd1 ≤ kd; omega, by show kd ≤ ((2 : Nat) : Int); omega⟩ ?_
    conv => cbv
    refine Str.mk fun ys hys => ?_
    have hysq : ys = bytesOfL [caseB kd] := by
      have hm : m1 = 0 ∨ m1 = 1 := by omega
      rw [show ys = (bytesOfL [115, 114]).extract kd1.toNat kd.toNat from hys, hkd1, hkd]
      rcases hm with h | h <;> rw [h] <;> rfl
    clear hys
    have hyss : ys.size = 1 := by rw [hysq]; rfl
    conv => cbv
    refine Need.mk (by show y.size + ys.size ≤ 9223372036854775807; omega) ?_
    conv => cbv
    refine Str.mk fun y1 hy1 => ?_
    have hy1 : y1 = y ++ ys := hy1
    have hy1s : y1.size ≤ 60 := by rw [hy1, ByteArray.size_append]; omega
    conv => cbv
    refine Fit.mk (by show (0 : Int) ≤ m2; omega) (by show m2 ≤ 255; omega) fun b1 hb1 => ?_
    have hb1 : b1 = m2 := hb1
    conv => cbv
    refine Fit.mk (by show (0 : Int) ≤ 97 + b1; omega) (by show 97 + b1 ≤ 255; omega) fun b2 hb2 => ?_
    have hb2 : b2 = 97 + b1 := hb2
    conv => cbv
    refine Fit.mk (by show (0 : Int) ≤ rg; omega) (by show rg ≤ 255; omega) fun b3 hb3 => ?_
    have hb3 : b3 = rg := hb3
    conv => cbv
    refine Fit.mk (by show (0 : Int) ≤ 97 + b3; omega) (by show 97 + b3 ≤ 255; omega) fun b4 hb4 => ?_
    have hb4 : b4 = 97 + b3 := hb4
    conv => cbv
    refine ReadF.mk (.p (.str fun _ => yd)) (fun h' n' hbR hnR => callF_read ((digits_ok tq (by omega) (by omega)).mono (fun r h n ⟨⟨y9, q1, q2⟩, q3, q4⟩ => ⟨by rw [q1, q2, ← hyd], q3, q4⟩)) [] rfl trivial rfl rfl rfl rfl) ?_
    conv => cbv
    refine Need.mk (by show (2 : Int) ≤ ((2 : Nat) : Int); omega) ?_
    conv => cbv
    refine Bytes.mk [regB m2, regB rg] ⟨by show b2 = ((regB m2).toNat : Int); rw [regB_nat (by omega) (by omega)]; omega, by show b4 = ((regB rg).toNat : Int); rw [regB_nat (by omega) (by omega)]; omega, trivial⟩ fun yb hyb => ?_
    have hybs : yb.size = 2 := by rw [hyb]; rfl
    have hybq : yb = bytesOfL [regB m2, regB rg] := hyb
    conv => cbv
    refine Need.mk (by show y1.size + yb.size ≤ 9223372036854775807; omega) ?_
    conv => cbv
    refine Str.mk fun y2 hy2 => ?_
    have hy2 : y2 = y1 ++ yb := hy2
    have hy2s : y2.size ≤ 62 := by rw [hy2, ByteArray.size_append]; omega
    conv => cbv
    refine Need.mk (by show y2.size + yd.size ≤ 9223372036854775807; omega) ?_
    conv => cbv
    refine Str.mk fun y3 hy3 => ?_
    have hy3 : y3 = y2 ++ yd := hy3
    have hCK : CasK ⟨kd, m2, rg, tq⟩ := ⟨by show kd = 1 ∨ kd = 2; omega, by show 0 ≤ m2 ∧ m2 ≤ 5; omega, by show 0 ≤ rg ∧ rg ≤ 5; omega, by show 0 ≤ tq ∧ tq ≤ 9999; omega⟩
    have hy4 : y3 = bytesOfL (83 :: List.flatMap caseL (acc ++ [(⟨kd, m2, rg, tq⟩ : Cs)])) := by
      rw [hy3, hy2, hy1, hy, hysq, hybq, hyd, bol_add, bol_add, bol_add]
      congr 1
      rw [List.flatMap_append]
      simp [cask_line hCK]
    clear hy3 hy2 hy1 hyb hybq hysq
    conv => cbv
    refine Room.new rfl ?_
    conv => cbv
    refine Room.new ⟨?_, ?_, ?_⟩ ?_
    · show (M.length : Int) = j * 4; rw [hM, csV_length, hj]; omega
    · show (j + 1) * 32 ≤ 140737488355328; omega
    · show j + 1 ≤ 9223372036854775807; omega
    conv => cbv
    refine Upd.mk fun M2 hM2 => ?_
    have hM2 : M2 = csV (acc ++ [⟨kd, m2, rg, tq⟩]) := by rw [csV_snoc, ← hM]; exact hM2
    conv => cbv
    refine Sum.mk fun j2 hj2 => ?_
    have hj2 : j2 = j + 1 := hj2
    have hj3 : j2 = ((acc ++ [⟨kd, m2, rg, tq⟩] : List Cs).length : Int) := by rw [List.length_append, hj2, hj]; rfl
    conv => cbv
    refine Fit.mk (by show (-9223372036854775808 : Int) ≤ i + 1; omega) (by show i + 1 ≤ 9223372036854775807; omega) fun i2 hi2 => ?_
    have hi2 : i2 = i + 1 := hi2
    have hG2 : ∀ x ∈ acc ++ [(⟨kd, m2, rg, tq⟩ : Cs)], CasK x := by
      intro x hx
      rcases List.mem_append.1 hx with hx | hx
      · exact hG x hx
      · obtain rfl : x = ⟨kd, m2, rg, tq⟩ := by simpa using hx
        exact hCK
    conv => cbv
    refine Again.mk k' _ (Nat.lt_succ_self _) (Re.at [(0, 0), (1, 1), (6, 2)] []) ⟨i2, j2, y3, M2, acc ++ [⟨kd, m2, rg, tq⟩], rfl, hy4, hM2, hj3, hG2, by omega, by omega, by omega, by omega⟩
  · rintro s ⟨j, y, M, acc, rfl, hy, hM, hj, hG, hl6⟩
    have hll := cask_len acc hG
    have hys : y.size ≤ 50 := by rw [hy, bol_size, List.length_cons]; omega
    obtain ⟨D1, hD1⟩ : ∃ D, D = decodeV y := ⟨_, rfl⟩
    conv => cbv
    refine callF_frame (decode_lx y (by omega)) [] rfl trivial rfl rfl (fun r2 h' n' hrr => ?_)
    obtain ⟨f1, f2, f3⟩ := hrr
    subst f2 f3
    rw [← hD1] at f1
    cases f1 with
    | mk k1 a1 e1 L1 x1 hx1 hk1 hL1 =>
    conv => cbv
    refine Need.mk (by show y.size + 1 ≤ 9223372036854775807; omega) ?_
    conv => cbv
    refine Str.mk fun ya hya => ?_
    have hya : ya = y ++ bytesOfL [101] := hya
    have hyas : ya.size ≤ 51 := by rw [hya, ByteArray.size_append]; show y.size + 1 ≤ 51; omega
    conv => cbv
    refine callF_frame (digits_ok u (by omega) (by omega)) [] rfl trivial rfl rfl (fun r2 h' n' hrr => ?_)
    obtain ⟨⟨yd, d1, hyd⟩, d2, d3⟩ := hrr
    subst d1 d2 d3
    have hydl := itoa_len (n := u) (by omega) 3 (by show u < ((10000 : Nat) : Int); omega)
    have hyds : yd.size ≤ 4 := by rw [hyd, bol_size]; exact hydl
    conv => cbv
    refine Need.mk (by show ya.size + yd.size ≤ 9223372036854775807; omega) ?_
    conv => cbv
    refine Str.mk fun yb hyb => ?_
    have hyb : yb = ya ++ yd := hyb
    have hybs : yb.size ≤ 60 := by rw [hyb, ByteArray.size_append]; omega
    have hybl : yb = bytesOfL (lineOf (xI (acc ++ [⟨3, 0, 0, u⟩]))) := by rw [hyb, hya, hyd, hy, bol_add, bol_add, line_Y]; simp
    have hd2 : decodeV yb = ([xI (acc ++ [⟨3, 0, 0, u⟩])], 0, 0) := by rw [hybl]; exact dec_good (cask_Y hG (by omega)) (by rw [hybl, bol_size] at hybs; omega)
    conv => cbv
    refine callF_frame (decode_lx yb (by omega)) [] rfl trivial rfl rfl (fun r2 h' n' hrr => ?_)
    obtain ⟨f1, f2, f3⟩ := hrr
    subst f2 f3
    rw [hd2] at f1
    cases f1 with
    | mk k2 a2 e2 L2 x2 hx2 hk2 hL2 =>
    conv => cbv
    obtain ⟨p1, p2⟩ := Prod.mk.inj hx2
    obtain ⟨p3, p4⟩ := Prod.mk.inj p2
    refine Room.new (by show (M.length : Int) = j * 4; rw [hM, csV_length, hj]; omega) ?_
    conv => cbv
    refine Need.mk ⟨by show j * 32 ≤ 140737488355328; omega, by show j ≤ 9223372036854775807; omega⟩ ?_
    conv => cbv
    refine Room.new rfl ?_
    conv => cbv
    refine Room.new ⟨?_, ?_, ?_⟩ ?_
    · show (M.length : Int) = j * 4; rw [hM, csV_length, hj]; omega
    · show (j + 1) * 32 ≤ 140737488355328; omega
    · show j + 1 ≤ 9223372036854775807; omega
    conv => cbv
    refine Upd.mk fun M3 hM3 => ?_
    conv => cbv
    refine Sum.mk fun j3 hj3 => ?_
    have hj3 : j3 = j + 1 := hj3
    have hM3 : M3 = M ++ [.int .i64 (.lit 3), .int .i64 (.lit 0), .int .i64 (.lit 0), .int .i64 (.sym u)] := hM3
    conv => cbv
    refine Need.mk (by show y.size + 6 ≤ 9223372036854775807; omega) ?_
    conv => cbv
    refine Str.mk fun yc hyc => ?_
    have hyc : yc = y ++ bytesOfL [101, 49, 115, 97, 98, 49] := hyc
    have hycs : yc.size ≤ 60 := by rw [hyc, ByteArray.size_append]; show y.size + 6 ≤ 60; omega
    have hdyc : decodeV yc = ([], 1, 5) := by
      rw [hyc, hy, bol_add]
      exact dec_bad hG hl6 (by unfold Clean; decide) (by decide) (by intro c hc; simp at hc; subst hc; rfl) bad_1
    conv => cbv
    refine callF_frame (decode_lx yc (by omega)) [] rfl trivial rfl rfl (fun r2 h' n' hrr => ?_)
    obtain ⟨f1, f2, f3⟩ := hrr
    subst f2 f3
    rw [hdyc] at f1
    cases f1 with
    | mk k3 a3 e3 L3 x3 hx3 hk3 hL3 =>
    conv => cbv
    have hb3 : e3 = 5 := by
      obtain ⟨_, w⟩ := Prod.mk.inj hx3
      exact (Prod.mk.inj w).2.symm
    refine Need.mk (by show y.size + 3 ≤ 9223372036854775807; omega) ?_
    conv => cbv
    refine Str.mk fun ye hye => ?_
    have hye : ye = y ++ bytesOfL [115, 97, 49] := hye
    have hyes : ye.size ≤ 60 := by rw [hye, ByteArray.size_append]; show y.size + 3 ≤ 60; omega
    have hdye : decodeV ye = ([], 1, 5) := by
      rw [hye, hy, bol_add]
      exact dec_bad hG hl6 (by unfold Clean; decide) (by decide) (by intro c hc; simp at hc; subst hc; rfl) bad_2
    conv => cbv
    refine callF_frame (decode_lx ye (by omega)) [] rfl trivial rfl rfl (fun r2 h' n' hrr => ?_)
    obtain ⟨f1, f2, f3⟩ := hrr
    subst f2 f3
    rw [hdye] at f1
    cases f1 with
    | mk k4 a4 e4 L4 x4 hx4 hk4 hL4 =>
    conv => cbv
    have hb4 : e4 = 5 := by
      obtain ⟨_, w⟩ := Prod.mk.inj hx4
      exact (Prod.mk.inj w).2.symm
    refine Need.mk (by show y.size + 1 ≤ 9223372036854775807; omega) ?_
    conv => cbv
    refine Str.mk fun yf hyf => ?_
    have hyf : yf = y ++ bytesOfL [101] := hyf
    have hyfs : yf.size ≤ 60 := by rw [hyf, ByteArray.size_append]; show y.size + 1 ≤ 60; omega
    have hdyf : decodeV yf = ([], 1, 5) := by
      rw [hyf, hy, bol_add]
      exact dec_bad hG hl6 (by unfold Clean; decide) (by decide) (by intro c hc; simp at hc; subst hc; rfl) bad_3
    conv => cbv
    refine callF_frame (decode_lx yf (by omega)) [] rfl trivial rfl rfl (fun r2 h' n' hrr => ?_)
    obtain ⟨f1, f2, f3⟩ := hrr
    subst f2 f3
    rw [hdyf] at f1
    cases f1 with
    | mk k5 a5 e5 L5 x5 hx5 hk5 hL5 =>
    conv => cbv
    have hb5 : e5 = 5 := by
      obtain ⟨_, w⟩ := Prod.mk.inj hx5
      exact (Prod.mk.inj w).2.symm
    refine Br.mk (fun g7 => ?_) (fun g7 => ?_)
    · have g7 : 0 < j := g7
      have hne : acc ≠ [] := fun h => by rw [h] at hj; simp at hj; omega
      have hd1 : D1 = ([xI acc], 0, 0) := by rw [hD1, hy, ← line_X]; exact dec_good (cask_X hG hne) (by rw [line_X, List.length_cons]; omega)
      obtain ⟨q1, q2⟩ := Prod.mk.inj (hd1.symm.trans hx1)
      obtain ⟨q3, q4⟩ := Prod.mk.inj q2
      conv => cbv
      refine callF_frame (awake02_lx o ho) [(0, 0)] rfl (by simp [hmapOk, nget, hget, renB, okB, renV, renVs, rn, okVs, okV]) rfl rfl (fun r2 h' n' ⟨d1, d2, d3⟩ => ?_)
      subst d1 d2 d3
      conv => cbv
      refine Br.yes (by show e1 = 0; exact q4.symm) ?_
      conv => cbv
      obtain ⟨LX0, hLX0⟩ : ∃ LX : List PV, LX = [.int .i64 (.sym 21), .int .i64 (.sym 0), .int .i64 (.sym 0), .int .i64 (.sym 0), .vsl (.sym j) true M] := ⟨_, rfl⟩
      have hLV0 : LX0 = isV [xI acc] := by rw [hLX0, hM, hj]; rfl
      refine CallF.re (args0 := [.p (.vsl (.sym k1) true L1), .sl 7 36 5 (.lit 0) (.sym 1)]) (h' := [(7, .pure true [.int .i64 (.sym 21), .int .i64 (.sym 0), .int .i64 (.sym 0), .int .i64 (.sym 0), .vsl (.sym j) true M]), (0, .fix 0 o), (6, .pure true M3), (3, .mix [.p (.int .i64 (.sym 21)), .p (.int .i64 (.sym 0)), .p (.int .i64 (.sym 0)), .p (.int .i64 (.sym 0)), .sl 6 38 4 (.lit 0) (.sym j3)])]) (Re.at [(7, 7), (0, 0), (6, 6), (3, 3)] []) ?_
      refine CallF.re (args0 := [.p (.vsl (.sym k1) true L1), .p (.vsl (.sym 1) true [.int .i64 (.sym 21), .int .i64 (.sym 0), .int .i64 (.sym 0), .int .i64 (.sym 0), .vsl (.sym j) true M])]) (h' := [(0, .fix 0 o), (6, .pure true M3), (3, .mix [.p (.int .i64 (.sym 21)), .p (.int .i64 (.sym 0)), .p (.int .i64 (.sym 0)), .p (.int .i64 (.sym 0)), .sl 6 38 4 (.lit 0) (.sym j3)])]) (Re.at [(0, 0), (6, 6), (3, 3)] []) ?_
      rw [← hLX0]
      refine callF_frame (instrs_lx x1 [xI acc] k1 1 L1 LX0 hk1 rfl hL1 hLV0 (by rw [← q1]; show 1 ≤ 3000000; decide) (fun x hx => by rw [← q1] at hx; rw [List.mem_singleton] at hx; subst hx; show _ ≤ 3000000; simp [xI]; omega)) [] rfl trivial rfl rfl (fun r2 h' n' hrr => ?_)
      obtain ⟨⟨b9, d1, hb9⟩, d2, d3⟩ := hrr
      subst d1 d2 d3
      cases b9 with
      | false =>
        have := hb9.2 q1.symm
        cases this
      | true =>
      conv => cbv
      refine Br.yes (by show e2 = 0; exact p4.symm) ?_
      conv => cbv
      obtain ⟨M4, hM4⟩ : ∃ M4, M4 = csV (acc ++ [⟨3, 0, 0, u⟩]) := ⟨_, rfl⟩
      have hj4 : j3 = ((acc ++ [⟨3, 0, 0, u⟩] : List Cs).length : Int) := by rw [List.length_append, hj3, hj]; rfl
      have hle : pvles M3 M4 := by
        rw [hM3, hM4, csV_snoc, ← hM]
        exact pvles_app (pvles_refl _) (by unfold caV; simp [pvles, pvle, I.val])
      unfold pvles at hle
      obtain ⟨LX1, hLX1⟩ : ∃ LX : List PV, LX = [.int .i64 (.sym 21), .int .i64 (.sym 0), .int .i64 (.sym 0), .int .i64 (.sym 0), .vsl (.sym j3) true M4] := ⟨_, rfl⟩
      have hLV1 : LX1 = isV [xI (acc ++ [⟨3, 0, 0, u⟩])] := by rw [hLX1, hj4, hM4]; rfl
      refine CallF.re (args0 := [.p (.vsl (.sym k2) true L2), .sl 8 36 5 (.lit 0) (.sym 1)]) (h' := [(8, .pure true [.int .i64 (.sym 21), .int .i64 (.sym 0), .int .i64 (.sym 0), .int .i64 (.sym 0), .vsl (.sym j3) true M4]), (0, .fix 0 o)]) (Re.at [(8, 8), (0, 0)] []) ?_
      refine CallF.re (args0 := [.p (.vsl (.sym k2) true L2), .p (.vsl (.sym 1) true [.int .i64 (.sym 21), .int .i64 (.sym 0), .int .i64 (.sym 0), .int .i64 (.sym 0), .vsl (.sym j3) true M4])]) (h' := [(0, .fix 0 o)]) (Re.at [(0, 0)] []) ?_
      rw [← hLX1]
      refine callF_frame (instrs_lx x2 [xI (acc ++ [⟨3, 0, 0, u⟩])] k2 1 L2 LX1 hk2 rfl hL2 hLV1 (by rw [← p1]; show 1 ≤ 3000000; decide) (fun x hx => by rw [← p1] at hx; rw [List.mem_singleton] at hx; subst hx; show _ ≤ 3000000; simp [xI]; omega)) [] rfl trivial rfl rfl (fun r2 h' n' hrr => ?_)
      obtain ⟨⟨b9, d1, hb9⟩, d2, d3⟩ := hrr
      subst d1 d2 d3
      cases b9 with
      | false =>
        have := hb9.2 p1.symm
        cases this
      | true =>
      conv => cbv
      refine Br.yes (by show e3 = 5; exact hb3) ?_
      conv => cbv
      refine Br.yes (by show e4 = 5; exact hb4) ?_
      conv => cbv
      refine Br.yes (by show e5 = 5; exact hb5) ?_
      conv => cbv
      refine RetF.mk [.p (.bool true)] [(0, .fix 0 o)] 1 (Re.at [(0, 0)] []) rfl rfl
    · have g7 : ¬ 0 < j := g7
      have hne : acc = [] := List.eq_nil_of_length_eq_zero (by omega)
      have hd1 : D1 = ([], 1, 5) := by rw [hD1, hy, hne]; exact dec_empty
      obtain ⟨q1, q2⟩ := Prod.mk.inj (hd1.symm.trans hx1)
      obtain ⟨q3, q4⟩ := Prod.mk.inj q2
      conv => cbv
      refine callF_frame (awake02_lx o ho) [(0, 0)] rfl (by simp [hmapOk, nget, hget, renB, okB, renV, renVs, rn, okVs, okV]) rfl rfl (fun r2 h' n' ⟨d1, d2, d3⟩ => ?_)
      subst d1 d2 d3
      conv => cbv
      refine Br.no (by show ¬ e1 = 0; rw [← q4]; decide) ?_
      conv => cbv
      refine Br.yes (by show e2 = 0; exact p4.symm) ?_
      conv => cbv
      obtain ⟨M4, hM4⟩ : ∃ M4, M4 = csV (acc ++ [⟨3, 0, 0, u⟩]) := ⟨_, rfl⟩
      have hj4 : j3 = ((acc ++ [⟨3, 0, 0, u⟩] : List Cs).length : Int) := by rw [List.length_append, hj3, hj]; rfl
      have hle : pvles M3 M4 := by
        rw [hM3, hM4, csV_snoc, ← hM]
        exact pvles_app (pvles_refl _) (by unfold caV; simp [pvles, pvle, I.val])
      unfold pvles at hle
      obtain ⟨LX1, hLX1⟩ : ∃ LX : List PV, LX = [.int .i64 (.sym 21), .int .i64 (.sym 0), .int .i64 (.sym 0), .int .i64 (.sym 0), .vsl (.sym j3) true M4] := ⟨_, rfl⟩
      have hLV1 : LX1 = isV [xI (acc ++ [⟨3, 0, 0, u⟩])] := by rw [hLX1, hj4, hM4]; rfl
      refine CallF.re (args0 := [.p (.vsl (.sym k2) true L2), .sl 7 36 5 (.lit 0) (.sym 1)]) (h' := [(7, .pure true [.int .i64 (.sym 21), .int .i64 (.sym 0), .int .i64 (.sym 0), .int .i64 (.sym 0), .vsl (.sym j3) true M4]), (0, .fix 0 o)]) (Re.at [(7, 7), (0, 0)] []) ?_
      refine CallF.re (args0 := [.p (.vsl (.sym k2) true L2), .p (.vsl (.sym 1) true [.int .i64 (.sym 21), .int .i64 (.sym 0), .int .i64 (.sym 0), .int .i64 (.sym 0), .vsl (.sym j3) true M4])]) (h' := [(0, .fix 0 o)]) (Re.at [(0, 0)] []) ?_
      rw [← hLX1]
      refine callF_frame (instrs_lx x2 [xI (acc ++ [⟨3, 0, 0, u⟩])] k2 1 L2 LX1 hk2 rfl hL2 hLV1 (by rw [← p1]; show 1 ≤ 3000000; decide) (fun x hx => by rw [← p1] at hx; rw [List.mem_singleton] at hx; subst hx; show _ ≤ 3000000; simp [xI]; omega)) [] rfl trivial rfl rfl (fun r2 h' n' hrr => ?_)
      obtain ⟨⟨b9, d1, hb9⟩, d2, d3⟩ := hrr
      subst d1 d2 d3
      cases b9 with
      | false =>
        have := hb9.2 p1.symm
        cases this
      | true =>
      conv => cbv
      refine Br.yes (by show e3 = 5; exact hb3) ?_
      conv => cbv
      refine Br.yes (by show e4 = 5; exact hb4) ?_
      conv => cbv
      refine Br.yes (by show e5 = 5; exact hb5) ?_
      conv => cbv
      refine RetF.mk [.p (.bool true)] [(0, .fix 0 o)] 1 (Re.at [(0, 0)] []) rfl rfl
end Go.Proofs.YtfjdifeofnpcnaaDoor
