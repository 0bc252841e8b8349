/-
  What play.Code makes of any instructions (a program that may be).
-/
import Derived.Test.YtfjdifeofnpcnaaDoorBf

import Derived.Test.YtfjdifeofnpcnaaDoorUa

namespace Go.Proofs.YtfjdifeofnpcnaaDoor

open Go Go.LX
set_option maxRecDepth 100000
set_option linter.unusedVariables false
set_option linter.unusedSimpArgs false

theorem modS_lx (v n m : Int) (hm : m = modV v n) (h0 : 0 < n) (h1 : n ≤ 100000) : CallF (fun _ => Tryd.prog) 42 [.p (.int .i64 (.sym v)), .p (.int .i64 (.sym n))] [] 0 (fun r h n' => r = .p (.int .i64 (.sym m)) ∧ h = [] ∧ n' = 0) := by
  refine callF_of_body tok Tryd.func42 (by kernel_rfl) rfl rfl rfl ?_; conv => cbv
  refine Fit.wrap fun xn hxn => ?_
  have hxn : xn = IntKind.u64.wrap v := hxn
  have hx0 : 0 ≤ xn := by rw [hxn]; simp [IntKind.wrap, IntKind.bits, IntKind.signed]; omega
  conv => cbv
  refine Fit.mk (by show (0 : Int) ≤ n; omega) (by show n ≤ 18446744073709551615; omega) fun yn hyn => ?_
  have hyn : yn = n := hyn
  conv => cbv
  refine Need.mk (by show yn ≠ 0; omega) ?_
  conv => cbv
  refine Sum.mk fun tn htn => ?_
  have htn : tn = xn % yn := (show tn = xn.tmod yn from htn).trans (Int.tmod_eq_emod_of_nonneg hx0)
  have ht0 := Int.emod_nonneg xn (show yn ≠ 0 by omega)
  have ht1 := Int.emod_lt_of_pos xn (show (0 : Int) < yn by omega)
  conv => cbv
  refine Fit.mk (by show (-9223372036854775808 : Int) ≤ tn; omega) (by show tn ≤ 9223372036854775807; omega) fun u hu => ?_
  have hu : u = m := by rw [show u = tn from hu, htn, hm, hxn, hyn]; rfl
  conv => cbv
  subst hu
  refine RetF.mk [.p (.int .i64 (.sym u))] [] 0 (Re.at [] []) rfl ⟨rfl, rfl, rfl⟩
theorem modL3_lx (v m : Int) (hm : m = modV v 3) : CallF (fun _ => Tryd.prog) 42 [.p (.int .i64 (.sym v)), .p (.int .i64 (.lit 3))] [] 0 (fun r h n' => r = .p (.int .i64 (.sym m)) ∧ h = [] ∧ n' = 0) := by
  refine callF_of_body tok Tryd.func42 (by kernel_rfl) rfl rfl rfl ?_; conv => cbv
  refine Fit.wrap fun xn hxn => ?_
  have hxn : xn = IntKind.u64.wrap v := hxn
  have hx0 : 0 ≤ xn := by rw [hxn]; simp [IntKind.wrap, IntKind.bits, IntKind.signed]; omega
  conv => cbv
  refine Sum.mk fun tn htn => ?_
  have htn : tn = xn % 3 := (show tn = xn.tmod 3 from htn).trans (Int.tmod_eq_emod_of_nonneg hx0)
  have ht0 := Int.emod_nonneg xn (show 3 ≠ 0 by omega)
  have ht1 := Int.emod_lt_of_pos xn (show (0 : Int) < 3 by omega)
  conv => cbv
  refine Fit.mk (by show (-9223372036854775808 : Int) ≤ tn; omega) (by show tn ≤ 9223372036854775807; omega) fun u hu => ?_
  have hu : u = m := by rw [show u = tn from hu, htn, hm, hxn]; rfl
  conv => cbv
  subst hu
  refine RetF.mk [.p (.int .i64 (.sym u))] [] 0 (Re.at [] []) rfl ⟨rfl, rfl, rfl⟩
theorem modL4_lx (v m : Int) (hm : m = modV v 4) : CallF (fun _ => Tryd.prog) 42 [.p (.int .i64 (.sym v)), .p (.int .i64 (.lit 4))] [] 0 (fun r h n' => r = .p (.int .i64 (.sym m)) ∧ h = [] ∧ n' = 0) := by
  refine callF_of_body tok Tryd.func42 (by kernel_rfl) rfl rfl rfl ?_; conv => cbv
  refine Fit.wrap fun xn hxn => ?_
  have hxn : xn = IntKind.u64.wrap v := hxn
  have hx0 : 0 ≤ xn := by rw [hxn]; simp [IntKind.wrap, IntKind.bits, IntKind.signed]; omega
  conv => cbv
  refine Sum.mk fun tn htn => ?_
  have htn : tn = xn % 4 := (show tn = xn.tmod 4 from htn).trans (Int.tmod_eq_emod_of_nonneg hx0)
  have ht0 := Int.emod_nonneg xn (show 4 ≠ 0 by omega)
  have ht1 := Int.emod_lt_of_pos xn (show (0 : Int) < 4 by omega)
  conv => cbv
  refine Fit.mk (by show (-9223372036854775808 : Int) ≤ tn; omega) (by show tn ≤ 9223372036854775807; omega) fun u hu => ?_
  have hu : u = m := by rw [show u = tn from hu, htn, hm, hxn]; rfl
  conv => cbv
  subst hu
  refine RetF.mk [.p (.int .i64 (.sym u))] [] 0 (Re.at [] []) rfl ⟨rfl, rfl, rfl⟩
theorem modL6_lx (v m : Int) (hm : m = modV v 6) : CallF (fun _ => Tryd.prog) 42 [.p (.int .i64 (.sym v)), .p (.int .i64 (.lit 6))] [] 0 (fun r h n' => r = .p (.int .i64 (.sym m)) ∧ h = [] ∧ n' = 0) := by
  refine callF_of_body tok Tryd.func42 (by kernel_rfl) rfl rfl rfl ?_; conv => cbv
  refine Fit.wrap fun xn hxn => ?_
  have hxn : xn = IntKind.u64.wrap v := hxn
  have hx0 : 0 ≤ xn := by rw [hxn]; simp [IntKind.wrap, IntKind.bits, IntKind.signed]; omega
  conv => cbv
  refine Sum.mk fun tn htn => ?_
  have htn : tn = xn % 6 := (show tn = xn.tmod 6 from htn).trans (Int.tmod_eq_emod_of_nonneg hx0)
  have ht0 := Int.emod_nonneg xn (show 6 ≠ 0 by omega)
  have ht1 := Int.emod_lt_of_pos xn (show (0 : Int) < 6 by omega)
  conv => cbv
  refine Fit.mk (by show (-9223372036854775808 : Int) ≤ tn; omega) (by show tn ≤ 9223372036854775807; omega) fun u hu => ?_
  have hu : u = m := by rw [show u = tn from hu, htn, hm, hxn]; rfl
  conv => cbv
  subst hu
  refine RetF.mk [.p (.int .i64 (.sym u))] [] 0 (Re.at [] []) rfl ⟨rfl, rfl, rfl⟩
theorem modL10_lx (v m : Int) (hm : m = modV v 10) : CallF (fun _ => Tryd.prog) 42 [.p (.int .i64 (.sym v)), .p (.int .i64 (.lit 10))] [] 0 (fun r h n' => r = .p (.int .i64 (.sym m)) ∧ h = [] ∧ n' = 0) := by
  refine callF_of_body tok Tryd.func42 (by kernel_rfl) rfl rfl rfl ?_; conv => cbv
  refine Fit.wrap fun xn hxn => ?_
  have hxn : xn = IntKind.u64.wrap v := hxn
  have hx0 : 0 ≤ xn := by rw [hxn]; simp [IntKind.wrap, IntKind.bits, IntKind.signed]; omega
  conv => cbv
  refine Sum.mk fun tn htn => ?_
  have htn : tn = xn % 10 := (show tn = xn.tmod 10 from htn).trans (Int.tmod_eq_emod_of_nonneg hx0)
  have ht0 := Int.emod_nonneg xn (show 10 ≠ 0 by omega)
  have ht1 := Int.emod_lt_of_pos xn (show (0 : Int) < 10 by omega)
  conv => cbv
  refine Fit.mk (by show (-9223372036854775808 : Int) ≤ tn; omega) (by show tn ≤ 9223372036854775807; omega) fun u hu => ?_
  have hu : u = m := by rw [show u = tn from hu, htn, hm, hxn]; rfl
  conv => cbv
  subst hu
  refine RetF.mk [.p (.int .i64 (.sym u))] [] 0 (Re.at [] []) rfl ⟨rfl, rfl, rfl⟩
theorem modL20_lx (v m : Int) (hm : m = modV v 20) : CallF (fun _ => Tryd.prog) 42 [.p (.int .i64 (.sym v)), .p (.int .i64 (.lit 20))] [] 0 (fun r h n' => r = .p (.int .i64 (.sym m)) ∧ h = [] ∧ n' = 0) := by
  refine callF_of_body tok Tryd.func42 (by kernel_rfl) rfl rfl rfl ?_; conv => cbv
  refine Fit.wrap fun xn hxn => ?_
  have hxn : xn = IntKind.u64.wrap v := hxn
  have hx0 : 0 ≤ xn := by rw [hxn]; simp [IntKind.wrap, IntKind.bits, IntKind.signed]; omega
  conv => cbv
  refine Sum.mk fun tn htn => ?_
  have htn : tn = xn % 20 := (show tn = xn.tmod 20 from htn).trans (Int.tmod_eq_emod_of_nonneg hx0)
  have ht0 := Int.emod_nonneg xn (show 20 ≠ 0 by omega)
  have ht1 := Int.emod_lt_of_pos xn (show (0 : Int) < 20 by omega)
  conv => cbv
  refine Fit.mk (by show (-9223372036854775808 : Int) ≤ tn; omega) (by show tn ≤ 9223372036854775807; omega) fun u hu => ?_
  have hu : u = m := by rw [show u = tn from hu, htn, hm, hxn]; rfl
  conv => cbv
  subst hu
  refine RetF.mk [.p (.int .i64 (.sym u))] [] 0 (Re.at [] []) rfl ⟨rfl, rfl, rfl⟩
theorem modL22_lx (v m : Int) (hm : m = modV v 22) : CallF (fun _ => Tryd.prog) 42 [.p (.int .i64 (.sym v)), .p (.int .i64 (.lit 22))] [] 0 (fun r h n' => r = .p (.int .i64 (.sym m)) ∧ h = [] ∧ n' = 0) := by
  refine callF_of_body tok Tryd.func42 (by kernel_rfl) rfl rfl rfl ?_; conv => cbv
  refine Fit.wrap fun xn hxn => ?_
  have hxn : xn = IntKind.u64.wrap v := hxn
  have hx0 : 0 ≤ xn := by rw [hxn]; simp [IntKind.wrap, IntKind.bits, IntKind.signed]; omega
  conv => cbv
  refine Sum.mk fun tn htn => ?_
  have htn : tn = xn % 22 := (show tn = xn.tmod 22 from htn).trans (Int.tmod_eq_emod_of_nonneg hx0)
  have ht0 := Int.emod_nonneg xn (show 22 ≠ 0 by omega)
  have ht1 := Int.emod_lt_of_pos xn (show (0 : Int) < 22 by omega)
  conv => cbv
  refine Fit.mk (by show (-9223372036854775808 : Int) ≤ tn; omega) (by show tn ≤ 9223372036854775807; omega) fun u hu => ?_
  have hu : u = m := by rw [show u = tn from hu, htn, hm, hxn]; rfl
  conv => cbv
  subst hu
  refine RetF.mk [.p (.int .i64 (.sym u))] [] 0 (Re.at [] []) rfl ⟨rfl, rfl, rfl⟩
theorem modL10000_lx (v m : Int) (hm : m = modV v 10000) : CallF (fun _ => Tryd.prog) 42 [.p (.int .i64 (.sym v)), .p (.int .i64 (.lit 10000))] [] 0 (fun r h n' => r = .p (.int .i64 (.sym m)) ∧ h = [] ∧ n' = 0) := by
  refine callF_of_body tok Tryd.func42 (by kernel_rfl) rfl rfl rfl ?_; conv => cbv
  refine Fit.wrap fun xn hxn => ?_
  have hxn : xn = IntKind.u64.wrap v := hxn
  have hx0 : 0 ≤ xn := by rw [hxn]; simp [IntKind.wrap, IntKind.bits, IntKind.signed]; omega
  conv => cbv
  refine Sum.mk fun tn htn => ?_
  have htn : tn = xn % 10000 := (show tn = xn.tmod 10000 from htn).trans (Int.tmod_eq_emod_of_nonneg hx0)
  have ht0 := Int.emod_nonneg xn (show 10000 ≠ 0 by omega)
  have ht1 := Int.emod_lt_of_pos xn (show (0 : Int) < 10000 by omega)
  conv => cbv
  refine Fit.mk (by show (-9223372036854775808 : Int) ≤ tn; omega) (by show tn ≤ 9223372036854775807; omega) fun u hu => ?_
  have hu : u = m := by rw [show u = tn from hu, htn, hm, hxn]; rfl
  conv => cbv
  subst hu
  refine RetF.mk [.p (.int .i64 (.sym u))] [] 0 (Re.at [] []) rfl ⟨rfl, rfl, rfl⟩
theorem casesG_nil (l : List Cs) (n : Int) : casesG l 0 n = [] := by cases l <;> rfl
set_option maxHeartbeats 4000000 in
theorem cases_lx (A : List Cs) (n k : Int) (L : List PV) (hk : k = A.length) (hL : L = csV A) (hA : A.length ≤ maxLen) (h0 : 0 < n) (h1 : n ≤ 40) : CallF (fun _ => Tryd.prog) 43 [.p (.vsl (.sym k) true L), .p (.int .i64 (.sym n))] [] 0 (fun r h n' => (∃ (k2 : Int) (L2 : List PV), r = .p (.vsl (.sym k2) true L2) ∧ k2 = (casesV A n).length ∧ L2 = csV (casesV A n)) ∧ h = [] ∧ n' = 0) := by
  obtain ⟨D, hD⟩ : ∃ D, D = casesG A 3 n := ⟨_, rfl⟩
  have hV : casesV A n = orElse0 D := by rw [hD]; rfl
  rw [hV]
  clear hV
  have hD00 : D = [] ++ casesG (A.drop (0 : Int).toNat) (3 - (0 : Int).toNat) n := by rw [hD]; rfl
  clear hD
  refine callF_of_body tok Tryd.func43 (by kernel_rfl) rfl rfl rfl ?_; conv => cbv
  refine LoopF.mk (fun kk s => ∃ (i j : Int) (M : List PV) (acc : List Cs), s = ⟨.p (.vsl (.sym k) true L) :: .p (.int .i64 (.sym n)) :: (undefs 3 ++ .sl 0 38 4 (.lit 0) (.sym j) :: .p (.int .i64 (.sym i)) :: undefs 58), [(0, .pure true M)], 1⟩ ∧ D = acc ++ casesG (A.drop i.toNat) (3 - i.toNat) n ∧ M = csV acc ∧ j = acc.length ∧ j = i ∧ 0 ≤ i ∧ i ≤ 3 ∧ kk = (3 - i).toNat) 3 _
    (Re.at [] [0]) ⟨0, 0, [], [], rfl, hD00, rfl, rfl, rfl, by omega, by omega, by omega⟩ ?_
  clear hD00
  rintro kk s ⟨i, j, M, acc, rfl, hDi, hM, hj, hji, hi0, hi3, hkk⟩
  conv => cbv
  refine Br.mk (fun g => ?_) (fun g => ?_)
  case refine_2 =>
    have g : ¬ i < k := g
    have hnil : casesG (A.drop i.toNat) (3 - i.toNat) n = [] := by rw [List.drop_of_length_le (by omega)]; rfl
    conv => cbv
    have hD0 : D = acc := by rw [hDi, hnil, List.append_nil]
    refine Br.mk (fun g8 => ?_) (fun g8 => ?_)
    · have g8 : j = 0 := g8
      have ha0 : acc = [] := List.eq_nil_of_length_eq_zero (by omega)
      have hV : orElse0 D = [⟨3, 0, 0, 0⟩] := by rw [hD0, ha0]; rfl
      obtain ⟨M1, hM1⟩ : ∃ M1, M1 = csV [⟨3, 0, 0, 0⟩] := ⟨_, rfl⟩
      have hMM : M1 = [.int .i64 (.sym 3), .int .i64 (.sym 0), .int .i64 (.sym 0), .int .i64 (.sym 0)] := hM1
      have hle : pvles [.int .i64 (.lit 3), .int .i64 (.lit 0), .int .i64 (.lit 0), .int .i64 (.lit 0)] M1 := by rw [hMM]; simp [pvles, pvle, I.val]
      unfold pvles at hle
      conv => cbv
      refine RetF.mk [.p (.vsl (.sym 1) true M1)] [] 0 (Re.at [] []) rfl ⟨⟨1, M1, rfl, by rw [hV]; rfl, by rw [hV, hM1]⟩, rfl, rfl⟩
    · have g8 : ¬ j = 0 := g8
      have hV : orElse0 D = acc := by rw [hD0, orElse0, if_neg]; intro h; rw [h] at hj; exact g8 hj
      conv => cbv
      refine RetF.mk [.p (.vsl (.sym j) true M)] [] 0 (Re.at [] []) rfl ⟨⟨j, M, rfl, by rw [hV]; exact hj, by rw [hV]; exact hM⟩, rfl, rfl⟩
  have g : i < k := g
  conv => cbv
  refine Br.mk (fun g2 => ?_) (fun g2 => ?_)
  case refine_2 =>
    have g2 : ¬ i < 3 := g2
    have hnil : casesG (A.drop i.toNat) (3 - i.toNat) n = [] := by rw [show 3 - i.toNat = 0 by omega]; exact casesG_nil _ _
    conv => cbv
    have hD0 : D = acc := by rw [hDi, hnil, List.append_nil]
    refine Br.mk (fun g8 => ?_) (fun g8 => ?_)
    · have g8 : j = 0 := g8
      have ha0 : acc = [] := List.eq_nil_of_length_eq_zero (by omega)
      have hV : orElse0 D = [⟨3, 0, 0, 0⟩] := by rw [hD0, ha0]; rfl
      obtain ⟨M1, hM1⟩ : ∃ M1, M1 = csV [⟨3, 0, 0, 0⟩] := ⟨_, rfl⟩
      have hMM : M1 = [.int .i64 (.sym 3), .int .i64 (.sym 0), .int .i64 (.sym 0), .int .i64 (.sym 0)] := hM1
      have hle : pvles [.int .i64 (.lit 3), .int .i64 (.lit 0), .int .i64 (.lit 0), .int .i64 (.lit 0)] M1 := by rw [hMM]; simp [pvles, pvle, I.val]
      unfold pvles at hle
      conv => cbv
      refine RetF.mk [.p (.vsl (.sym 1) true M1)] [] 0 (Re.at [] []) rfl ⟨⟨1, M1, rfl, by rw [hV]; rfl, by rw [hV, hM1]⟩, rfl, rfl⟩
    · have g8 : ¬ j = 0 := g8
      have hV : orElse0 D = acc := by rw [hD0, orElse0, if_neg]; intro h; rw [h] at hj; exact g8 hj
      conv => cbv
      refine RetF.mk [.p (.vsl (.sym j) true M)] [] 0 (Re.at [] []) rfl ⟨⟨j, M, rfl, by rw [hV]; exact hj, by rw [hV]; exact hM⟩, rfl, rfl⟩
  have g2 : i < 3 := g2
  obtain ⟨c, hc⟩ : ∃ c, A[i.toNat]? = some c := ⟨_, List.getElem?_eq_getElem (by omega)⟩
  have hcg := csV_get hc
  rw [← hL] at hcg
  have hgo : casesG (A.drop i.toNat) (3 - i.toNat) n = if (cas1 c n).k = 3 then [⟨3, 0, 0, (cas1 c n).to⟩] else cas1 c n :: casesG (A.drop (i.toNat + 1)) (3 - (i.toNat + 1)) n := by
    rw [List.drop_eq_getElem_cons (by omega : i.toNat < A.length), show A[i.toNat]'(by omega) = c from Option.some.inj ((List.getElem?_eq_getElem (by omega)).symm.trans hc), show 3 - i.toNat = (3 - (i.toNat + 1)) + 1 by omega, casesG]
  obtain ⟨z1, hz1⟩ : ∃ z, z = IntKind.i64.wrap (c.k - 1) := ⟨_, rfl⟩
  obtain ⟨m1, hm1⟩ : ∃ m, m = modV z1 3 := ⟨_, rfl⟩
  obtain ⟨m2, hm2⟩ : ∃ m, m = modV c.ch 6 := ⟨_, rfl⟩
  obtain ⟨m3, hm3⟩ : ∃ m, m = modV c.reg 6 := ⟨_, rfl⟩
  obtain ⟨m4, hm4⟩ : ∃ m, m = modV c.to n := ⟨_, rfl⟩
  have hcas : cas1 c n = ⟨1 + m1, m2, m3, m4⟩ := by rw [hm1, hm2, hm3, hm4, hz1]; rfl
  rw [hcas] at hgo
  have hm1b := modV_in (v := z1) (n := 3) (by decide)
  rw [← hm1] at hm1b
  obtain ⟨ck, hck⟩ : ∃ x, x = c.k := ⟨_, rfl⟩
  obtain ⟨cc, hcc⟩ : ∃ x, x = c.ch := ⟨_, rfl⟩
  obtain ⟨cr, hcr⟩ : ∃ x, x = c.reg := ⟨_, rfl⟩
  obtain ⟨ct, hct⟩ : ∃ x, x = c.to := ⟨_, rfl⟩
  rw [← hck, ← hcc, ← hcr, ← hct] at hcg
  rw [← hck] at hz1
  rw [← hcc] at hm2
  rw [← hcr] at hm3
  rw [← hct] at hm4
  obtain ⟨k', rfl⟩ : ∃ k', kk = k' + 1 := ⟨kk - 1, by omega⟩
  conv => cbv
  refine read_sound tok (by kernel_rfl) [0] [6, 13, 19, 26] [(28, [27, 26, 25, 24, 23, 22, 21, 20, 19, 18, 17, 16, 15, 14, 13, 12, 11, 10, 9, 8, 7, 6, 5, 4, 3, 2, 1, 0]), (29, [])] [0, 1, 2, 3, 4, 5, 6, 7, 8, 9, 10, 11, 12, 13, 14, 15, 16, 17, 18, 19, 20, 21, 22, 23, 24, 25, 26, 27, 28, 29] (by kernel_rfl) ?_
  conv => cbv
  refine Need.mk ⟨by show (0 : Int) ≤ i; omega, by show i < k; omega⟩ ?_
  conv => cbv
  refine Sum.mk fun w101 hw101 => ?_
  have hw101 : w101 = i * 4 := hw101
  conv => cbv
  refine Cell.at w101 (i.toNat * 4) hcg.1 (by simp [I.val]) (by omega) ?_
  conv => cbv
  refine Fit.wrap fun z9 hz9 => ?_
  obtain rfl : z9 = z1 := (show z9 = IntKind.i64.wrap (ck - 1) from hz9).trans hz1.symm
  conv => cbv
  refine ReadF.mk (.p (.int .i64 (.sym m1))) (fun h' n' hbR hnR => callF_read (modL3_lx z9 m1 hm1) [] rfl trivial rfl rfl rfl rfl) ?_
  conv => cbv
  refine Fit.mk (by show (-9223372036854775808 : Int) ≤ 1 + m1; omega) (by show 1 + m1 ≤ 9223372036854775807; omega) fun m5 hm5 => ?_
  have hm5 : m5 = 1 + m1 := hm5
  conv => cbv
  refine Need.mk ⟨by show (0 : Int) ≤ i; omega, by show i < k; omega⟩ ?_
  conv => cbv
  refine Sum.mk fun w102 hw102 => ?_
  have hw102 : w102 = i * 4 := hw102
  conv => cbv
  refine Sum.mk fun x102 hx102 => ?_
  have hx102 : x102 = w102 + 1 := hx102
  conv => cbv
  refine Cell.at x102 (i.toNat * 4 + 1) hcg.2.1 (by simp [I.val]) (by omega) ?_
  conv => cbv
  refine ReadF.mk (.p (.int .i64 (.sym m2))) (fun h' n' hbR hnR => callF_read (modL6_lx cc m2 hm2) [] rfl trivial rfl rfl rfl rfl) ?_
  conv => cbv
  refine Need.mk ⟨by show (0 : Int) ≤ i; omega, by show i < k; omega⟩ ?_
  conv => cbv
  refine Sum.mk fun w103 hw103 => ?_
  have hw103 : w103 = i * 4 := hw103
  conv => cbv
  refine Sum.mk fun x103 hx103 => ?_
  have hx103 : x103 = w103 + 2 := hx103
  conv => cbv
  refine Cell.at x103 (i.toNat * 4 + 2) hcg.2.2.1 (by simp [I.val]) (by omega) ?_
  conv => cbv
  refine ReadF.mk (.p (.int .i64 (.sym m3))) (fun h' n' hbR hnR => callF_read (modL6_lx cr m3 hm3) [] rfl trivial rfl rfl rfl rfl) ?_
  conv => cbv
  refine Need.mk ⟨by show (0 : Int) ≤ i; omega, by show i < k; omega⟩ ?_
  conv => cbv
  refine Sum.mk fun w104 hw104 => ?_
  have hw104 : w104 = i * 4 := hw104
  conv => cbv
  refine Sum.mk fun x104 hx104 => ?_
  have hx104 : x104 = w104 + 3 := hx104
  conv => cbv
  refine Cell.at x104 (i.toNat * 4 + 3) hcg.2.2.2 (by simp [I.val]) (by omega) ?_
  conv => cbv
  refine ReadF.mk (.p (.int .i64 (.sym m4))) (fun h' n' hbR hnR => callF_read (modS_lx ct n m4 hm4 h0 (by omega)) [] rfl trivial rfl rfl rfl rfl) ?_
  conv => cbv
  refine Br.mk (fun g3 => ?_) (fun g3 => ?_)
  · have g3 : m5 = 3 := g3
    have hD2 : D = acc ++ [⟨3, 0, 0, m4⟩] := by rw [hDi, hgo, if_pos (by show 1 + m1 = 3; omega)]
    conv => cbv
    refine Room.new rfl ?_
    conv => cbv
    refine Room.new ⟨?_, ?_, ?_⟩ ?_
    · show (M.length : Int) = j * 4; rw [hM, csV_length, hj]; omega
    · show (j + 1) * 32 ≤ 140737488355328; omega
    · show j + 1 ≤ 9223372036854775807; omega
    conv => cbv
    refine Upd.mk fun M2 hM2 => ?_
    have hM2 : M2 = M ++ [.int .i64 (.lit 3), .int .i64 (.lit 0), .int .i64 (.lit 0), .int .i64 (.sym m4)] := hM2
    conv => cbv
    refine Sum.mk fun j2 hj2 => ?_
    have hj2 : j2 = j + 1 := hj2
    conv => cbv
    obtain ⟨M3, hM3⟩ : ∃ M3, M3 = csV (acc ++ [⟨3, 0, 0, m4⟩]) := ⟨_, rfl⟩
    have hle : pvles M2 M3 := by
      rw [hM2, hM3, csV_snoc, ← hM]
      exact pvles_app (pvles_refl _) (by unfold caV; simp [pvles, pvle, I.val])
    unfold pvles at hle
    have hO : orElse0 D = acc ++ [⟨3, 0, 0, m4⟩] := by rw [hD2, orElse0, if_neg (by simp)]
    refine RetF.mk [.p (.vsl (.sym j2) true M3)] [] 0 (Re.at [] []) rfl ⟨⟨j2, M3, rfl, by rw [hO, List.length_append, hj2, hj]; rfl, by rw [hO, hM3]⟩, rfl, rfl⟩
  have g3 : ¬ m5 = 3 := g3
  have hD2 : D = (acc ++ [⟨m5, m2, m3, m4⟩]) ++ casesG (A.drop (i.toNat + 1)) (3 - (i.toNat + 1)) n := by rw [hDi, hgo, if_neg (by show ¬ 1 + m1 = 3; omega), hm5]; simp
  conv => cbv
  refine Room.new rfl ?_
  conv => cbv
  refine Room.new ⟨?_, ?_, ?_⟩ ?_
  · show (M.length : Int) = j * 4; rw [hM, csV_length, hj]; omega
  · show (j + 1) * 32 ≤ 140737488355328; omega
  · show j + 1 ≤ 9223372036854775807; omega
  conv => cbv
  refine Upd.mk fun M2 hM2 => ?_
  have hM2 : M2 = csV (acc ++ [⟨m5, m2, m3, m4⟩]) := by rw [csV_snoc, ← hM]; exact hM2
  conv => cbv
  refine Sum.mk fun j2 hj2 => ?_
  have hj2 : j2 = j + 1 := hj2
  have hj3 : j2 = ((acc ++ [⟨m5, m2, m3, m4⟩] : List Cs).length : Int) := by rw [List.length_append, hj2, hj]; rfl
  conv => cbv
  refine Fit.mk (by show (-9223372036854775808 : Int) ≤ i + 1; omega) (by show i + 1 ≤ 9223372036854775807; omega) fun i2 hi2 => ?_
  have hi2 : i2 = i + 1 := hi2
  rw [show i.toNat + 1 = i2.toNat by omega] at hD2
  conv => cbv
  refine Again.mk k' _ (Nat.lt_succ_self _) (Re.at [(3, 0)] []) ⟨i2, j2, M2, acc ++ [⟨m5, m2, m3, m4⟩], rfl, hD2, hM2, hj3, by omega, by omega, by omega, by omega⟩
inductive InstrR (y : Is) : LV → Prop
  | mk (op a b n k : Int) (L : List PV) (h1 : op = y.op) (h2 : a = y.a) (h3 : b = y.b) (h4 : n = y.n) (h5 : k = y.cs.length) (h6 : L = csV y.cs) : InstrR y (.agg [.p (.int .i64 (.sym op)), .p (.int .i64 (.sym a)), .p (.int .i64 (.sym b)), .p (.int .i64 (.sym n)), .p (.vsl (.sym k) true L)])
set_option maxHeartbeats 8000000 in
theorem instr_lx (X : Is) (op a b m k n : Int) (L : List PV) (h1 : op = X.op) (h2 : a = X.a) (h3 : b = X.b) (h4 : m = X.n) (h5 : k = X.cs.length) (h6 : L = csV X.cs) (h7 : X.cs.length ≤ maxLen) (h0 : 0 < n) (hn : n ≤ 40) : CallF (fun _ => Tryd.prog) 24 [.agg [.p (.int .i64 (.sym op)), .p (.int .i64 (.sym a)), .p (.int .i64 (.sym b)), .p (.int .i64 (.sym m)), .p (.vsl (.sym k) true L)], .p (.int .i64 (.sym n))] [] 0 (fun r h n' => InstrR (instrV X n) r ∧ h = [] ∧ n' = 0) := by
  obtain ⟨z1, hz1⟩ : ∃ z, z = IntKind.i64.wrap (op - 1) := ⟨_, rfl⟩
  obtain ⟨m1, hm1⟩ : ∃ m, m = modV z1 22 := ⟨_, rfl⟩
  obtain ⟨m2, hm2⟩ : ∃ m, m = modV a 6 := ⟨_, rfl⟩
  obtain ⟨m3, hm3⟩ : ∃ m, m = modV b 6 := ⟨_, rfl⟩
  obtain ⟨Y, hY⟩ : ∃ Y, Y = instrV X n := ⟨_, rfl⟩
  have hYm : Y = mkI (1 + m1) m2 m3 X n := by rw [hY, hm1, hm2, hm3, hz1, h1, h2, h3]; rfl
  rw [← hY]
  have hm1b := modV_in (v := z1) (n := 22) (by decide)
  rw [← hm1] at hm1b
  refine callF_of_body tok Tryd.func24 (by kernel_rfl) rfl rfl rfl ?_; conv => cbv
  refine Fit.wrap fun z9 hz9 => ?_
  obtain rfl : z9 = z1 := (show z9 = IntKind.i64.wrap (op - 1) from hz9).trans hz1.symm
  conv => cbv
  refine callF_frame (modL22_lx z9 m1 hm1) [] rfl trivial rfl rfl (fun r2 h' n' ⟨e1, e2, e3⟩ => ?_)
  subst e1 e2 e3
  conv => cbv
  refine Fit.mk (by show (-9223372036854775808 : Int) ≤ 1 + m1; omega) (by show 1 + m1 ≤ 9223372036854775807; omega) fun o1 ho1 => ?_
  have ho1 : o1 = 1 + m1 := ho1
  rw [← ho1] at hYm
  conv => cbv
  refine read_sound tok (by kernel_rfl) [0] [2, 5] [] [0, 1, 2, 3, 4, 5, 6, 7] (by kernel_rfl) ?_
  conv => cbv
  refine ReadF.mk (.p (.int .i64 (.sym m2))) (fun h' n' hbR hnR => callF_read (modL6_lx a m2 hm2) [] rfl trivial rfl rfl rfl rfl) ?_
  conv => cbv
  refine ReadF.mk (.p (.int .i64 (.sym m3))) (fun h' n' hbR hnR => callF_read (modL6_lx b m3 hm3) [] rfl trivial rfl rfl rfl rfl) ?_
  conv => cbv
  refine Br.mk (fun g0 => ?_) (fun g0 => ?_)
  · have g0 : o1 = 22 := g0
    conv => cbv
    have hYl : Y = ⟨o1, 0, 0, 0, []⟩ := by rw [hYm]; unfold mkI; rw [if_pos (by omega)]
    refine RetF.mk [.agg [.p (.int .i64 (.sym o1)), .p (.int .i64 (.sym 0)), .p (.int .i64 (.sym 0)), .p (.int .i64 (.sym 0)), .p (.vsl (.sym 0) true [])]] [] 0 (Re.at [] []) rfl ⟨.mk o1 0 0 0 0 [] (by rw [hYl]) (by rw [hYl]) (by rw [hYl]) (by rw [hYl]) (by rw [hYl]; rfl) (by rw [hYl]; rfl), rfl, rfl⟩
  have g0 : ¬ o1 = 22 := g0
  conv => cbv
  refine Br.mk (fun g1 => ?_) (fun g1 => ?_)
  · have g1 : o1 = 21 := g1
    conv => cbv
    refine callF_frame (cases_lx X.cs n k L h5 h6 h7 h0 hn) [] rfl trivial rfl rfl (fun r2 h' n' hrr => ?_)
    obtain ⟨⟨k2, L2, e1, hk2, hL2⟩, e2, e3⟩ := hrr
    subst e1 e2 e3
    conv => cbv
    have hYl : Y = ⟨o1, 0, 0, 0, casesV X.cs n⟩ := by rw [hYm]; unfold mkI; rw [if_neg (by omega)]; rw [if_pos (by omega)]
    refine RetF.mk [.agg [.p (.int .i64 (.sym o1)), .p (.int .i64 (.sym 0)), .p (.int .i64 (.sym 0)), .p (.int .i64 (.sym 0)), .p (.vsl (.sym k2) true L2)]] [] 0 (Re.at [] []) rfl ⟨.mk o1 0 0 0 k2 L2 (by rw [hYl]) (by rw [hYl]) (by rw [hYl]) (by rw [hYl]) (by rw [hYl]; exact hk2) (by rw [hYl]; exact hL2), rfl, rfl⟩
  have g1 : ¬ o1 = 21 := g1
  conv => cbv
  refine Br.mk (fun g2 => ?_) (fun g2 => ?_)
  · have g2 : o1 = 10 := g2
    obtain ⟨q, hq⟩ : ∃ x, x = modV m n := ⟨_, rfl⟩
    conv => cbv
    refine callF_frame (modS_lx m n q hq h0 (by omega)) [] rfl trivial rfl rfl (fun r2 h' n' ⟨e1, e2, e3⟩ => ?_)
    subst e1 e2 e3
    conv => cbv
    have hYl : Y = ⟨o1, 0, 0, q, []⟩ := by rw [hYm]; unfold mkI; rw [if_neg (by omega)]; rw [if_neg (by omega)]; rw [if_pos (by omega)]; rw [← h4, ← hq]
    refine RetF.mk [.agg [.p (.int .i64 (.sym o1)), .p (.int .i64 (.sym 0)), .p (.int .i64 (.sym 0)), .p (.int .i64 (.sym q)), .p (.vsl (.sym 0) true [])]] [] 0 (Re.at [] []) rfl ⟨.mk o1 0 0 q 0 [] (by rw [hYl]) (by rw [hYl]) (by rw [hYl]) (by rw [hYl]) (by rw [hYl]; rfl) (by rw [hYl]; rfl), rfl, rfl⟩
  have g2 : ¬ o1 = 10 := g2
  conv => cbv
  refine Br.mk (fun g3 => ?_) (fun g3 => ?_)
  · have g3 : o1 = 11 := g3
    obtain ⟨q, hq⟩ : ∃ x, x = modV m n := ⟨_, rfl⟩
    conv => cbv
    refine callF_frame (modS_lx m n q hq h0 (by omega)) [] rfl trivial rfl rfl (fun r2 h' n' ⟨e1, e2, e3⟩ => ?_)
    subst e1 e2 e3
    conv => cbv
    have hYl : Y = ⟨o1, 0, 0, q, []⟩ := by rw [hYm]; unfold mkI; rw [if_neg (by omega)]; rw [if_neg (by omega)]; rw [if_pos (by omega)]; rw [← h4, ← hq]
    refine RetF.mk [.agg [.p (.int .i64 (.sym o1)), .p (.int .i64 (.sym 0)), .p (.int .i64 (.sym 0)), .p (.int .i64 (.sym q)), .p (.vsl (.sym 0) true [])]] [] 0 (Re.at [] []) rfl ⟨.mk o1 0 0 q 0 [] (by rw [hYl]) (by rw [hYl]) (by rw [hYl]) (by rw [hYl]) (by rw [hYl]; rfl) (by rw [hYl]; rfl), rfl, rfl⟩
  have g3 : ¬ o1 = 11 := g3
  conv => cbv
  refine Br.mk (fun g4 => ?_) (fun g4 => ?_)
  · have g4 : o1 = 12 := g4
    obtain ⟨q, hq⟩ : ∃ x, x = modV m n := ⟨_, rfl⟩
    conv => cbv
    refine callF_frame (modS_lx m n q hq h0 (by omega)) [] rfl trivial rfl rfl (fun r2 h' n' ⟨e1, e2, e3⟩ => ?_)
    subst e1 e2 e3
    conv => cbv
    have hYl : Y = ⟨o1, m2, 0, q, []⟩ := by rw [hYm]; unfold mkI; rw [if_neg (by omega)]; rw [if_neg (by omega)]; rw [if_neg (by omega)]; rw [if_pos (by omega)]; rw [← h4, ← hq]
    refine RetF.mk [.agg [.p (.int .i64 (.sym o1)), .p (.int .i64 (.sym m2)), .p (.int .i64 (.sym 0)), .p (.int .i64 (.sym q)), .p (.vsl (.sym 0) true [])]] [] 0 (Re.at [] []) rfl ⟨.mk o1 m2 0 q 0 [] (by rw [hYl]) (by rw [hYl]) (by rw [hYl]) (by rw [hYl]) (by rw [hYl]; rfl) (by rw [hYl]; rfl), rfl, rfl⟩
  have g4 : ¬ o1 = 12 := g4
  conv => cbv
  refine Br.mk (fun g5 => ?_) (fun g5 => ?_)
  · have g5 : o1 = 1 := g5
    obtain ⟨q, hq⟩ : ∃ x, x = modV m 10000 := ⟨_, rfl⟩
    conv => cbv
    refine callF_frame (modL10000_lx m q hq) [] rfl trivial rfl rfl (fun r2 h' n' ⟨e1, e2, e3⟩ => ?_)
    subst e1 e2 e3
    conv => cbv
    have hYl : Y = ⟨o1, m2, 0, q, []⟩ := by rw [hYm]; unfold mkI; rw [if_neg (by omega)]; rw [if_neg (by omega)]; rw [if_neg (by omega)]; rw [if_neg (by omega)]; rw [if_pos (by omega)]; rw [← h4, ← hq]
    refine RetF.mk [.agg [.p (.int .i64 (.sym o1)), .p (.int .i64 (.sym m2)), .p (.int .i64 (.sym 0)), .p (.int .i64 (.sym q)), .p (.vsl (.sym 0) true [])]] [] 0 (Re.at [] []) rfl ⟨.mk o1 m2 0 q 0 [] (by rw [hYl]) (by rw [hYl]) (by rw [hYl]) (by rw [hYl]) (by rw [hYl]; rfl) (by rw [hYl]; rfl), rfl, rfl⟩
  have g5 : ¬ o1 = 1 := g5
  conv => cbv
  refine Br.mk (fun g6 => ?_) (fun g6 => ?_)
  · have g6 : o1 = 4 := g6
    obtain ⟨q, hq⟩ : ∃ x, x = modV m 4 := ⟨_, rfl⟩
    conv => cbv
    refine callF_frame (modL4_lx m q hq) [] rfl trivial rfl rfl (fun r2 h' n' ⟨e1, e2, e3⟩ => ?_)
    subst e1 e2 e3
    conv => cbv
    have hYl : Y = ⟨o1, m2, 0, q, []⟩ := by rw [hYm]; unfold mkI; rw [if_neg (by omega)]; rw [if_neg (by omega)]; rw [if_neg (by omega)]; rw [if_neg (by omega)]; rw [if_neg (by omega)]; rw [if_pos (by omega)]; rw [← h4, ← hq]
    refine RetF.mk [.agg [.p (.int .i64 (.sym o1)), .p (.int .i64 (.sym m2)), .p (.int .i64 (.sym 0)), .p (.int .i64 (.sym q)), .p (.vsl (.sym 0) true [])]] [] 0 (Re.at [] []) rfl ⟨.mk o1 m2 0 q 0 [] (by rw [hYl]) (by rw [hYl]) (by rw [hYl]) (by rw [hYl]) (by rw [hYl]; rfl) (by rw [hYl]; rfl), rfl, rfl⟩
  have g6 : ¬ o1 = 4 := g6
  conv => cbv
  refine Br.mk (fun g7 => ?_) (fun g7 => ?_)
  · have g7 : o1 = 14 := g7
    obtain ⟨q, hq⟩ : ∃ x, x = modV m 20 := ⟨_, rfl⟩
    conv => cbv
    refine callF_frame (modL20_lx m q hq) [] rfl trivial rfl rfl (fun r2 h' n' ⟨e1, e2, e3⟩ => ?_)
    subst e1 e2 e3
    conv => cbv
    have hYl : Y = ⟨o1, m2, 0, q, []⟩ := by rw [hYm]; unfold mkI; rw [if_neg (by omega)]; rw [if_neg (by omega)]; rw [if_neg (by omega)]; rw [if_neg (by omega)]; rw [if_neg (by omega)]; rw [if_neg (by omega)]; rw [if_pos (by omega)]; rw [← h4, ← hq]
    refine RetF.mk [.agg [.p (.int .i64 (.sym o1)), .p (.int .i64 (.sym m2)), .p (.int .i64 (.sym 0)), .p (.int .i64 (.sym q)), .p (.vsl (.sym 0) true [])]] [] 0 (Re.at [] []) rfl ⟨.mk o1 m2 0 q 0 [] (by rw [hYl]) (by rw [hYl]) (by rw [hYl]) (by rw [hYl]) (by rw [hYl]; rfl) (by rw [hYl]; rfl), rfl, rfl⟩
  have g7 : ¬ o1 = 14 := g7
  conv => cbv
  refine Br.mk (fun g8 => ?_) (fun g8 => ?_)
  · have g8 : o1 = 18 := g8
    obtain ⟨q, hq⟩ : ∃ x, x = modV m 4 := ⟨_, rfl⟩
    conv => cbv
    refine callF_frame (modL4_lx m q hq) [] rfl trivial rfl rfl (fun r2 h' n' ⟨e1, e2, e3⟩ => ?_)
    subst e1 e2 e3
    conv => cbv
    have hYl : Y = ⟨o1, m2, 0, q, []⟩ := by rw [hYm]; unfold mkI; rw [if_neg (by omega)]; rw [if_neg (by omega)]; rw [if_neg (by omega)]; rw [if_neg (by omega)]; rw [if_neg (by omega)]; rw [if_neg (by omega)]; rw [if_neg (by omega)]; rw [if_pos (by omega)]; rw [← h4, ← hq]
    refine RetF.mk [.agg [.p (.int .i64 (.sym o1)), .p (.int .i64 (.sym m2)), .p (.int .i64 (.sym 0)), .p (.int .i64 (.sym q)), .p (.vsl (.sym 0) true [])]] [] 0 (Re.at [] []) rfl ⟨.mk o1 m2 0 q 0 [] (by rw [hYl]) (by rw [hYl]) (by rw [hYl]) (by rw [hYl]) (by rw [hYl]; rfl) (by rw [hYl]; rfl), rfl, rfl⟩
  have g8 : ¬ o1 = 18 := g8
  conv => cbv
  refine Br.mk (fun g9 => ?_) (fun g9 => ?_)
  · have g9 : o1 = 19 := g9
    obtain ⟨q, hq⟩ : ∃ x, x = modV m 4 := ⟨_, rfl⟩
    conv => cbv
    refine callF_frame (modL4_lx m q hq) [] rfl trivial rfl rfl (fun r2 h' n' ⟨e1, e2, e3⟩ => ?_)
    subst e1 e2 e3
    conv => cbv
    have hYl : Y = ⟨o1, m2, 0, q, []⟩ := by rw [hYm]; unfold mkI; rw [if_neg (by omega)]; rw [if_neg (by omega)]; rw [if_neg (by omega)]; rw [if_neg (by omega)]; rw [if_neg (by omega)]; rw [if_neg (by omega)]; rw [if_neg (by omega)]; rw [if_pos (by omega)]; rw [← h4, ← hq]
    refine RetF.mk [.agg [.p (.int .i64 (.sym o1)), .p (.int .i64 (.sym m2)), .p (.int .i64 (.sym 0)), .p (.int .i64 (.sym q)), .p (.vsl (.sym 0) true [])]] [] 0 (Re.at [] []) rfl ⟨.mk o1 m2 0 q 0 [] (by rw [hYl]) (by rw [hYl]) (by rw [hYl]) (by rw [hYl]) (by rw [hYl]; rfl) (by rw [hYl]; rfl), rfl, rfl⟩
  have g9 : ¬ o1 = 19 := g9
  conv => cbv
  refine Br.mk (fun g10 => ?_) (fun g10 => ?_)
  · have g10 : o1 = 20 := g10
    obtain ⟨q, hq⟩ : ∃ x, x = modV m 10 := ⟨_, rfl⟩
    conv => cbv
    refine callF_frame (modL10_lx m q hq) [] rfl trivial rfl rfl (fun r2 h' n' ⟨e1, e2, e3⟩ => ?_)
    subst e1 e2 e3
    conv => cbv
    have hYl : Y = ⟨o1, m2, 0, q, []⟩ := by rw [hYm]; unfold mkI; rw [if_neg (by omega)]; rw [if_neg (by omega)]; rw [if_neg (by omega)]; rw [if_neg (by omega)]; rw [if_neg (by omega)]; rw [if_neg (by omega)]; rw [if_neg (by omega)]; rw [if_neg (by omega)]; rw [if_pos (by omega)]; rw [← h4, ← hq]
    refine RetF.mk [.agg [.p (.int .i64 (.sym o1)), .p (.int .i64 (.sym m2)), .p (.int .i64 (.sym 0)), .p (.int .i64 (.sym q)), .p (.vsl (.sym 0) true [])]] [] 0 (Re.at [] []) rfl ⟨.mk o1 m2 0 q 0 [] (by rw [hYl]) (by rw [hYl]) (by rw [hYl]) (by rw [hYl]) (by rw [hYl]; rfl) (by rw [hYl]; rfl), rfl, rfl⟩
  have g10 : ¬ o1 = 20 := g10
  conv => cbv
  refine Br.mk (fun g11 => ?_) (fun g11 => ?_)
  · have g11 : o1 = 7 := g11
    conv => cbv
    have hYl : Y = ⟨o1, m2, 0, 0, []⟩ := by rw [hYm]; unfold mkI; rw [if_neg (by omega)]; rw [if_neg (by omega)]; rw [if_neg (by omega)]; rw [if_neg (by omega)]; rw [if_neg (by omega)]; rw [if_neg (by omega)]; rw [if_neg (by omega)]; rw [if_neg (by omega)]; rw [if_neg (by omega)]; rw [if_pos (by omega)]
    refine RetF.mk [.agg [.p (.int .i64 (.sym o1)), .p (.int .i64 (.sym m2)), .p (.int .i64 (.sym 0)), .p (.int .i64 (.sym 0)), .p (.vsl (.sym 0) true [])]] [] 0 (Re.at [] []) rfl ⟨.mk o1 m2 0 0 0 [] (by rw [hYl]) (by rw [hYl]) (by rw [hYl]) (by rw [hYl]) (by rw [hYl]; rfl) (by rw [hYl]; rfl), rfl, rfl⟩
  have g11 : ¬ o1 = 7 := g11
  conv => cbv
  refine Br.mk (fun g12 => ?_) (fun g12 => ?_)
  · have g12 : o1 = 13 := g12
    conv => cbv
    have hYl : Y = ⟨o1, m2, 0, 0, []⟩ := by rw [hYm]; unfold mkI; rw [if_neg (by omega)]; rw [if_neg (by omega)]; rw [if_neg (by omega)]; rw [if_neg (by omega)]; rw [if_neg (by omega)]; rw [if_neg (by omega)]; rw [if_neg (by omega)]; rw [if_neg (by omega)]; rw [if_neg (by omega)]; rw [if_pos (by omega)]
    refine RetF.mk [.agg [.p (.int .i64 (.sym o1)), .p (.int .i64 (.sym m2)), .p (.int .i64 (.sym 0)), .p (.int .i64 (.sym 0)), .p (.vsl (.sym 0) true [])]] [] 0 (Re.at [] []) rfl ⟨.mk o1 m2 0 0 0 [] (by rw [hYl]) (by rw [hYl]) (by rw [hYl]) (by rw [hYl]) (by rw [hYl]; rfl) (by rw [hYl]; rfl), rfl, rfl⟩
  have g12 : ¬ o1 = 13 := g12
  conv => cbv
  have hYl : Y = ⟨o1, m2, m3, 0, []⟩ := by rw [hYm]; unfold mkI; rw [if_neg (by omega)]; rw [if_neg (by omega)]; rw [if_neg (by omega)]; rw [if_neg (by omega)]; rw [if_neg (by omega)]; rw [if_neg (by omega)]; rw [if_neg (by omega)]; rw [if_neg (by omega)]; rw [if_neg (by omega)]; rw [if_neg (by omega)]
  refine RetF.mk [.agg [.p (.int .i64 (.sym o1)), .p (.int .i64 (.sym m2)), .p (.int .i64 (.sym m3)), .p (.int .i64 (.sym 0)), .p (.vsl (.sym 0) true [])]] [] 0 (Re.at [] []) rfl ⟨.mk o1 m2 m3 0 0 [] (by rw [hYl]) (by rw [hYl]) (by rw [hYl]) (by rw [hYl]) (by rw [hYl]; rfl) (by rw [hYl]; rfl), rfl, rfl⟩
theorem updL_isV : ∀ (l : List Is) (i : Nat) (y : Is), i < l.length → updL (isV l) (i * 5) (isC y) = isV (l.set i y)
  | [], i, y, h => absurd h (Nat.not_lt_zero _)
  | x :: l, 0, y, h => by simp [isV, isC, updL]
  | x :: l, i + 1, y, h => by
    have ih := updL_isV l i y (by simpa using h)
    have e : ∀ z : Is, isV (z :: l) = isC z ++ isV l := fun z => by simp [isV]
    have e2 : isV ((x :: l).set (i + 1) y) = isC x ++ isV (l.set i y) := by simp [isV]
    rw [e2, ← ih, e, show (i + 1) * 5 = i * 5 + 5 by omega]
    simp [isC, updL]
def stepV (F : List Is) (N : Int) (i : Nat) : List Is := (F.take i).map (fun x => instrV x N) ++ F.drop i
theorem stepV_len (F : List Is) (N : Int) (i : Nat) : (stepV F N i).length = F.length := by unfold stepV; simp; omega
theorem stepV_get {F : List Is} {N : Int} {i : Nat} (h : i < F.length) : (stepV F N i)[i]? = F[i]? := by
  unfold stepV
  rw [List.getElem?_append_right (by simp; omega)]
  simp [Nat.min_eq_left (Nat.le_of_lt h)]
theorem stepV_set {F : List Is} {N : Int} {i : Nat} {x : Is} (h : F[i]? = some x) : (stepV F N i).set i (instrV x N) = stepV F N (i + 1) := by
  have hi := (List.getElem?_eq_some_iff.1 h).1
  have hx := (List.getElem?_eq_some_iff.1 h).2
  unfold stepV
  have hlen : ((F.take i).map fun x => instrV x N).length = i := by simp; omega
  rw [List.set_append, if_neg (by omega), List.drop_eq_getElem_cons hi, hx, hlen, Nat.sub_self, List.set_cons_zero, List.take_add_one, h, Option.toList_some, List.map_append]
  simp
set_option maxHeartbeats 4000000 in
theorem code_lx (A : List Is) (k : Int) (L : List PV) (hk : k = A.length) (hL : L = isV A) (hc : ∀ x ∈ A, x.cs.length ≤ maxLen) : CallF (fun _ => Tryd.prog) 10 [.p (.vsl (.sym k) true L)] [] 0 (fun r h n' => (∃ (k2 : Int) (L2 : List PV), r = .p (.vsl (.sym k2) true L2) ∧ k2 = (codeV A).length ∧ L2 = isV (codeV A)) ∧ h = [] ∧ n' = 0) := by
  obtain ⟨F, hF⟩ : ∃ F, F = firstV A := ⟨_, rfl⟩
  have hV : codeV A = stepV F F.length F.length := by unfold codeV stepV; rw [← hF, List.take_length, List.drop_length, List.append_nil]
  have hFl := firstV_len A
  rw [← hF] at hFl
  have hFc : ∀ x ∈ F, x.cs.length ≤ maxLen := by
    intro x hx
    rw [hF] at hx
    unfold firstV at hx
    split at hx
    · rw [List.mem_singleton] at hx; subst hx; exact Nat.zero_le _
    · exact hc x (List.mem_of_mem_take hx)
  rw [hV]
  clear hV
  refine callF_of_bodyB tok Tryd.func10 (by kernel_rfl) rfl rfl rfl [6] ?_; conv => cbv
  refine LoopF.mk (fun kk s => ∃ (i : Int) (M : List PV), s = ⟨.p (.vsl (.sym k) true L) :: (undefs 2 ++ .sl 0 36 5 (.lit 0) (.sym i) :: .p (.int .i64 (.sym i)) :: undefs 41), [(0, .pure true M)], 1⟩ ∧ M = isV (A.take i.toNat) ∧ 0 ≤ i ∧ i ≤ k ∧ i ≤ 40 ∧ kk = (40 - i).toNat) 40 _
    (Re.at [] [0]) ⟨0, [], rfl, rfl, by omega, by omega, by omega, by omega⟩ ?_
  rintro kk s ⟨i, M, rfl, hM, hi0, hik, hi40, hkk⟩
  conv => cbv
  refine Br.mk (fun g => ?_) (fun g => ?_)
  case refine_2 =>
    have g : ¬ i < k := g
    have hT : A.take i.toNat = A.take 40 := by
      rw [List.take_of_length_le (by omega), List.take_of_length_le (by omega)]
    conv => cbv
    refine JoinF.mk (fun s => ∃ (N : Int) (M : List PV), s = ⟨.p (.vsl (.sym k) true L) :: (undefs 2 ++ .sl 0 36 5 (.lit 0) (.sym N) :: undefs 42), [(0, .pure true M)], 1⟩ ∧ M = isV F ∧ N = F.length) ?_ ?_
    · conv => cbv
      refine Br.mk (fun g8 => ?_) (fun g8 => ?_)
      · have g8 : i = 0 := g8
        have hF1 : F = [⟨22, 0, 0, 0, []⟩] := by rw [hF, firstV, if_pos]; rw [← hT, show i.toNat = 0 by omega, List.take_zero]
        conv => cbv
        obtain ⟨M1, hM1⟩ : ∃ M1, M1 = isV F := ⟨_, rfl⟩
        have hMM : M1 = [.int .i64 (.sym 22), .int .i64 (.sym 0), .int .i64 (.sym 0), .int .i64 (.sym 0), .vsl (.sym 0) true []] := by rw [hM1, hF1]; rfl
        have hle : pvles [.int .i64 (.lit 22), .int .i64 (.lit 0), .int .i64 (.lit 0), .int .i64 (.lit 0), .nils] M1 := by rw [hMM]; simp [pvles, pvle, I.val]
        have hN1 : (1 : Int) = F.length := by rw [hF1]; rfl
        unfold pvles at hle
        refine Joined.mk _ (Re.at [(1, 0)] []) ⟨1, M1, rfl, hM1, hN1⟩
      · have g8 : ¬ i = 0 := g8
        have hF1 : F = A.take i.toNat := by
          rw [hF, firstV, ← hT, if_neg]
          intro h
          have := congrArg List.length h
          rw [List.length_take] at this
          have this : min i.toNat A.length = 0 := this
          omega
        have hN1 : i = F.length := by rw [hF1, List.length_take]; omega
        conv => cbv
        refine Joined.mk _ (Re.at [(0, 0)] []) ⟨i, M, rfl, by rw [hF1]; exact hM, hN1⟩
    · rintro s ⟨N, M, rfl, hM, hN⟩
      conv => cbv
      refine LoopF.mk (fun kk s => ∃ (i : Int) (M : List PV), s = ⟨.p (.vsl (.sym k) true L) :: (undefs 2 ++ .sl 0 36 5 (.lit 0) (.sym N) :: .undef :: .p (.int .i64 (.sym N)) :: .p (.int .i64 (.sym i)) :: undefs 39), [(0, .pure true M)], 1⟩ ∧ M = isV (stepV F F.length i.toNat) ∧ 0 ≤ i ∧ i ≤ N ∧ kk = (N - i).toNat) N.toNat _
        (Re.at [(0, 0)] []) ⟨0, M, rfl, hM, by omega, by omega, by omega⟩ ?_
      rintro kk s ⟨i, M, rfl, hM, hi0, hiN, hkk⟩
      conv => cbv
      refine Br.mk (fun g => ?_) (fun g => ?_)
      case refine_2 =>
        have g : ¬ i < N := g
        have hM2 : M = isV (stepV F F.length F.length) := by rw [hM, show i.toNat = F.length by omega]
        have hN2 : N = ((stepV F F.length F.length).length : Int) := by rw [stepV_len]; exact hN
        conv => cbv
        refine RetF.mk [.p (.vsl (.sym N) true M)] [] 0 (Re.at [] []) rfl ⟨⟨N, M, rfl, hN2, hM2⟩, rfl, rfl⟩
      have g : i < N := g
      obtain ⟨x, hx⟩ : ∃ x, F[i.toNat]? = some x := ⟨_, List.getElem?_eq_getElem (by omega)⟩
      have hxc := hFc x (List.mem_of_getElem? hx)
      have hxg := isV_get (show (stepV F F.length i.toNat)[i.toNat]? = some x by rw [stepV_get (by omega)]; exact hx)
      rw [← hM] at hxg
      obtain ⟨xo, hxo⟩ : ∃ q, q = x.op := ⟨_, rfl⟩
      obtain ⟨xa, hxa⟩ : ∃ q, q = x.a := ⟨_, rfl⟩
      obtain ⟨xb, hxb⟩ : ∃ q, q = x.b := ⟨_, rfl⟩
      obtain ⟨xn, hxn⟩ : ∃ q, q = x.n := ⟨_, rfl⟩
      obtain ⟨xk, hxk⟩ : ∃ q, q = ((x.cs.length : Nat) : Int) := ⟨_, rfl⟩
      obtain ⟨xl, hxl⟩ : ∃ q, q = csV x.cs := ⟨_, rfl⟩
      rw [← hxo, ← hxa, ← hxb, ← hxn, ← hxk, ← hxl] at hxg
      obtain ⟨k', rfl⟩ : ∃ k', kk = k' + 1 := ⟨kk - 1, by omega⟩
      obtain ⟨Y, hY⟩ : ∃ Y, Y = instrV x N := ⟨_, rfl⟩
      conv => cbv
      refine Need.mk ⟨by show (0 : Int) ≤ i; omega, by show i < N; omega⟩ ?_
      conv => cbv
      refine Sum.mk fun w hw => ?_
      have hw : w = i * 5 := hw
      conv => cbv
      refine Cell.at w (i.toNat * 5) hxg.1 (by simp [I.val]) (by omega) ?_
      conv => cbv
      refine Cell.at (w + 1) (i.toNat * 5 + 1) hxg.2.1 (by simp [I.val]) (by omega) ?_
      conv => cbv
      refine Cell.at (w + 2) (i.toNat * 5 + 2) hxg.2.2.1 (by simp [I.val]) (by omega) ?_
      conv => cbv
      refine Cell.at (w + 3) (i.toNat * 5 + 3) hxg.2.2.2.1 (by simp [I.val]) (by omega) ?_
      conv => cbv
      refine Cell.at (w + 4) (i.toNat * 5 + 4) hxg.2.2.2.2 (by simp [I.val]) (by omega) ?_
      conv => cbv
      refine callF_frame (instr_lx x xo xa xb xn xk N xl hxo hxa hxb hxn hxk hxl hxc (by omega) (by omega)) [] rfl trivial rfl rfl (fun r2 h' n' hrr => ?_)
      obtain ⟨e1, e2, e3⟩ := hrr
      subst e2 e3
      rw [← hY] at e1
      cases e1 with
      | mk yo ya yb yn yk yL h1 h2 h3 h4 h5 h6 =>
      conv => cbv
      refine Need.mk ⟨by show (0 : Int) ≤ i; omega, by show i < N; omega⟩ ?_
      conv => cbv
      refine Sum.mk fun w2 hw2 => ?_
      have hw2 : w2 = i * 5 := hw2
      have hlen : M.length = F.length * 5 := by rw [hM, isV_length, stepV_len]
      conv => cbv
      refine Need.mk (by show w2 + 5 ≤ (M.length : Int); omega) ?_
      conv => cbv
      refine Upd.mk fun M2 hM2 => ?_
      have hM2 : M2 = updL M w2.toNat [.int .i64 (.sym yo), .int .i64 (.sym ya), .int .i64 (.sym yb), .int .i64 (.sym yn), .vsl (.sym yk) true yL] := hM2
      have hM3 : M2 = isV (stepV F F.length (i.toNat + 1)) := by
        rw [hM2, hM, show w2.toNat = i.toNat * 5 by omega, h1, h2, h3, h4, h5, h6, show ([.int .i64 (.sym Y.op), .int .i64 (.sym Y.a), .int .i64 (.sym Y.b), .int .i64 (.sym Y.n), .vsl (.sym ((Y.cs.length : Nat) : Int)) true (csV Y.cs)] : List PV) = isC Y from rfl, updL_isV _ _ _ (by rw [stepV_len]; omega), hY, hN, stepV_set hx]
      clear hM2
      conv => cbv
      refine Fit.mk (by show (-9223372036854775808 : Int) ≤ i + 1; omega) (by show i + 1 ≤ 9223372036854775807; omega) fun i2 hi2 => ?_
      have hi2 : i2 = i + 1 := hi2
      rw [show i.toNat + 1 = i2.toNat by omega] at hM3
      conv => cbv
      refine Again.mk k' _ (Nat.lt_succ_self _) (Re.at [(0, 0)] []) ⟨i2, M2, rfl, hM3, by omega, by omega, by omega⟩
  have g : i < k := g
  conv => cbv
  refine Br.mk (fun g2 => ?_) (fun g2 => ?_)
  case refine_2 =>
    have g2 : ¬ i < 40 := g2
    have hT : A.take i.toNat = A.take 40 := by
      rw [show i.toNat = 40 by omega]
    conv => cbv
    refine JoinF.mk (fun s => ∃ (N : Int) (M : List PV), s = ⟨.p (.vsl (.sym k) true L) :: (undefs 2 ++ .sl 0 36 5 (.lit 0) (.sym N) :: undefs 42), [(0, .pure true M)], 1⟩ ∧ M = isV F ∧ N = F.length) ?_ ?_
    · conv => cbv
      refine Br.mk (fun g8 => ?_) (fun g8 => ?_)
      · have g8 : i = 0 := g8
        have hF1 : F = [⟨22, 0, 0, 0, []⟩] := by rw [hF, firstV, if_pos]; rw [← hT, show i.toNat = 0 by omega, List.take_zero]
        conv => cbv
        obtain ⟨M1, hM1⟩ : ∃ M1, M1 = isV F := ⟨_, rfl⟩
        have hMM : M1 = [.int .i64 (.sym 22), .int .i64 (.sym 0), .int .i64 (.sym 0), .int .i64 (.sym 0), .vsl (.sym 0) true []] := by rw [hM1, hF1]; rfl
        have hle : pvles [.int .i64 (.lit 22), .int .i64 (.lit 0), .int .i64 (.lit 0), .int .i64 (.lit 0), .nils] M1 := by rw [hMM]; simp [pvles, pvle, I.val]
        have hN1 : (1 : Int) = F.length := by rw [hF1]; rfl
        unfold pvles at hle
        refine Joined.mk _ (Re.at [(1, 0)] []) ⟨1, M1, rfl, hM1, hN1⟩
      · have g8 : ¬ i = 0 := g8
        have hF1 : F = A.take i.toNat := by
          rw [hF, firstV, ← hT, if_neg]
          intro h
          have := congrArg List.length h
          rw [List.length_take] at this
          have this : min i.toNat A.length = 0 := this
          omega
        have hN1 : i = F.length := by rw [hF1, List.length_take]; omega
        conv => cbv
        refine Joined.mk _ (Re.at [(0, 0)] []) ⟨i, M, rfl, by rw [hF1]; exact hM, hN1⟩
    · rintro s ⟨N, M, rfl, hM, hN⟩
      conv => cbv
      refine LoopF.mk (fun kk s => ∃ (i : Int) (M : List PV), s = ⟨.p (.vsl (.sym k) true L) :: (undefs 2 ++ .sl 0 36 5 (.lit 0) (.sym N) :: .undef :: .p (.int .i64 (.sym N)) :: .p (.int .i64 (.sym i)) :: undefs 39), [(0, .pure true M)], 1⟩ ∧ M = isV (stepV F F.length i.toNat) ∧ 0 ≤ i ∧ i ≤ N ∧ kk = (N - i).toNat) N.toNat _
        (Re.at [(0, 0)] []) ⟨0, M, rfl, hM, by omega, by omega, by omega⟩ ?_
      rintro kk s ⟨i, M, rfl, hM, hi0, hiN, hkk⟩
      conv => cbv
      refine Br.mk (fun g => ?_) (fun g => ?_)
      case refine_2 =>
        have g : ¬ i < N := g
        have hM2 : M = isV (stepV F F.length F.length) := by rw [hM, show i.toNat = F.length by omega]
        have hN2 : N = ((stepV F F.length F.length).length : Int) := by rw [stepV_len]; exact hN
        conv => cbv
        refine RetF.mk [.p (.vsl (.sym N) true M)] [] 0 (Re.at [] []) rfl ⟨⟨N, M, rfl, hN2, hM2⟩, rfl, rfl⟩
      have g : i < N := g
      obtain ⟨x, hx⟩ : ∃ x, F[i.toNat]? = some x := ⟨_, List.getElem?_eq_getElem (by omega)⟩
      have hxc := hFc x (List.mem_of_getElem? hx)
      have hxg := isV_get (show (stepV F F.length i.toNat)[i.toNat]? = some x by rw [stepV_get (by omega)]; exact hx)
      rw [← hM] at hxg
      obtain ⟨xo, hxo⟩ : ∃ q, q = x.op := ⟨_, rfl⟩
      obtain ⟨xa, hxa⟩ : ∃ q, q = x.a := ⟨_, rfl⟩
      obtain ⟨xb, hxb⟩ : ∃ q, q = x.b := ⟨_, rfl⟩
      obtain ⟨xn, hxn⟩ : ∃ q, q = x.n := ⟨_, rfl⟩
      obtain ⟨xk, hxk⟩ : ∃ q, q = ((x.cs.length : Nat) : Int) := ⟨_, rfl⟩
      obtain ⟨xl, hxl⟩ : ∃ q, q = csV x.cs := ⟨_, rfl⟩
      rw [← hxo, ← hxa, ← hxb, ← hxn, ← hxk, ← hxl] at hxg
      obtain ⟨k', rfl⟩ : ∃ k', kk = k' + 1 := ⟨kk - 1, by omega⟩
      obtain ⟨Y, hY⟩ : ∃ Y, Y = instrV x N := ⟨_, rfl⟩
      conv => cbv
      refine Need.mk ⟨by show (0 : Int) ≤ i; omega, by show i < N; omega⟩ ?_
      conv => cbv
      refine Sum.mk fun w hw => ?_
      have hw : w = i * 5 := hw
      conv => cbv
      refine Cell.at w (i.toNat * 5) hxg.1 (by simp [I.val]) (by omega) ?_
      conv => cbv
      refine Cell.at (w + 1) (i.toNat * 5 + 1) hxg.2.1 (by simp [I.val]) (by omega) ?_
      conv => cbv
      refine Cell.at (w + 2) (i.toNat * 5 + 2) hxg.2.2.1 (by simp [I.val]) (by omega) ?_
      conv => cbv
      refine Cell.at (w + 3) (i.toNat * 5 + 3) hxg.2.2.2.1 (by simp [I.val]) (by omega) ?_
      conv => cbv
      refine Cell.at (w + 4) (i.toNat * 5 + 4) hxg.2.2.2.2 (by simp [I.val]) (by omega) ?_
      conv => cbv
      refine callF_frame (instr_lx x xo xa xb xn xk N xl hxo hxa hxb hxn hxk hxl hxc (by omega) (by omega)) [] rfl trivial rfl rfl (fun r2 h' n' hrr => ?_)
      obtain ⟨e1, e2, e3⟩ := hrr
      subst e2 e3
      rw [← hY] at e1
      cases e1 with
      | mk yo ya yb yn yk yL h1 h2 h3 h4 h5 h6 =>
      conv => cbv
      refine Need.mk ⟨by show (0 : Int) ≤ i; omega, by show i < N; omega⟩ ?_
      conv => cbv
      refine Sum.mk fun w2 hw2 => ?_
      have hw2 : w2 = i * 5 := hw2
      have hlen : M.length = F.length * 5 := by rw [hM, isV_length, stepV_len]
      conv => cbv
      refine Need.mk (by show w2 + 5 ≤ (M.length : Int); omega) ?_
      conv => cbv
      refine Upd.mk fun M2 hM2 => ?_
      have hM2 : M2 = updL M w2.toNat [.int .i64 (.sym yo), .int .i64 (.sym ya), .int .i64 (.sym yb), .int .i64 (.sym yn), .vsl (.sym yk) true yL] := hM2
      have hM3 : M2 = isV (stepV F F.length (i.toNat + 1)) := by
        rw [hM2, hM, show w2.toNat = i.toNat * 5 by omega, h1, h2, h3, h4, h5, h6, show ([.int .i64 (.sym Y.op), .int .i64 (.sym Y.a), .int .i64 (.sym Y.b), .int .i64 (.sym Y.n), .vsl (.sym ((Y.cs.length : Nat) : Int)) true (csV Y.cs)] : List PV) = isC Y from rfl, updL_isV _ _ _ (by rw [stepV_len]; omega), hY, hN, stepV_set hx]
      clear hM2
      conv => cbv
      refine Fit.mk (by show (-9223372036854775808 : Int) ≤ i + 1; omega) (by show i + 1 ≤ 9223372036854775807; omega) fun i2 hi2 => ?_
      have hi2 : i2 = i + 1 := hi2
      rw [show i.toNat + 1 = i2.toNat by omega] at hM3
      conv => cbv
      refine Again.mk k' _ (Nat.lt_succ_self _) (Re.at [(0, 0)] []) ⟨i2, M2, rfl, hM3, by omega, by omega, by omega⟩
  have g2 : i < 40 := g2
  conv => cbv
  obtain ⟨x, hx⟩ : ∃ x, A[i.toNat]? = some x := ⟨_, List.getElem?_eq_getElem (by omega)⟩
  have hxg := isV_get hx
  rw [← hL] at hxg
  obtain ⟨xo, hxo⟩ : ∃ q, q = x.op := ⟨_, rfl⟩
  obtain ⟨xa, hxa⟩ : ∃ q, q = x.a := ⟨_, rfl⟩
  obtain ⟨xb, hxb⟩ : ∃ q, q = x.b := ⟨_, rfl⟩
  obtain ⟨xn, hxn⟩ : ∃ q, q = x.n := ⟨_, rfl⟩
  obtain ⟨xk, hxk⟩ : ∃ q, q = ((x.cs.length : Nat) : Int) := ⟨_, rfl⟩
  obtain ⟨xl, hxl⟩ : ∃ q, q = csV x.cs := ⟨_, rfl⟩
  rw [← hxo, ← hxa, ← hxb, ← hxn, ← hxk, ← hxl] at hxg
  obtain ⟨k', rfl⟩ : ∃ k', kk = k' + 1 := ⟨kk - 1, by omega⟩
  conv => cbv
  refine Need.mk ⟨by show (0 : Int) ≤ i; omega, by show i < k; omega⟩ ?_
  conv => cbv
  refine Sum.mk fun w hw => ?_
  have hw : w = i * 5 := hw
  conv => cbv
  refine Cell.at w (i.toNat * 5) hxg.1 (by simp [I.val]) (by omega) ?_
  conv => cbv
  refine Cell.at (w + 1) (i.toNat * 5 + 1) hxg.2.1 (by simp [I.val]) (by omega) ?_
  conv => cbv
  refine Cell.at (w + 2) (i.toNat * 5 + 2) hxg.2.2.1 (by simp [I.val]) (by omega) ?_
  conv => cbv
  refine Cell.at (w + 3) (i.toNat * 5 + 3) hxg.2.2.2.1 (by simp [I.val]) (by omega) ?_
  conv => cbv
  refine Cell.at (w + 4) (i.toNat * 5 + 4) hxg.2.2.2.2 (by simp [I.val]) (by omega) ?_
  conv => cbv
  refine Room.new rfl ?_
  conv => cbv
  refine Room.new ⟨?_, ?_, ?_⟩ ?_
  · show (M.length : Int) = i * 5; rw [hM, isV_length, List.length_take]; omega
  · show (i + 1) * 56 ≤ 140737488355328; omega
  · show i + 1 ≤ 9223372036854775807; omega
  conv => cbv
  refine Upd.mk fun M2 hM2 => ?_
  have hM2 : M2 = isV (A.take (i.toNat + 1)) := by rw [List.take_add_one, hx, Option.toList_some, isV_snoc, ← hM, isC, ← hxo, ← hxa, ← hxb, ← hxn, ← hxk, ← hxl]; exact hM2
  conv => cbv
  refine Sum.mk fun j2 hj2 => ?_
  have hj2 : j2 = i + 1 := hj2
  conv => cbv
  refine Fit.mk (by show (-9223372036854775808 : Int) ≤ i + 1; omega) (by show i + 1 ≤ 9223372036854775807; omega) fun i2 hi2 => ?_
  have hi2 : i2 = i + 1 := hi2
  rw [show i.toNat + 1 = i2.toNat by omega] at hM2
  obtain rfl : i2 = j2 := by omega
  conv => cbv
  refine Again.mk k' _ (Nat.lt_succ_self _) (Re.at [(2, 0)] []) ⟨i2, M2, rfl, hM2, by omega, by omega, by omega, by omega⟩
end Go.Proofs.YtfjdifeofnpcnaaDoor
