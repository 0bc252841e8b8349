/-
  CodeNumbers: the law.
-/
import Derived.Test.YtnbloimkagabjaaDoorBf

namespace Go.Proofs.YtnbloimkagabjaaDoor

open Go Go.LX
set_option maxRecDepth 100000
set_option linter.unusedVariables false
set_option linter.unusedSimpArgs false

set_option maxHeartbeats 8000000 in
theorem codeNumbers_lx (n which : Int) (o : Unit → Obj) (ho : IsPow o) : CallF (fun _ => Tryd.prog) 8 [.p (.int .i64 (.sym n)), .p (.int .i64 (.sym which))] [(0, .fix 0 o)] 1 (fun r h n => r = .p (.bool true)) := by
  refine callF_of_body tok Tryd.func8 (by kernel_rfl) rfl rfl rfl ?_; conv => cbv
  refine Fit.wrap fun xn hxn => ?_
  have hxn : xn = IntKind.u64.wrap n := hxn
  have hyn : 0 ≤ xn := by rw [hxn]; simp [IntKind.wrap, IntKind.bits, IntKind.signed]; omega
  clear hxn
  conv => cbv
  refine Sum.mk fun tn htn => ?_
  have htn : tn = xn % 10000 := (show tn = xn.tmod 10000 from htn).trans (Int.tmod_eq_emod_of_nonneg hyn)
  conv => cbv
  refine Fit.mk (by show (-9223372036854775808 : Int) ≤ tn; omega) (by show tn ≤ 9223372036854775807; omega) fun m hm => ?_
  have hm : m = tn := hm
  have hm0 : 0 ≤ m := by omega
  have hm1 : m < 10000 := by omega
  clear hm htn hyn
  conv => cbv
  refine callF_frame (digits_ok m (by omega) (by omega)) [] rfl trivial rfl rfl (fun r2 h' n' hrr => ?_)
  obtain ⟨⟨dz, e1, hdz⟩, e2, e3⟩ := hrr
  subst e1 e2 e3
  obtain ⟨d, hd⟩ : ∃ d, d = Lib.itoa m := ⟨_, rfl⟩
  rw [← hd] at hdz
  have hdd : ∀ c ∈ d, isD c = true := by rw [hd, itoa_nn hm0]; exact dd_digits _
  have hdn : numO d = some m := by rw [hd]; exact numO_itoa hm0 (by omega)
  have hdi := numO_inv hdn
  have hdl : 1 ≤ d.length ∧ d.length ≤ 4 := ⟨by have := List.length_pos_iff.2 hdi.2.2.2.1; omega, hdi.2.2.2.2.1⟩
  have hdc : Clean d := by rw [hd]; exact itoa_clean _
  have hdzs : (dz.size : Int) = d.length := by rw [hdz, bol_size]
  conv => cbv
  refine Fit.wrap fun xn hxn => ?_
  have hxn : xn = IntKind.u64.wrap which := hxn
  have hyn : 0 ≤ xn := by rw [hxn]; simp [IntKind.wrap, IntKind.bits, IntKind.signed]; omega
  clear hxn
  conv => cbv
  refine Sum.mk fun tn htn => ?_
  have htn : tn = xn % 9 := (show tn = xn.tmod 9 from htn).trans (Int.tmod_eq_emod_of_nonneg hyn)
  conv => cbv
  refine Fit.mk (by show (-9223372036854775808 : Int) ≤ tn; omega) (by show tn ≤ 9223372036854775807; omega) fun q hq => ?_
  have hq : q = tn := hq
  have hq0 : 0 ≤ q := by omega
  have hq1 : q < 9 := by omega
  clear hq htn hyn
  conv => cbv
  refine Need.mk ⟨by show (0 : Int) ≤ q; omega, by show q < 9; omega⟩ ?_
  conv => cbv
  have hq : ∃ S, ([.str fun _ => ⟨⟨[61, 97]⟩⟩, .str fun _ => ⟨⟨[109, 97]⟩⟩, .str fun _ => ⟨⟨[103]⟩⟩, .str fun _ => ⟨⟨[106]⟩⟩, .str fun _ => ⟨⟨[122, 97]⟩⟩, .str fun _ => ⟨⟨[116, 97]⟩⟩, .str fun _ => ⟨⟨[102, 97]⟩⟩, .str fun _ => ⟨⟨[83, 115, 97, 98]⟩⟩, .str fun _ => ⟨⟨[83, 101]⟩⟩] : List PV)[q.toNat]? = some (.str fun _ => S) ∧ S = bytesOfL (preN q.toNat) := by
    have hc : q.toNat = 0 ∨ q.toNat = 1 ∨ q.toNat = 2 ∨ q.toNat = 3 ∨ q.toNat = 4 ∨ q.toNat = 5 ∨ q.toNat = 6 ∨ q.toNat = 7 ∨ q.toNat = 8 := by omega
    rcases hc with h | h | h | h | h | h | h | h | h <;> rw [h] <;> exact ⟨_, rfl, rfl⟩
  obtain ⟨S, hS1, hS⟩ := hq
  refine Cell.at q q.toNat hS1 (by simp [I.val]) rfl ?_
  obtain ⟨P, hP⟩ : ∃ P, P = preN q.toNat := ⟨_, rfl⟩
  have hPc := pre_clean q.toNat
  have hdp := fun y hy => dec_pre q.toNat (by omega) y hy
  rw [← hP] at hS hPc hdp
  have hSs : S.size ≤ 4 := by rw [hS, bol_size]; exact hPc.2.2
  conv => cbv
  refine Need.mk (by show S.size + dz.size ≤ 9223372036854775807; omega) ?_
  conv => cbv
  refine Str.mk fun z1 hz1 => ?_
  have hz1 : z1 = bytesOfL (P ++ d) := by
    have : z1 = S ++ dz := hz1
    rw [this, hS, hdz, bol_add]
  have hz1s : z1.size ≤ 1000 := by rw [hz1, bol_size, List.length_append]; omega
  have hE1 : decodeV z1 = ([insN q.toNat m], 0, 0) := by
    obtain ⟨la, ta⟩ := lead_all d hdd
    rw [hz1, dec_line _ (clean_app hPc.1 hdc) (by simp [hPc.2.1]) (by rw [List.length_append]; omega), hdp d (.inl ta), if_pos ta, la, hdn]; rfl
  conv => cbv
  refine callF_frame (decode_lx z1 (by omega)) [] rfl trivial rfl rfl (fun r2 h' n' hrr => ?_)
  obtain ⟨e1, e2, e3⟩ := hrr
  subst e2 e3
  cases e1 with
  | mk k1 a1 e1 L1 x1 hD1 hk1 hL1 =>
  rw [hE1] at hD1
  conv => cbv
  refine Sum.mk fun dl hdl2 => ?_
  have hdl2 : dl = (d.length : Int) := (show dl = (dz.size : Int) from hdl2).trans hdzs
  conv => cbv
  refine Fit.mk (by show (-9223372036854775808 : Int) ≤ 4 - dl; omega) (by show 4 - dl ≤ 9223372036854775807; omega) fun v4 hv4 => ?_
  have hv4 : v4 = 4 - dl := hv4
  conv => cbv
  refine Need.mk ⟨by show (0 : Int) ≤ 0; omega, by show (0 : Int) ≤ v4; omega, by show v4 ≤ 4; omega⟩ ?_
  conv => cbv
  refine Str.mk fun z0 hz0 => ?_
  obtain ⟨Z, hZ⟩ : ∃ Z, Z = List.replicate v4.toNat (48 : UInt8) := ⟨_, rfl⟩
  have hZl : Z.length = v4.toNat := by rw [hZ, List.length_replicate]
  have hz0 : z0 = bytesOfL Z := by
    have h1 : z0 = (bytesOfL [48, 48, 48, 48]).extract (0 : Int).toNat v4.toNat := hz0
    rw [h1, bol_ext _ _ _ (by show v4.toNat ≤ 4; omega), hZ]
    have hc : v4.toNat = 0 ∨ v4.toNat = 1 ∨ v4.toNat = 2 ∨ v4.toNat = 3 := by omega
    rcases hc with h | h | h | h <;> rw [h] <;> rfl
  have hz0s : z0.size ≤ 4 := by rw [hz0, bol_size]; omega
  conv => cbv
  refine Need.mk (by show S.size + z0.size ≤ 9223372036854775807; omega) ?_
  conv => cbv
  refine Str.mk fun w1 hw1 => ?_
  have hw1 : w1 = bytesOfL (P ++ Z) := by
    have : w1 = S ++ z0 := hw1
    rw [this, hS, hz0, bol_add]
  have hw1s : w1.size ≤ 1000 := by rw [hw1, bol_size, List.length_append]; omega
  conv => cbv
  refine Need.mk (by show w1.size + dz.size ≤ 9223372036854775807; omega) ?_
  conv => cbv
  refine Str.mk fun z2 hz2 => ?_
  have hz2 : z2 = bytesOfL (P ++ (Z ++ d)) := by
    have : z2 = w1 ++ dz := hz2
    rw [this, hw1, hdz, bol_add, List.append_assoc]
  have hz2s : z2.size ≤ 1000 := by rw [hz2, bol_size, List.length_append, List.length_append]; omega
  have hzd : ∀ k : Nat, ∀ c ∈ List.replicate k (48 : UInt8) ++ d, isD c = true := fun k c hc => by
    rcases List.mem_append.1 hc with hc | hc
    · rw [List.eq_of_mem_replicate hc]; rfl
    · exact hdd c hc
  have hcd : ∀ l : List UInt8, (∀ c ∈ l, isD c = true) → Clean l := fun l hl c hc => by
    have := hl c hc
    simp only [isD, decide_eq_true_eq] at this; omega
  have hE2 : decodeV z2 = ([insN q.toNat m], 0, 0) := by
    obtain ⟨la, ta⟩ := lead_all (Z ++ d) (by rw [hZ]; exact hzd _)
    have hn : numO (Z ++ d) = some m := by
      rw [numO_go _ (by simp [hdi.2.2.2.1]) (by rw [List.length_append]; omega), if_pos (List.all_eq_true.2 (by rw [hZ]; exact hzd _)), hZ, numB_zeros, ← hdn, numO_go _ hdi.2.2.2.1 hdl.2, if_pos (List.all_eq_true.2 hdd)]
    rw [hz2, dec_line _ (clean_app hPc.1 (hcd _ (by rw [hZ]; exact hzd _))) (by simp [hPc.2.1]) (by rw [List.length_append, List.length_append]; omega), hdp (Z ++ d) (.inl ta), if_pos ta, la, hn]; rfl
  conv => cbv
  refine callF_frame (decode_lx z2 (by omega)) [] rfl trivial rfl rfl (fun r2 h' n' hrr => ?_)
  obtain ⟨e1, e2, e3⟩ := hrr
  subst e2 e3
  cases e1 with
  | mk k2 a2 e2 L2 x2 hD2 hk2 hL2 =>
  rw [hE2] at hD2
  conv => cbv
  refine Need.mk (by show S.size + 4 ≤ 9223372036854775807; omega) ?_
  conv => cbv
  refine Str.mk fun w2 hw2 => ?_
  have hw2 : w2 = bytesOfL (P ++ List.replicate 4 48) := by
    have : w2 = S ++ bytesOfL (List.replicate 4 48) := hw2
    rw [this, hS, bol_add]
  have hw2s : w2.size ≤ 1000 := by rw [hw2, bol_size, List.length_append, List.length_replicate]; omega
  conv => cbv
  refine Need.mk (by show w2.size + dz.size ≤ 9223372036854775807; omega) ?_
  conv => cbv
  refine Str.mk fun z3 hz3 => ?_
  have hz3 : z3 = bytesOfL (P ++ (List.replicate 4 48 ++ d)) := by
    have : z3 = w2 ++ dz := hz3
    rw [this, hw2, hdz, bol_add, List.append_assoc]
  have hz3s : z3.size ≤ 1000 := by rw [hz3, bol_size, List.length_append, List.length_append, List.length_replicate]; omega
  have hE3 : decodeV z3 = ([], 1, 5) := by
    obtain ⟨la, ta⟩ := lead_all (List.replicate 4 48 ++ d) (hzd _)
    have hn : numO (List.replicate 4 48 ++ d) = none := by unfold numO; rw [if_pos (.inr (.inl (by rw [List.length_append, List.length_replicate]; omega)))]
    rw [hz3, dec_line _ (clean_app hPc.1 (hcd _ (hzd _))) (by simp [hPc.2.1]) (by rw [List.length_append, List.length_append, List.length_replicate]; omega), hdp _ (.inl ta), if_pos ta, la, hn]; rfl
  conv => cbv
  refine callF_frame (decode_lx z3 (by omega)) [] rfl trivial rfl rfl (fun r2 h' n' hrr => ?_)
  obtain ⟨e1, e2, e3⟩ := hrr
  subst e2 e3
  cases e1 with
  | mk k3 a3 e3 L3 x3 hD3 hk3 hL3 =>
  rw [hE3] at hD3
  conv => cbv
  have hE4 : decodeV S = ([], 1, 5) := by
    have h1 := hdp [] (.inl rfl)
    rw [List.append_nil] at h1
    rw [hS, dec_line _ hPc.1 hPc.2.1 (by omega), h1]; rfl
  refine callF_frame (decode_lx S (by omega)) [] rfl trivial rfl rfl (fun r2 h' n' hrr => ?_)
  obtain ⟨e1, e2, e3⟩ := hrr
  subst e2 e3
  cases e1 with
  | mk k4 a4 e4 L4 x4 hD4 hk4 hL4 =>
  rw [hE4] at hD4
  conv => cbv
  refine Need.mk (by show S.size + dz.size ≤ 9223372036854775807; omega) ?_
  conv => cbv
  refine Str.mk fun w3 hw3 => ?_
  have hw3 : w3 = bytesOfL (P ++ d) := by
    have : w3 = S ++ dz := hw3
    rw [this, hS, hdz, bol_add]
  have hw3s : w3.size ≤ 1000 := by rw [hw3, bol_size, List.length_append]; omega
  conv => cbv
  refine Need.mk (by show w3.size + 1 ≤ 9223372036854775807; omega) ?_
  conv => cbv
  refine Str.mk fun z5 hz5 => ?_
  have hz5 : z5 = bytesOfL (P ++ (d ++ [97])) := by
    have : z5 = w3 ++ bytesOfL [97] := hz5
    rw [this, hw3, bol_add, List.append_assoc]
  have hz5s : z5.size ≤ 1000 := by rw [hz5, bol_size, List.length_append, List.length_append]; simp; omega
  have hE5 : decodeV z5 = ([], 1, 5) := by
    obtain ⟨la, ta⟩ := lead_of d [97] hdd (by simp; rfl)
    rw [hz5, dec_line _ (clean_app hPc.1 (clean_app hdc (by unfold Clean; decide))) (by simp [hPc.2.1]) (by rw [List.length_append, List.length_append]; simp; omega), hdp _ (.inr ⟨97, [], ta, rfl⟩), if_neg (by rw [ta]; simp)]
  conv => cbv
  refine callF_frame (decode_lx z5 (by omega)) [] rfl trivial rfl rfl (fun r2 h' n' hrr => ?_)
  obtain ⟨e1, e2, e3⟩ := hrr
  subst e2 e3
  cases e1 with
  | mk k5 a5 e5 L5 x5 hD5 hk5 hL5 =>
  rw [hE5] at hD5
  conv => cbv
  refine callF_frame (awake02_lx o ho) [(0, 0)] rfl (by simp [hmapOk, nget, hget, renB, okB, renV, renVs, rn, okVs, okV]) rfl rfl (fun r2 h' n' ⟨e1, e2, e3⟩ => ?_)
  subst e1 e2 e3
  obtain ⟨hx1, hr1⟩ := Prod.mk.inj hD1
  obtain ⟨hx2, hr2⟩ := Prod.mk.inj hD2
  have he1 : e1 = 0 := (Prod.mk.inj hr1).2.symm
  have he2 : e2 = 0 := (Prod.mk.inj hr2).2.symm
  have he3 : e3 = 5 := (Prod.mk.inj (Prod.mk.inj hD3).2).2.symm
  have he4 : e4 = 5 := (Prod.mk.inj (Prod.mk.inj hD4).2).2.symm
  have he5 : e5 = 5 := (Prod.mk.inj (Prod.mk.inj hD5).2).2.symm
  have hx12 : x1 = x2 := by rw [← hx1, ← hx2]
  have hcs : ∀ x ∈ x1, x.cs.length ≤ 1000000 := by
    rw [← hx1]
    intro x hx
    rw [List.mem_singleton] at hx
    subst hx
    unfold insN
    repeat' split
    all_goals simp
  have hxl : x1.length ≤ 1000000 := by rw [← hx1]; simp
  conv => cbv
  refine Br.yes (by show e1 = 0; exact he1) ?_
  conv => cbv
  refine Br.yes (by show e2 = 0; exact he2) ?_
  conv => cbv
  refine callF_frame (instrs_lx x1 x2 k1 k2 L1 L2 hk1 hk2 hL1 hL2 hxl hcs) [] rfl trivial rfl rfl (fun r2 h' n' hrr => ?_)
  obtain ⟨⟨b, d1, hb⟩, d2, d3⟩ := hrr
  obtain rfl : b = true := hb.2 hx12
  subst d1 d2 d3
  conv => cbv
  refine Br.yes (by show e3 = 5; exact he3) ?_
  conv => cbv
  refine Br.yes (by show e4 = 5; exact he4) ?_
  conv => cbv
  refine Br.yes (by show e5 = 5; exact he5) ?_
  conv => cbv
  refine RetF.mk [.p (.bool true)] [(0, .fix 0 o)] 1 (Re.at [(0, 0)] []) rfl rfl
end Go.Proofs.YtnbloimkagabjaaDoor
