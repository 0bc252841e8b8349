/-
  CodeEach: the law, part 5.
-/
import Derived.Test.YtnbloimkagabjaaDoorBf

import Derived.Test.YtnbloimkagabjaaDoorKw

namespace Go.Proofs.YtnbloimkagabjaaDoor

open Go Go.LX
set_option maxRecDepth 100000
set_option linter.unusedVariables false
set_option linter.unusedSimpArgs false

set_option maxHeartbeats 16000000 in
theorem each6_lx (which a0 b0 n0 : Int) (o : Unit → Obj) (ho : IsPow o) (hk0 : IntKind.u64.wrap which % 21 = 6) : CallF (fun _ => Tryd.prog) 5 [.p (.int .i64 (.sym which)), .p (.int .i64 (.sym a0)), .p (.int .i64 (.sym b0)), .p (.int .i64 (.sym n0))] [(0, .fix 0 o)] 1 (fun r h n => r = .p (.bool true)) := by
  refine callF_of_body tok Tryd.func5 (by kernel_rfl) rfl rfl rfl ?_; conv => cbv
  refine Fit.wrap fun xn hxn => ?_
  have hxn : xn = IntKind.u64.wrap which := hxn
  have hyn : 0 ≤ xn := by rw [hxn]; simp [IntKind.wrap, IntKind.bits, IntKind.signed]; omega
  conv => cbv
  refine Sum.mk fun tn htn => ?_
  have htn : tn = xn % 21 := (show tn = xn.tmod 21 from htn).trans (Int.tmod_eq_emod_of_nonneg hyn)
  conv => cbv
  refine Fit.mk (by show (-9223372036854775808 : Int) ≤ tn; omega) (by show tn ≤ 9223372036854775807; omega) fun q hq => ?_
  have hq : q = tn := hq
  have hq0 : 0 ≤ q := by omega
  have hq1 : q < 21 := by omega
  have hqv : q = 6 := by rw [hq, htn, hxn]; exact hk0
  clear hq htn hyn
  conv => cbv
  refine Fit.wrap fun xn hxn => ?_
  have hxn : xn = IntKind.u64.wrap a0 := hxn
  have hyn : 0 ≤ xn := by rw [hxn]; simp [IntKind.wrap, IntKind.bits, IntKind.signed]; omega
  clear hxn
  conv => cbv
  refine Sum.mk fun tn htn => ?_
  have htn : tn = xn % 6 := (show tn = xn.tmod 6 from htn).trans (Int.tmod_eq_emod_of_nonneg hyn)
  conv => cbv
  refine Fit.mk (by show (-9223372036854775808 : Int) ≤ tn; omega) (by show tn ≤ 9223372036854775807; omega) fun a ha => ?_
  have ha : a = tn := ha
  have ha0 : 0 ≤ a := by omega
  have ha1 : a < 6 := by omega
  clear ha htn hyn
  conv => cbv
  refine Fit.wrap fun xn hxn => ?_
  have hxn : xn = IntKind.u64.wrap b0 := hxn
  have hyn : 0 ≤ xn := by rw [hxn]; simp [IntKind.wrap, IntKind.bits, IntKind.signed]; omega
  clear hxn
  conv => cbv
  refine Sum.mk fun tn htn => ?_
  have htn : tn = xn % 6 := (show tn = xn.tmod 6 from htn).trans (Int.tmod_eq_emod_of_nonneg hyn)
  conv => cbv
  refine Fit.mk (by show (-9223372036854775808 : Int) ≤ tn; omega) (by show tn ≤ 9223372036854775807; omega) fun b hb => ?_
  have hb : b = tn := hb
  have hb0 : 0 ≤ b := by omega
  have hb1 : b < 6 := by omega
  clear hb htn hyn
  conv => cbv
  refine Fit.wrap fun xn hxn => ?_
  have hxn : xn = IntKind.u64.wrap n0 := hxn
  have hyn : 0 ≤ xn := by rw [hxn]; simp [IntKind.wrap, IntKind.bits, IntKind.signed]; omega
  clear hxn
  conv => cbv
  refine Sum.mk fun tn htn => ?_
  have htn : tn = xn % 10000 := (show tn = xn.tmod 10000 from htn).trans (Int.tmod_eq_emod_of_nonneg hyn)
  conv => cbv
  refine Fit.mk (by show (-9223372036854775808 : Int) ≤ tn; omega) (by show tn ≤ 9223372036854775807; omega) fun n hn => ?_
  have hn : n = tn := hn
  have hn0 : 0 ≤ n := by omega
  have hn1 : n < 10000 := by omega
  clear hn htn hyn
  conv => cbv
  refine Need.mk ⟨by show (0 : Int) ≤ q; omega, by show q < 21; omega⟩ ?_
  conv => cbv
  refine Cell.at (v := .int .i64 (.lit 7)) q 6 rfl (by simp [I.val]) (by omega) ?_
  conv => cbv
  refine Fit.mk (by show (-9223372036854775808 : Int) ≤ q + 1; omega) (by show q + 1 ≤ 9223372036854775807; omega) fun q1 hq1 => ?_
  have hq1 : q1 = q + 1 := hq1
  conv => cbv
  refine Need.mk ⟨by show (0 : Int) ≤ q; omega, by show q ≤ q1; omega, by show q1 ≤ 21; omega⟩ ?_
  conv => cbv
  refine Str.mk fun sz hsz => ?_
  have hsz : sz = bytesOfL [99] := by
    have h1 : sz = (bytesOfL [61, 60, 43, 109, 115, 114, 99, 108, 107, 103, 106, 122, 111, 116, 98, 117, 119, 112, 113, 102, 120]).extract q.toNat q1.toNat := hsz
    rw [h1, bol_ext _ _ _ (by show q1.toNat ≤ 21; omega), show q.toNat = 6 by omega, show q1.toNat = 7 by omega]; rfl
  have hszs : sz.size = 1 := by rw [hsz, bol_size]; rfl
  conv => cbv
  refine read_sound tok (by kernel_rfl) [] [3, 8] [] [0, 1, 2, 3, 4, 5, 6, 7, 8, 9, 10, 11] (by kernel_rfl) ?_
  conv => cbv
  refine Fit.mk (by show (0 : Int) ≤ a; omega) (by show a ≤ 255; omega) fun a1 ha1 => ?_
  have ha1 : a1 = a := ha1
  conv => cbv
  refine Fit.mk (by show (0 : Int) ≤ 97 + a1; omega) (by show 97 + a1 ≤ 255; omega) fun a2 ha2 => ?_
  have ha2 : a2 = 97 + a1 := ha2
  conv => cbv
  refine Need.mk (by show (1 : Int) ≤ ((1 : Nat) : Int); omega) ?_
  conv => cbv
  refine Bytes.mk [regB a] ⟨by show a2 = ((regB a).toNat : Int); rw [regB_nat ha0 (by omega)]; omega, trivial⟩ fun ra hra => ?_
  have hra : ra = bytesOfL [regB a] := hra
  have hras : ra.size = 1 := by rw [hra, bol_size]; rfl
  conv => cbv
  refine Fit.mk (by show (0 : Int) ≤ b; omega) (by show b ≤ 255; omega) fun b1 hb1 => ?_
  have hb1 : b1 = b := hb1
  conv => cbv
  refine Fit.mk (by show (0 : Int) ≤ 97 + b1; omega) (by show 97 + b1 ≤ 255; omega) fun b2 hb2 => ?_
  have hb2 : b2 = 97 + b1 := hb2
  conv => cbv
  refine Need.mk (by show (1 : Int) ≤ ((1 : Nat) : Int); omega) ?_
  conv => cbv
  refine Bytes.mk [regB b] ⟨by show b2 = ((regB b).toNat : Int); rw [regB_nat hb0 (by omega)]; omega, trivial⟩ fun rb hrb => ?_
  have hrb : rb = bytesOfL [regB b] := hrb
  have hrbs : rb.size = 1 := by rw [hrb, bol_size]; rfl
  conv => cbv
  refine Need.mk (by show sz.size + ra.size ≤ 9223372036854775807; omega) ?_
  conv => cbv
  refine Str.mk fun s2 hs2 => ?_
  have hs2q : s2 = sz ++ ra := hs2
  have hs2s : s2.size ≤ 20 := by rw [hs2q, ByteArray.size_append]; omega
  have hs2 : s2 = bytesOfL ([99] ++ [regB a]) := by rw [hs2q, hsz, hra, bol_add]
  conv => cbv
  obtain ⟨X, hXd⟩ : ∃ X : Is, X = ⟨7, a, 0, 0, []⟩ := ⟨_, rfl⟩
  have hXs : Shp X := by
    rw [hXd]; exact shp_mk _ _ _ _ (by decide) (by decide) (by simp [shapeV] <;> omega) (by simp [shapeV] <;> omega) (by simp [shapeV] <;> omega)
  have hX21 : X.op ≠ 21 := by rw [hXd]; show (7 : Int) ≠ 21; decide
  have hXl : s2 = bytesOfL (lineOf X) := by
    rw [hs2, hXd, lineOf_eq _ _ _ _ (by decide)]
    congr 1 <;> simp [fieldsL, shapeV, partL, F3.get, signB, signsL]
  have hXll : (lineOf X).length ≤ 20 := by rw [← bol_size, ← hXl]; omega
  have hXle : (s2.size : Int) = (lineOf X).length := by rw [hXl, bol_size]
  conv => cbv
  refine Need.mk (by show 2 + s2.size ≤ 9223372036854775807; omega) ?_
  conv => cbv
  refine Str.mk fun z1 hz1 => ?_
  have hz1 : z1 = bytesOfL ([120, 10] ++ lineOf X) := by
    have : z1 = bytesOfL [120, 10] ++ s2 := hz1
    rw [this, hXl, bol_add]
  have hz1s : z1.size ≤ 1000 := by rw [hz1, bol_size, List.length_append]; show 2 + _ ≤ _; omega
  conv => cbv
  refine callF_frame (decode_lx z1 (by omega)) [] rfl trivial rfl rfl (fun r2 h' n' hrr => ?_)
  obtain ⟨e1, e2, e3⟩ := hrr
  subst e2 e3
  cases e1 with
  | mk k1 a1 e1 L1 x1 hD1 hk1 hL1 =>
  rw [hz1, each1 X hXs (by omega)] at hD1
  conv => cbv
  refine Need.mk (by show 4 + s2.size ≤ 9223372036854775807; omega) ?_
  conv => cbv
  refine Str.mk fun z2 hz2 => ?_
  have hz2 : z2 = bytesOfL ([120, 10, 120, 10] ++ lineOf X) := by
    have : z2 = bytesOfL [120, 10, 120, 10] ++ s2 := hz2
    rw [this, hXl, bol_add]
  have hz2s : z2.size ≤ 1000 := by rw [hz2, bol_size, List.length_append]; show 4 + _ ≤ _; omega
  conv => cbv
  refine Need.mk (by show z2.size + 1 ≤ 9223372036854775807; omega) ?_
  conv => cbv
  refine Str.mk fun z3 hz3 => ?_
  have hz3 : z3 = bytesOfL ([120, 10, 120, 10] ++ (lineOf X ++ [63])) := by
    have : z3 = z2 ++ bytesOfL [63] := hz3
    rw [this, hz2, bol_add, List.append_assoc]
  have hz3s : z3.size ≤ 1000 := by rw [hz3, bol_size, List.length_append, List.length_append]; show 4 + (_ + 1) ≤ _; omega
  conv => cbv
  refine callF_frame (decode_lx z3 (by omega)) [] rfl trivial rfl rfl (fun r2 h' n' hrr => ?_)
  obtain ⟨e1, e2, e3⟩ := hrr
  subst e2 e3
  cases e1 with
  | mk k3 a3 e3 L3 x3 hD3 hk3 hL3 =>
  rw [hz3, each2 X hXs hX21 (by omega)] at hD3
  conv => cbv
  refine Sum.mk fun fl hfl => ?_
  have hfl : fl = ((lineOf X).length : Int) := (show fl = (s2.size : Int) from hfl).trans hXle
  have hfl1 : 1 ≤ fl := by have := List.length_pos_iff.2 (lineOf_ne X); omega
  conv => cbv
  refine Fit.mk (by show (-9223372036854775808 : Int) ≤ fl - 1; omega) (by show fl - 1 ≤ 9223372036854775807; omega) fun f1 hf1 => ?_
  have hf1 : f1 = fl - 1 := hf1
  conv => cbv
  refine Need.mk ⟨by show (0 : Int) ≤ 0; omega, by show (0 : Int) ≤ f1; omega, by show f1 ≤ (s2.size : Int); omega⟩ ?_
  conv => cbv
  refine Str.mk fun z4 hz4 => ?_
  have hz4 : z4 = bytesOfL (lineOf X).dropLast := by
    have h1 : z4 = s2.extract (0 : Int).toNat f1.toNat := hz4
    rw [h1, hXl, bol_ext _ _ _ (by omega), List.dropLast_eq_take, show f1.toNat = (lineOf X).length - 1 by omega]; rfl
  have hz4s : z4.size ≤ 20 := by rw [hz4, bol_size, List.length_dropLast]; omega
  conv => cbv
  refine Need.mk (by show z4.size + 2 ≤ 9223372036854775807; omega) ?_
  conv => cbv
  refine Str.mk fun z5 hz5 => ?_
  have hz5 : z5 = bytesOfL ((lineOf X).dropLast ++ [10, 120]) := by
    have : z5 = z4 ++ bytesOfL [10, 120] := hz5
    rw [this, hz4, bol_add]
  have hz5s : z5.size ≤ 1000 := by rw [hz5, bol_size, List.length_append, List.length_dropLast]; show _ + 2 ≤ _; omega
  conv => cbv
  refine callF_frame (decode_lx z5 (by omega)) [] rfl trivial rfl rfl (fun r2 h' n' hrr => ?_)
  obtain ⟨e1, e2, e3⟩ := hrr
  subst e2 e3
  cases e1 with
  | mk k5 a5 e5 L5 x5 hD5 hk5 hL5 =>
  conv => cbv
  refine Sum.mk fun gl hgl => ?_
  have hgl : gl = ((lineOf X).length : Int) := (show gl = (s2.size : Int) from hgl).trans hXle
  have hl2 : 2 ≤ (lineOf X).length := by
    rw [hXd, lineOf_eq _ _ _ _ (by decide)]
    simp [fieldsL, shapeV, partL, F3.get] 
  conv => cbv
  refine Br.no (by show ¬ gl = 1; omega) ?_
  conv => cbv
  rw [hz5, each3 X hXs hX21 [] 97 (by rw [hXd]; rfl) (by rw [hXd]; rfl) (by omega)] at hD5
  refine callF_frame (awake02_lx o ho) [(0, 0)] rfl (by simp [hmapOk, nget, hget, renB, okB, renV, renVs, rn, okVs, okV]) rfl rfl (fun r2 h' n' ⟨e1, e2, e3⟩ => ?_)
  subst e1 e2 e3
  obtain ⟨hx1, hr1⟩ := Prod.mk.inj hD1
  have he1 : e1 = 0 := (Prod.mk.inj hr1).2.symm
  have ha1 : a1 = 0 := (Prod.mk.inj hr1).1.symm
  have he3 : e3 = 5 := (Prod.mk.inj (Prod.mk.inj hD3).2).2.symm
  have ha3 : a3 = 3 := (Prod.mk.inj (Prod.mk.inj hD3).2).1.symm
  have hxX : x1 = [⟨22, 0, 0, 0, []⟩, X] := hx1.symm
  have hcs : ∀ x ∈ x1, x.cs.length ≤ 1000000 := by
    rw [hxX, hXd]
    intro x hx
    rcases List.mem_cons.1 hx with rfl | hx
    · decide
    · rw [List.mem_singleton] at hx; subst hx; show 0 ≤ 1000000; decide
  have hxl : x1.length ≤ 1000000 := by rw [hxX]; show 2 ≤ 1000000; decide
  conv => cbv
  refine Br.yes (by show e1 = 0; exact he1) ?_
  conv => cbv
  refine Br.yes (by show a1 = 0; exact ha1) ?_
  conv => cbv
  refine callF_go (instrs_lx x1 [⟨22, 0, 0, 0, []⟩, X] k1 2 L1 [.int .i64 (.sym 22), .int .i64 (.sym 0), .int .i64 (.sym 0), .int .i64 (.sym 0), .vsl (.sym 0) true [], .int .i64 (.sym 7), .int .i64 (.sym a), .int .i64 (.sym 0), .int .i64 (.sym 0), .vsl (.sym 0) true []] hk1 rfl hL1 (by rw [hXd]; rfl) hxl hcs) [(0, .fix 0 o)] (Re.at [(0, 0)] []) rfl rfl (fun r ⟨b, hr, _⟩ => by subst hr; rfl) (fun r hrr => ?_)
  obtain ⟨b9, d1, hb9⟩ := hrr
  obtain rfl : b9 = true := hb9.2 hxX
  subst d1
  conv => cbv
  refine Br.yes (by show e3 = 5; exact he3) ?_
  conv => cbv
  refine Br.yes (by show a3 = 3; exact ha3) ?_
  conv => cbv
  have he5 : e5 = 5 := (Prod.mk.inj (Prod.mk.inj hD5).2).2.symm
  have ha5 : a5 = 1 := (Prod.mk.inj (Prod.mk.inj hD5).2).1.symm
  refine Br.yes (by show e5 = 5; exact he5) ?_
  conv => cbv
  refine Br.yes (by show a5 = 1; exact ha5) ?_
  conv => cbv
  refine RetF.mk [.p (.bool true)] [(0, .fix 0 o)] 1 (Re.at [(0, 0)] []) rfl rfl
set_option maxHeartbeats 16000000 in
theorem each12_lx (which a0 b0 n0 : Int) (o : Unit → Obj) (ho : IsPow o) (hk0 : IntKind.u64.wrap which % 21 = 12) : CallF (fun _ => Tryd.prog) 5 [.p (.int .i64 (.sym which)), .p (.int .i64 (.sym a0)), .p (.int .i64 (.sym b0)), .p (.int .i64 (.sym n0))] [(0, .fix 0 o)] 1 (fun r h n => r = .p (.bool true)) := by
  refine callF_of_body tok Tryd.func5 (by kernel_rfl) rfl rfl rfl ?_; conv => cbv
  refine Fit.wrap fun xn hxn => ?_
  have hxn : xn = IntKind.u64.wrap which := hxn
  have hyn : 0 ≤ xn := by rw [hxn]; simp [IntKind.wrap, IntKind.bits, IntKind.signed]; omega
  conv => cbv
  refine Sum.mk fun tn htn => ?_
  have htn : tn = xn % 21 := (show tn = xn.tmod 21 from htn).trans (Int.tmod_eq_emod_of_nonneg hyn)
  conv => cbv
  refine Fit.mk (by show (-9223372036854775808 : Int) ≤ tn; omega) (by show tn ≤ 9223372036854775807; omega) fun q hq => ?_
  have hq : q = tn := hq
  have hq0 : 0 ≤ q := by omega
  have hq1 : q < 21 := by omega
  have hqv : q = 12 := by rw [hq, htn, hxn]; exact hk0
  clear hq htn hyn
  conv => cbv
  refine Fit.wrap fun xn hxn => ?_
  have hxn : xn = IntKind.u64.wrap a0 := hxn
  have hyn : 0 ≤ xn := by rw [hxn]; simp [IntKind.wrap, IntKind.bits, IntKind.signed]; omega
  clear hxn
  conv => cbv
  refine Sum.mk fun tn htn => ?_
  have htn : tn = xn % 6 := (show tn = xn.tmod 6 from htn).trans (Int.tmod_eq_emod_of_nonneg hyn)
  conv => cbv
  refine Fit.mk (by show (-9223372036854775808 : Int) ≤ tn; omega) (by show tn ≤ 9223372036854775807; omega) fun a ha => ?_
  have ha : a = tn := ha
  have ha0 : 0 ≤ a := by omega
  have ha1 : a < 6 := by omega
  clear ha htn hyn
  conv => cbv
  refine Fit.wrap fun xn hxn => ?_
  have hxn : xn = IntKind.u64.wrap b0 := hxn
  have hyn : 0 ≤ xn := by rw [hxn]; simp [IntKind.wrap, IntKind.bits, IntKind.signed]; omega
  clear hxn
  conv => cbv
  refine Sum.mk fun tn htn => ?_
  have htn : tn = xn % 6 := (show tn = xn.tmod 6 from htn).trans (Int.tmod_eq_emod_of_nonneg hyn)
  conv => cbv
  refine Fit.mk (by show (-9223372036854775808 : Int) ≤ tn; omega) (by show tn ≤ 9223372036854775807; omega) fun b hb => ?_
  have hb : b = tn := hb
  have hb0 : 0 ≤ b := by omega
  have hb1 : b < 6 := by omega
  clear hb htn hyn
  conv => cbv
  refine Fit.wrap fun xn hxn => ?_
  have hxn : xn = IntKind.u64.wrap n0 := hxn
  have hyn : 0 ≤ xn := by rw [hxn]; simp [IntKind.wrap, IntKind.bits, IntKind.signed]; omega
  clear hxn
  conv => cbv
  refine Sum.mk fun tn htn => ?_
  have htn : tn = xn % 10000 := (show tn = xn.tmod 10000 from htn).trans (Int.tmod_eq_emod_of_nonneg hyn)
  conv => cbv
  refine Fit.mk (by show (-9223372036854775808 : Int) ≤ tn; omega) (by show tn ≤ 9223372036854775807; omega) fun n hn => ?_
  have hn : n = tn := hn
  have hn0 : 0 ≤ n := by omega
  have hn1 : n < 10000 := by omega
  clear hn htn hyn
  conv => cbv
  refine Need.mk ⟨by show (0 : Int) ≤ q; omega, by show q < 21; omega⟩ ?_
  conv => cbv
  refine Cell.at (v := .int .i64 (.lit 13)) q 12 rfl (by simp [I.val]) (by omega) ?_
  conv => cbv
  refine Fit.mk (by show (-9223372036854775808 : Int) ≤ q + 1; omega) (by show q + 1 ≤ 9223372036854775807; omega) fun q1 hq1 => ?_
  have hq1 : q1 = q + 1 := hq1
  conv => cbv
  refine Need.mk ⟨by show (0 : Int) ≤ q; omega, by show q ≤ q1; omega, by show q1 ≤ 21; omega⟩ ?_
  conv => cbv
  refine Str.mk fun sz hsz => ?_
  have hsz : sz = bytesOfL [111] := by
    have h1 : sz = (bytesOfL [61, 60, 43, 109, 115, 114, 99, 108, 107, 103, 106, 122, 111, 116, 98, 117, 119, 112, 113, 102, 120]).extract q.toNat q1.toNat := hsz
    rw [h1, bol_ext _ _ _ (by show q1.toNat ≤ 21; omega), show q.toNat = 12 by omega, show q1.toNat = 13 by omega]; rfl
  have hszs : sz.size = 1 := by rw [hsz, bol_size]; rfl
  conv => cbv
  refine read_sound tok (by kernel_rfl) [] [3, 8] [] [0, 1, 2, 3, 4, 5, 6, 7, 8, 9, 10, 11] (by kernel_rfl) ?_
  conv => cbv
  refine Fit.mk (by show (0 : Int) ≤ a; omega) (by show a ≤ 255; omega) fun a1 ha1 => ?_
  have ha1 : a1 = a := ha1
  conv => cbv
  refine Fit.mk (by show (0 : Int) ≤ 97 + a1; omega) (by show 97 + a1 ≤ 255; omega) fun a2 ha2 => ?_
  have ha2 : a2 = 97 + a1 := ha2
  conv => cbv
  refine Need.mk (by show (1 : Int) ≤ ((1 : Nat) : Int); omega) ?_
  conv => cbv
  refine Bytes.mk [regB a] ⟨by show a2 = ((regB a).toNat : Int); rw [regB_nat ha0 (by omega)]; omega, trivial⟩ fun ra hra => ?_
  have hra : ra = bytesOfL [regB a] := hra
  have hras : ra.size = 1 := by rw [hra, bol_size]; rfl
  conv => cbv
  refine Fit.mk (by show (0 : Int) ≤ b; omega) (by show b ≤ 255; omega) fun b1 hb1 => ?_
  have hb1 : b1 = b := hb1
  conv => cbv
  refine Fit.mk (by show (0 : Int) ≤ 97 + b1; omega) (by show 97 + b1 ≤ 255; omega) fun b2 hb2 => ?_
  have hb2 : b2 = 97 + b1 := hb2
  conv => cbv
  refine Need.mk (by show (1 : Int) ≤ ((1 : Nat) : Int); omega) ?_
  conv => cbv
  refine Bytes.mk [regB b] ⟨by show b2 = ((regB b).toNat : Int); rw [regB_nat hb0 (by omega)]; omega, trivial⟩ fun rb hrb => ?_
  have hrb : rb = bytesOfL [regB b] := hrb
  have hrbs : rb.size = 1 := by rw [hrb, bol_size]; rfl
  conv => cbv
  refine Need.mk (by show sz.size + ra.size ≤ 9223372036854775807; omega) ?_
  conv => cbv
  refine Str.mk fun s2 hs2 => ?_
  have hs2q : s2 = sz ++ ra := hs2
  have hs2s : s2.size ≤ 20 := by rw [hs2q, ByteArray.size_append]; omega
  have hs2 : s2 = bytesOfL ([111] ++ [regB a]) := by rw [hs2q, hsz, hra, bol_add]
  conv => cbv
  obtain ⟨X, hXd⟩ : ∃ X : Is, X = ⟨13, a, 0, 0, []⟩ := ⟨_, rfl⟩
  have hXs : Shp X := by
    rw [hXd]; exact shp_mk _ _ _ _ (by decide) (by decide) (by simp [shapeV] <;> omega) (by simp [shapeV] <;> omega) (by simp [shapeV] <;> omega)
  have hX21 : X.op ≠ 21 := by rw [hXd]; show (13 : Int) ≠ 21; decide
  have hXl : s2 = bytesOfL (lineOf X) := by
    rw [hs2, hXd, lineOf_eq _ _ _ _ (by decide)]
    congr 1 <;> simp [fieldsL, shapeV, partL, F3.get, signB, signsL]
  have hXll : (lineOf X).length ≤ 20 := by rw [← bol_size, ← hXl]; omega
  have hXle : (s2.size : Int) = (lineOf X).length := by rw [hXl, bol_size]
  conv => cbv
  refine Need.mk (by show 2 + s2.size ≤ 9223372036854775807; omega) ?_
  conv => cbv
  refine Str.mk fun z1 hz1 => ?_
  have hz1 : z1 = bytesOfL ([120, 10] ++ lineOf X) := by
    have : z1 = bytesOfL [120, 10] ++ s2 := hz1
    rw [this, hXl, bol_add]
  have hz1s : z1.size ≤ 1000 := by rw [hz1, bol_size, List.length_append]; show 2 + _ ≤ _; omega
  conv => cbv
  refine callF_frame (decode_lx z1 (by omega)) [] rfl trivial rfl rfl (fun r2 h' n' hrr => ?_)
  obtain ⟨e1, e2, e3⟩ := hrr
  subst e2 e3
  cases e1 with
  | mk k1 a1 e1 L1 x1 hD1 hk1 hL1 =>
  rw [hz1, each1 X hXs (by omega)] at hD1
  conv => cbv
  refine Need.mk (by show 4 + s2.size ≤ 9223372036854775807; omega) ?_
  conv => cbv
  refine Str.mk fun z2 hz2 => ?_
  have hz2 : z2 = bytesOfL ([120, 10, 120, 10] ++ lineOf X) := by
    have : z2 = bytesOfL [120, 10, 120, 10] ++ s2 := hz2
    rw [this, hXl, bol_add]
  have hz2s : z2.size ≤ 1000 := by rw [hz2, bol_size, List.length_append]; show 4 + _ ≤ _; omega
  conv => cbv
  refine Need.mk (by show z2.size + 1 ≤ 9223372036854775807; omega) ?_
  conv => cbv
  refine Str.mk fun z3 hz3 => ?_
  have hz3 : z3 = bytesOfL ([120, 10, 120, 10] ++ (lineOf X ++ [63])) := by
    have : z3 = z2 ++ bytesOfL [63] := hz3
    rw [this, hz2, bol_add, List.append_assoc]
  have hz3s : z3.size ≤ 1000 := by rw [hz3, bol_size, List.length_append, List.length_append]; show 4 + (_ + 1) ≤ _; omega
  conv => cbv
  refine callF_frame (decode_lx z3 (by omega)) [] rfl trivial rfl rfl (fun r2 h' n' hrr => ?_)
  obtain ⟨e1, e2, e3⟩ := hrr
  subst e2 e3
  cases e1 with
  | mk k3 a3 e3 L3 x3 hD3 hk3 hL3 =>
  rw [hz3, each2 X hXs hX21 (by omega)] at hD3
  conv => cbv
  refine Sum.mk fun fl hfl => ?_
  have hfl : fl = ((lineOf X).length : Int) := (show fl = (s2.size : Int) from hfl).trans hXle
  have hfl1 : 1 ≤ fl := by have := List.length_pos_iff.2 (lineOf_ne X); omega
  conv => cbv
  refine Fit.mk (by show (-9223372036854775808 : Int) ≤ fl - 1; omega) (by show fl - 1 ≤ 9223372036854775807; omega) fun f1 hf1 => ?_
  have hf1 : f1 = fl - 1 := hf1
  conv => cbv
  refine Need.mk ⟨by show (0 : Int) ≤ 0; omega, by show (0 : Int) ≤ f1; omega, by show f1 ≤ (s2.size : Int); omega⟩ ?_
  conv => cbv
  refine Str.mk fun z4 hz4 => ?_
  have hz4 : z4 = bytesOfL (lineOf X).dropLast := by
    have h1 : z4 = s2.extract (0 : Int).toNat f1.toNat := hz4
    rw [h1, hXl, bol_ext _ _ _ (by omega), List.dropLast_eq_take, show f1.toNat = (lineOf X).length - 1 by omega]; rfl
  have hz4s : z4.size ≤ 20 := by rw [hz4, bol_size, List.length_dropLast]; omega
  conv => cbv
  refine Need.mk (by show z4.size + 2 ≤ 9223372036854775807; omega) ?_
  conv => cbv
  refine Str.mk fun z5 hz5 => ?_
  have hz5 : z5 = bytesOfL ((lineOf X).dropLast ++ [10, 120]) := by
    have : z5 = z4 ++ bytesOfL [10, 120] := hz5
    rw [this, hz4, bol_add]
  have hz5s : z5.size ≤ 1000 := by rw [hz5, bol_size, List.length_append, List.length_dropLast]; show _ + 2 ≤ _; omega
  conv => cbv
  refine callF_frame (decode_lx z5 (by omega)) [] rfl trivial rfl rfl (fun r2 h' n' hrr => ?_)
  obtain ⟨e1, e2, e3⟩ := hrr
  subst e2 e3
  cases e1 with
  | mk k5 a5 e5 L5 x5 hD5 hk5 hL5 =>
  conv => cbv
  refine Sum.mk fun gl hgl => ?_
  have hgl : gl = ((lineOf X).length : Int) := (show gl = (s2.size : Int) from hgl).trans hXle
  have hl2 : 2 ≤ (lineOf X).length := by
    rw [hXd, lineOf_eq _ _ _ _ (by decide)]
    simp [fieldsL, shapeV, partL, F3.get] 
  conv => cbv
  refine Br.no (by show ¬ gl = 1; omega) ?_
  conv => cbv
  rw [hz5, each3 X hXs hX21 [] 97 (by rw [hXd]; rfl) (by rw [hXd]; rfl) (by omega)] at hD5
  refine callF_frame (awake02_lx o ho) [(0, 0)] rfl (by simp [hmapOk, nget, hget, renB, okB, renV, renVs, rn, okVs, okV]) rfl rfl (fun r2 h' n' ⟨e1, e2, e3⟩ => ?_)
  subst e1 e2 e3
  obtain ⟨hx1, hr1⟩ := Prod.mk.inj hD1
  have he1 : e1 = 0 := (Prod.mk.inj hr1).2.symm
  have ha1 : a1 = 0 := (Prod.mk.inj hr1).1.symm
  have he3 : e3 = 5 := (Prod.mk.inj (Prod.mk.inj hD3).2).2.symm
  have ha3 : a3 = 3 := (Prod.mk.inj (Prod.mk.inj hD3).2).1.symm
  have hxX : x1 = [⟨22, 0, 0, 0, []⟩, X] := hx1.symm
  have hcs : ∀ x ∈ x1, x.cs.length ≤ 1000000 := by
    rw [hxX, hXd]
    intro x hx
    rcases List.mem_cons.1 hx with rfl | hx
    · decide
    · rw [List.mem_singleton] at hx; subst hx; show 0 ≤ 1000000; decide
  have hxl : x1.length ≤ 1000000 := by rw [hxX]; show 2 ≤ 1000000; decide
  conv => cbv
  refine Br.yes (by show e1 = 0; exact he1) ?_
  conv => cbv
  refine Br.yes (by show a1 = 0; exact ha1) ?_
  conv => cbv
  refine callF_go (instrs_lx x1 [⟨22, 0, 0, 0, []⟩, X] k1 2 L1 [.int .i64 (.sym 22), .int .i64 (.sym 0), .int .i64 (.sym 0), .int .i64 (.sym 0), .vsl (.sym 0) true [], .int .i64 (.sym 13), .int .i64 (.sym a), .int .i64 (.sym 0), .int .i64 (.sym 0), .vsl (.sym 0) true []] hk1 rfl hL1 (by rw [hXd]; rfl) hxl hcs) [(0, .fix 0 o)] (Re.at [(0, 0)] []) rfl rfl (fun r ⟨b, hr, _⟩ => by subst hr; rfl) (fun r hrr => ?_)
  obtain ⟨b9, d1, hb9⟩ := hrr
  obtain rfl : b9 = true := hb9.2 hxX
  subst d1
  conv => cbv
  refine Br.yes (by show e3 = 5; exact he3) ?_
  conv => cbv
  refine Br.yes (by show a3 = 3; exact ha3) ?_
  conv => cbv
  have he5 : e5 = 5 := (Prod.mk.inj (Prod.mk.inj hD5).2).2.symm
  have ha5 : a5 = 1 := (Prod.mk.inj (Prod.mk.inj hD5).2).1.symm
  refine Br.yes (by show e5 = 5; exact he5) ?_
  conv => cbv
  refine Br.yes (by show a5 = 1; exact ha5) ?_
  conv => cbv
  refine RetF.mk [.p (.bool true)] [(0, .fix 0 o)] 1 (Re.at [(0, 0)] []) rfl rfl
set_option maxHeartbeats 16000000 in
theorem each17_lx (which a0 b0 n0 : Int) (o : Unit → Obj) (ho : IsPow o) (hk0 : IntKind.u64.wrap which % 21 = 17) : CallF (fun _ => Tryd.prog) 5 [.p (.int .i64 (.sym which)), .p (.int .i64 (.sym a0)), .p (.int .i64 (.sym b0)), .p (.int .i64 (.sym n0))] [(0, .fix 0 o)] 1 (fun r h n => r = .p (.bool true)) := by
  refine callF_of_body tok Tryd.func5 (by kernel_rfl) rfl rfl rfl ?_; conv => cbv
  refine Fit.wrap fun xn hxn => ?_
  have hxn : xn = IntKind.u64.wrap which := hxn
  have hyn : 0 ≤ xn := by rw [hxn]; simp [IntKind.wrap, IntKind.bits, IntKind.signed]; omega
  conv => cbv
  refine Sum.mk fun tn htn => ?_
  have htn : tn = xn % 21 := (show tn = xn.tmod 21 from htn).trans (Int.tmod_eq_emod_of_nonneg hyn)
  conv => cbv
  refine Fit.mk (by show (-9223372036854775808 : Int) ≤ tn; omega) (by show tn ≤ 9223372036854775807; omega) fun q hq => ?_
  have hq : q = tn := hq
  have hq0 : 0 ≤ q := by omega
  have hq1 : q < 21 := by omega
  have hqv : q = 17 := by rw [hq, htn, hxn]; exact hk0
  clear hq htn hyn
  conv => cbv
  refine Fit.wrap fun xn hxn => ?_
  have hxn : xn = IntKind.u64.wrap a0 := hxn
  have hyn : 0 ≤ xn := by rw [hxn]; simp [IntKind.wrap, IntKind.bits, IntKind.signed]; omega
  clear hxn
  conv => cbv
  refine Sum.mk fun tn htn => ?_
  have htn : tn = xn % 6 := (show tn = xn.tmod 6 from htn).trans (Int.tmod_eq_emod_of_nonneg hyn)
  conv => cbv
  refine Fit.mk (by show (-9223372036854775808 : Int) ≤ tn; omega) (by show tn ≤ 9223372036854775807; omega) fun a ha => ?_
  have ha : a = tn := ha
  have ha0 : 0 ≤ a := by omega
  have ha1 : a < 6 := by omega
  clear ha htn hyn
  conv => cbv
  refine Fit.wrap fun xn hxn => ?_
  have hxn : xn = IntKind.u64.wrap b0 := hxn
  have hyn : 0 ≤ xn := by rw [hxn]; simp [IntKind.wrap, IntKind.bits, IntKind.signed]; omega
  clear hxn
  conv => cbv
  refine Sum.mk fun tn htn => ?_
  have htn : tn = xn % 6 := (show tn = xn.tmod 6 from htn).trans (Int.tmod_eq_emod_of_nonneg hyn)
  conv => cbv
  refine Fit.mk (by show (-9223372036854775808 : Int) ≤ tn; omega) (by show tn ≤ 9223372036854775807; omega) fun b hb => ?_
  have hb : b = tn := hb
  have hb0 : 0 ≤ b := by omega
  have hb1 : b < 6 := by omega
  clear hb htn hyn
  conv => cbv
  refine Fit.wrap fun xn hxn => ?_
  have hxn : xn = IntKind.u64.wrap n0 := hxn
  have hyn : 0 ≤ xn := by rw [hxn]; simp [IntKind.wrap, IntKind.bits, IntKind.signed]; omega
  clear hxn
  conv => cbv
  refine Sum.mk fun tn htn => ?_
  have htn : tn = xn % 10000 := (show tn = xn.tmod 10000 from htn).trans (Int.tmod_eq_emod_of_nonneg hyn)
  conv => cbv
  refine Fit.mk (by show (-9223372036854775808 : Int) ≤ tn; omega) (by show tn ≤ 9223372036854775807; omega) fun n hn => ?_
  have hn : n = tn := hn
  have hn0 : 0 ≤ n := by omega
  have hn1 : n < 10000 := by omega
  clear hn htn hyn
  conv => cbv
  refine Need.mk ⟨by show (0 : Int) ≤ q; omega, by show q < 21; omega⟩ ?_
  conv => cbv
  refine Cell.at (v := .int .i64 (.lit 18)) q 17 rfl (by simp [I.val]) (by omega) ?_
  conv => cbv
  refine Fit.mk (by show (-9223372036854775808 : Int) ≤ q + 1; omega) (by show q + 1 ≤ 9223372036854775807; omega) fun q1 hq1 => ?_
  have hq1 : q1 = q + 1 := hq1
  conv => cbv
  refine Need.mk ⟨by show (0 : Int) ≤ q; omega, by show q ≤ q1; omega, by show q1 ≤ 21; omega⟩ ?_
  conv => cbv
  refine Str.mk fun sz hsz => ?_
  have hsz : sz = bytesOfL [112] := by
    have h1 : sz = (bytesOfL [61, 60, 43, 109, 115, 114, 99, 108, 107, 103, 106, 122, 111, 116, 98, 117, 119, 112, 113, 102, 120]).extract q.toNat q1.toNat := hsz
    rw [h1, bol_ext _ _ _ (by show q1.toNat ≤ 21; omega), show q.toNat = 17 by omega, show q1.toNat = 18 by omega]; rfl
  have hszs : sz.size = 1 := by rw [hsz, bol_size]; rfl
  conv => cbv
  refine read_sound tok (by kernel_rfl) [] [3, 8] [] [0, 1, 2, 3, 4, 5, 6, 7, 8, 9, 10, 11] (by kernel_rfl) ?_
  conv => cbv
  refine Fit.mk (by show (0 : Int) ≤ a; omega) (by show a ≤ 255; omega) fun a1 ha1 => ?_
  have ha1 : a1 = a := ha1
  conv => cbv
  refine Fit.mk (by show (0 : Int) ≤ 97 + a1; omega) (by show 97 + a1 ≤ 255; omega) fun a2 ha2 => ?_
  have ha2 : a2 = 97 + a1 := ha2
  conv => cbv
  refine Need.mk (by show (1 : Int) ≤ ((1 : Nat) : Int); omega) ?_
  conv => cbv
  refine Bytes.mk [regB a] ⟨by show a2 = ((regB a).toNat : Int); rw [regB_nat ha0 (by omega)]; omega, trivial⟩ fun ra hra => ?_
  have hra : ra = bytesOfL [regB a] := hra
  have hras : ra.size = 1 := by rw [hra, bol_size]; rfl
  conv => cbv
  refine Fit.mk (by show (0 : Int) ≤ b; omega) (by show b ≤ 255; omega) fun b1 hb1 => ?_
  have hb1 : b1 = b := hb1
  conv => cbv
  refine Fit.mk (by show (0 : Int) ≤ 97 + b1; omega) (by show 97 + b1 ≤ 255; omega) fun b2 hb2 => ?_
  have hb2 : b2 = 97 + b1 := hb2
  conv => cbv
  refine Need.mk (by show (1 : Int) ≤ ((1 : Nat) : Int); omega) ?_
  conv => cbv
  refine Bytes.mk [regB b] ⟨by show b2 = ((regB b).toNat : Int); rw [regB_nat hb0 (by omega)]; omega, trivial⟩ fun rb hrb => ?_
  have hrb : rb = bytesOfL [regB b] := hrb
  have hrbs : rb.size = 1 := by rw [hrb, bol_size]; rfl
  conv => cbv
  refine Sum.mk fun m hm => ?_
  have hm : m = n % 10 := (show m = n.tmod 10 from hm).trans (Int.tmod_eq_emod_of_nonneg (by omega))
  conv => cbv
  refine Sum.mk fun m2 hm2 => ?_
  have hm2 : m2 = m := (show m2 = n.tmod 10 from hm2).trans ((Int.tmod_eq_emod_of_nonneg (by omega)).trans hm.symm)
  conv => cbv
  refine callF_frame (digits_ok m2 (by omega) (by omega)) [] rfl trivial rfl rfl (fun r2 h' n' hrr => ?_)
  obtain ⟨⟨dz, e1, hdz⟩, e2, e3⟩ := hrr
  subst e1 e2 e3
  have hdzs : dz.size ≤ 5 := by
    rw [hdz, bol_size]
    have := itoa_len (n := m2) (by omega) 3 (by show m2 < ((10000 : Nat) : Int); omega)
    omega
  conv => cbv
  rw [hm2] at hdz
  refine Need.mk (by show sz.size + dz.size ≤ 9223372036854775807; omega) ?_
  conv => cbv
  refine Str.mk fun s1 hs1 => ?_
  have hs1q : s1 = sz ++ dz := hs1
  have hs1s : s1.size ≤ 10 := by rw [hs1q, ByteArray.size_append]; omega
  have hs1 : s1 = bytesOfL ([112] ++ Lib.itoa m) := by rw [hs1q, hsz, hdz, bol_add]
  conv => cbv
  refine Need.mk (by show s1.size + ra.size ≤ 9223372036854775807; omega) ?_
  conv => cbv
  refine Str.mk fun s2 hs2 => ?_
  have hs2q : s2 = s1 ++ ra := hs2
  have hs2s : s2.size ≤ 20 := by rw [hs2q, ByteArray.size_append]; omega
  have hs2 : s2 = bytesOfL (([112] ++ Lib.itoa m) ++ [regB a]) := by rw [hs2q, hs1, hra, bol_add]
  conv => cbv
  obtain ⟨X, hXd⟩ : ∃ X : Is, X = ⟨18, a, 0, m, []⟩ := ⟨_, rfl⟩
  have hXs : Shp X := by
    rw [hXd]; exact shp_mk _ _ _ _ (by decide) (by decide) (by simp [shapeV] <;> omega) (by simp [shapeV] <;> omega) (by simp [shapeV] <;> omega)
  have hX21 : X.op ≠ 21 := by rw [hXd]; show (18 : Int) ≠ 21; decide
  have hXl : s2 = bytesOfL (lineOf X) := by
    rw [hs2, hXd, lineOf_eq _ _ _ _ (by decide)]
    congr 1 <;> simp [fieldsL, shapeV, partL, F3.get, signB, signsL]
  have hXll : (lineOf X).length ≤ 20 := by rw [← bol_size, ← hXl]; omega
  have hXle : (s2.size : Int) = (lineOf X).length := by rw [hXl, bol_size]
  conv => cbv
  refine Need.mk (by show 2 + s2.size ≤ 9223372036854775807; omega) ?_
  conv => cbv
  refine Str.mk fun z1 hz1 => ?_
  have hz1 : z1 = bytesOfL ([120, 10] ++ lineOf X) := by
    have : z1 = bytesOfL [120, 10] ++ s2 := hz1
    rw [this, hXl, bol_add]
  have hz1s : z1.size ≤ 1000 := by rw [hz1, bol_size, List.length_append]; show 2 + _ ≤ _; omega
  conv => cbv
  refine callF_frame (decode_lx z1 (by omega)) [] rfl trivial rfl rfl (fun r2 h' n' hrr => ?_)
  obtain ⟨e1, e2, e3⟩ := hrr
  subst e2 e3
  cases e1 with
  | mk k1 a1 e1 L1 x1 hD1 hk1 hL1 =>
  rw [hz1, each1 X hXs (by omega)] at hD1
  conv => cbv
  refine Need.mk (by show 4 + s2.size ≤ 9223372036854775807; omega) ?_
  conv => cbv
  refine Str.mk fun z2 hz2 => ?_
  have hz2 : z2 = bytesOfL ([120, 10, 120, 10] ++ lineOf X) := by
    have : z2 = bytesOfL [120, 10, 120, 10] ++ s2 := hz2
    rw [this, hXl, bol_add]
  have hz2s : z2.size ≤ 1000 := by rw [hz2, bol_size, List.length_append]; show 4 + _ ≤ _; omega
  conv => cbv
  refine Need.mk (by show z2.size + 1 ≤ 9223372036854775807; omega) ?_
  conv => cbv
  refine Str.mk fun z3 hz3 => ?_
  have hz3 : z3 = bytesOfL ([120, 10, 120, 10] ++ (lineOf X ++ [63])) := by
    have : z3 = z2 ++ bytesOfL [63] := hz3
    rw [this, hz2, bol_add, List.append_assoc]
  have hz3s : z3.size ≤ 1000 := by rw [hz3, bol_size, List.length_append, List.length_append]; show 4 + (_ + 1) ≤ _; omega
  conv => cbv
  refine callF_frame (decode_lx z3 (by omega)) [] rfl trivial rfl rfl (fun r2 h' n' hrr => ?_)
  obtain ⟨e1, e2, e3⟩ := hrr
  subst e2 e3
  cases e1 with
  | mk k3 a3 e3 L3 x3 hD3 hk3 hL3 =>
  rw [hz3, each2 X hXs hX21 (by omega)] at hD3
  conv => cbv
  refine Sum.mk fun fl hfl => ?_
  have hfl : fl = ((lineOf X).length : Int) := (show fl = (s2.size : Int) from hfl).trans hXle
  have hfl1 : 1 ≤ fl := by have := List.length_pos_iff.2 (lineOf_ne X); omega
  conv => cbv
  refine Fit.mk (by show (-9223372036854775808 : Int) ≤ fl - 1; omega) (by show fl - 1 ≤ 9223372036854775807; omega) fun f1 hf1 => ?_
  have hf1 : f1 = fl - 1 := hf1
  conv => cbv
  refine Need.mk ⟨by show (0 : Int) ≤ 0; omega, by show (0 : Int) ≤ f1; omega, by show f1 ≤ (s2.size : Int); omega⟩ ?_
  conv => cbv
  refine Str.mk fun z4 hz4 => ?_
  have hz4 : z4 = bytesOfL (lineOf X).dropLast := by
    have h1 : z4 = s2.extract (0 : Int).toNat f1.toNat := hz4
    rw [h1, hXl, bol_ext _ _ _ (by omega), List.dropLast_eq_take, show f1.toNat = (lineOf X).length - 1 by omega]; rfl
  have hz4s : z4.size ≤ 20 := by rw [hz4, bol_size, List.length_dropLast]; omega
  conv => cbv
  refine Need.mk (by show z4.size + 2 ≤ 9223372036854775807; omega) ?_
  conv => cbv
  refine Str.mk fun z5 hz5 => ?_
  have hz5 : z5 = bytesOfL ((lineOf X).dropLast ++ [10, 120]) := by
    have : z5 = z4 ++ bytesOfL [10, 120] := hz5
    rw [this, hz4, bol_add]
  have hz5s : z5.size ≤ 1000 := by rw [hz5, bol_size, List.length_append, List.length_dropLast]; show _ + 2 ≤ _; omega
  conv => cbv
  refine callF_frame (decode_lx z5 (by omega)) [] rfl trivial rfl rfl (fun r2 h' n' hrr => ?_)
  obtain ⟨e1, e2, e3⟩ := hrr
  subst e2 e3
  cases e1 with
  | mk k5 a5 e5 L5 x5 hD5 hk5 hL5 =>
  conv => cbv
  refine Sum.mk fun gl hgl => ?_
  have hgl : gl = ((lineOf X).length : Int) := (show gl = (s2.size : Int) from hgl).trans hXle
  have hl2 : 2 ≤ (lineOf X).length := by
    rw [hXd, lineOf_eq _ _ _ _ (by decide)]
    simp [fieldsL, shapeV, partL, F3.get] 
  conv => cbv
  refine Br.no (by show ¬ gl = 1; omega) ?_
  conv => cbv
  rw [hz5, each3 X hXs hX21 [100] 97 (by rw [hXd]; rfl) (by rw [hXd]; rfl) (by omega)] at hD5
  refine callF_frame (awake02_lx o ho) [(0, 0)] rfl (by simp [hmapOk, nget, hget, renB, okB, renV, renVs, rn, okVs, okV]) rfl rfl (fun r2 h' n' ⟨e1, e2, e3⟩ => ?_)
  subst e1 e2 e3
  obtain ⟨hx1, hr1⟩ := Prod.mk.inj hD1
  have he1 : e1 = 0 := (Prod.mk.inj hr1).2.symm
  have ha1 : a1 = 0 := (Prod.mk.inj hr1).1.symm
  have he3 : e3 = 5 := (Prod.mk.inj (Prod.mk.inj hD3).2).2.symm
  have ha3 : a3 = 3 := (Prod.mk.inj (Prod.mk.inj hD3).2).1.symm
  have hxX : x1 = [⟨22, 0, 0, 0, []⟩, X] := hx1.symm
  have hcs : ∀ x ∈ x1, x.cs.length ≤ 1000000 := by
    rw [hxX, hXd]
    intro x hx
    rcases List.mem_cons.1 hx with rfl | hx
    · decide
    · rw [List.mem_singleton] at hx; subst hx; show 0 ≤ 1000000; decide
  have hxl : x1.length ≤ 1000000 := by rw [hxX]; show 2 ≤ 1000000; decide
  conv => cbv
  refine Br.yes (by show e1 = 0; exact he1) ?_
  conv => cbv
  refine Br.yes (by show a1 = 0; exact ha1) ?_
  conv => cbv
  refine callF_go (instrs_lx x1 [⟨22, 0, 0, 0, []⟩, X] k1 2 L1 [.int .i64 (.sym 22), .int .i64 (.sym 0), .int .i64 (.sym 0), .int .i64 (.sym 0), .vsl (.sym 0) true [], .int .i64 (.sym 18), .int .i64 (.sym a), .int .i64 (.sym 0), .int .i64 (.sym m), .vsl (.sym 0) true []] hk1 rfl hL1 (by rw [hXd]; rfl) hxl hcs) [(0, .fix 0 o)] (Re.at [(0, 0)] []) rfl rfl (fun r ⟨b, hr, _⟩ => by subst hr; rfl) (fun r hrr => ?_)
  obtain ⟨b9, d1, hb9⟩ := hrr
  obtain rfl : b9 = true := hb9.2 hxX
  subst d1
  conv => cbv
  refine Br.yes (by show e3 = 5; exact he3) ?_
  conv => cbv
  refine Br.yes (by show a3 = 3; exact ha3) ?_
  conv => cbv
  have he5 : e5 = 5 := (Prod.mk.inj (Prod.mk.inj hD5).2).2.symm
  have ha5 : a5 = 1 := (Prod.mk.inj (Prod.mk.inj hD5).2).1.symm
  refine Br.yes (by show e5 = 5; exact he5) ?_
  conv => cbv
  refine Br.yes (by show a5 = 1; exact ha5) ?_
  conv => cbv
  refine RetF.mk [.p (.bool true)] [(0, .fix 0 o)] 1 (Re.at [(0, 0)] []) rfl rfl
set_option maxHeartbeats 16000000 in
theorem each20_lx (which a0 b0 n0 : Int) (o : Unit → Obj) (ho : IsPow o) (hk0 : IntKind.u64.wrap which % 21 = 20) : CallF (fun _ => Tryd.prog) 5 [.p (.int .i64 (.sym which)), .p (.int .i64 (.sym a0)), .p (.int .i64 (.sym b0)), .p (.int .i64 (.sym n0))] [(0, .fix 0 o)] 1 (fun r h n => r = .p (.bool true)) := by
  refine callF_of_body tok Tryd.func5 (by kernel_rfl) rfl rfl rfl ?_; conv => cbv
  refine Fit.wrap fun xn hxn => ?_
  have hxn : xn = IntKind.u64.wrap which := hxn
  have hyn : 0 ≤ xn := by rw [hxn]; simp [IntKind.wrap, IntKind.bits, IntKind.signed]; omega
  conv => cbv
  refine Sum.mk fun tn htn => ?_
  have htn : tn = xn % 21 := (show tn = xn.tmod 21 from htn).trans (Int.tmod_eq_emod_of_nonneg hyn)
  conv => cbv
  refine Fit.mk (by show (-9223372036854775808 : Int) ≤ tn; omega) (by show tn ≤ 9223372036854775807; omega) fun q hq => ?_
  have hq : q = tn := hq
  have hq0 : 0 ≤ q := by omega
  have hq1 : q < 21 := by omega
  have hqv : q = 20 := by rw [hq, htn, hxn]; exact hk0
  clear hq htn hyn
  conv => cbv
  refine Fit.wrap fun xn hxn => ?_
  have hxn : xn = IntKind.u64.wrap a0 := hxn
  have hyn : 0 ≤ xn := by rw [hxn]; simp [IntKind.wrap, IntKind.bits, IntKind.signed]; omega
  clear hxn
  conv => cbv
  refine Sum.mk fun tn htn => ?_
  have htn : tn = xn % 6 := (show tn = xn.tmod 6 from htn).trans (Int.tmod_eq_emod_of_nonneg hyn)
  conv => cbv
  refine Fit.mk (by show (-9223372036854775808 : Int) ≤ tn; omega) (by show tn ≤ 9223372036854775807; omega) fun a ha => ?_
  have ha : a = tn := ha
  have ha0 : 0 ≤ a := by omega
  have ha1 : a < 6 := by omega
  clear ha htn hyn
  conv => cbv
  refine Fit.wrap fun xn hxn => ?_
  have hxn : xn = IntKind.u64.wrap b0 := hxn
  have hyn : 0 ≤ xn := by rw [hxn]; simp [IntKind.wrap, IntKind.bits, IntKind.signed]; omega
  clear hxn
  conv => cbv
  refine Sum.mk fun tn htn => ?_
  have htn : tn = xn % 6 := (show tn = xn.tmod 6 from htn).trans (Int.tmod_eq_emod_of_nonneg hyn)
  conv => cbv
  refine Fit.mk (by show (-9223372036854775808 : Int) ≤ tn; omega) (by show tn ≤ 9223372036854775807; omega) fun b hb => ?_
  have hb : b = tn := hb
  have hb0 : 0 ≤ b := by omega
  have hb1 : b < 6 := by omega
  clear hb htn hyn
  conv => cbv
  refine Fit.wrap fun xn hxn => ?_
  have hxn : xn = IntKind.u64.wrap n0 := hxn
  have hyn : 0 ≤ xn := by rw [hxn]; simp [IntKind.wrap, IntKind.bits, IntKind.signed]; omega
  clear hxn
  conv => cbv
  refine Sum.mk fun tn htn => ?_
  have htn : tn = xn % 10000 := (show tn = xn.tmod 10000 from htn).trans (Int.tmod_eq_emod_of_nonneg hyn)
  conv => cbv
  refine Fit.mk (by show (-9223372036854775808 : Int) ≤ tn; omega) (by show tn ≤ 9223372036854775807; omega) fun n hn => ?_
  have hn : n = tn := hn
  have hn0 : 0 ≤ n := by omega
  have hn1 : n < 10000 := by omega
  clear hn htn hyn
  conv => cbv
  refine Need.mk ⟨by show (0 : Int) ≤ q; omega, by show q < 21; omega⟩ ?_
  conv => cbv
  refine Cell.at (v := .int .i64 (.lit 22)) q 20 rfl (by simp [I.val]) (by omega) ?_
  conv => cbv
  refine Fit.mk (by show (-9223372036854775808 : Int) ≤ q + 1; omega) (by show q + 1 ≤ 9223372036854775807; omega) fun q1 hq1 => ?_
  have hq1 : q1 = q + 1 := hq1
  conv => cbv
  refine Need.mk ⟨by show (0 : Int) ≤ q; omega, by show q ≤ q1; omega, by show q1 ≤ 21; omega⟩ ?_
  conv => cbv
  refine Str.mk fun sz hsz => ?_
  have hsz : sz = bytesOfL [120] := by
    have h1 : sz = (bytesOfL [61, 60, 43, 109, 115, 114, 99, 108, 107, 103, 106, 122, 111, 116, 98, 117, 119, 112, 113, 102, 120]).extract q.toNat q1.toNat := hsz
    rw [h1, bol_ext _ _ _ (by show q1.toNat ≤ 21; omega), show q.toNat = 20 by omega, show q1.toNat = 21 by omega]; rfl
  have hszs : sz.size = 1 := by rw [hsz, bol_size]; rfl
  conv => cbv
  refine read_sound tok (by kernel_rfl) [] [3, 8] [] [0, 1, 2, 3, 4, 5, 6, 7, 8, 9, 10, 11] (by kernel_rfl) ?_
  conv => cbv
  refine Fit.mk (by show (0 : Int) ≤ a; omega) (by show a ≤ 255; omega) fun a1 ha1 => ?_
  have ha1 : a1 = a := ha1
  conv => cbv
  refine Fit.mk (by show (0 : Int) ≤ 97 + a1; omega) (by show 97 + a1 ≤ 255; omega) fun a2 ha2 => ?_
  have ha2 : a2 = 97 + a1 := ha2
  conv => cbv
  refine Need.mk (by show (1 : Int) ≤ ((1 : Nat) : Int); omega) ?_
  conv => cbv
  refine Bytes.mk [regB a] ⟨by show a2 = ((regB a).toNat : Int); rw [regB_nat ha0 (by omega)]; omega, trivial⟩ fun ra hra => ?_
  have hra : ra = bytesOfL [regB a] := hra
  have hras : ra.size = 1 := by rw [hra, bol_size]; rfl
  conv => cbv
  refine Fit.mk (by show (0 : Int) ≤ b; omega) (by show b ≤ 255; omega) fun b1 hb1 => ?_
  have hb1 : b1 = b := hb1
  conv => cbv
  refine Fit.mk (by show (0 : Int) ≤ 97 + b1; omega) (by show 97 + b1 ≤ 255; omega) fun b2 hb2 => ?_
  have hb2 : b2 = 97 + b1 := hb2
  conv => cbv
  refine Need.mk (by show (1 : Int) ≤ ((1 : Nat) : Int); omega) ?_
  conv => cbv
  refine Bytes.mk [regB b] ⟨by show b2 = ((regB b).toNat : Int); rw [regB_nat hb0 (by omega)]; omega, trivial⟩ fun rb hrb => ?_
  have hrb : rb = bytesOfL [regB b] := hrb
  have hrbs : rb.size = 1 := by rw [hrb, bol_size]; rfl
  conv => cbv
  obtain ⟨X, hXd⟩ : ∃ X : Is, X = ⟨22, 0, 0, 0, []⟩ := ⟨_, rfl⟩
  have hXs : Shp X := by
    rw [hXd]; exact shp_mk _ _ _ _ (by decide) (by decide) (by simp [shapeV] <;> omega) (by simp [shapeV] <;> omega) (by simp [shapeV] <;> omega)
  have hX21 : X.op ≠ 21 := by rw [hXd]; show (22 : Int) ≠ 21; decide
  have hXl : sz = bytesOfL (lineOf X) := by
    rw [hsz, hXd, lineOf_eq _ _ _ _ (by decide)]
    congr 1 <;> simp [fieldsL, shapeV, partL, F3.get, signB, signsL]
  have hXll : (lineOf X).length ≤ 20 := by rw [← bol_size, ← hXl]; omega
  have hXle : (sz.size : Int) = (lineOf X).length := by rw [hXl, bol_size]
  conv => cbv
  refine Need.mk (by show 2 + sz.size ≤ 9223372036854775807; omega) ?_
  conv => cbv
  refine Str.mk fun z1 hz1 => ?_
  have hz1 : z1 = bytesOfL ([120, 10] ++ lineOf X) := by
    have : z1 = bytesOfL [120, 10] ++ sz := hz1
    rw [this, hXl, bol_add]
  have hz1s : z1.size ≤ 1000 := by rw [hz1, bol_size, List.length_append]; show 2 + _ ≤ _; omega
  conv => cbv
  refine callF_frame (decode_lx z1 (by omega)) [] rfl trivial rfl rfl (fun r2 h' n' hrr => ?_)
  obtain ⟨e1, e2, e3⟩ := hrr
  subst e2 e3
  cases e1 with
  | mk k1 a1 e1 L1 x1 hD1 hk1 hL1 =>
  rw [hz1, each1 X hXs (by omega)] at hD1
  conv => cbv
  refine Need.mk (by show 4 + sz.size ≤ 9223372036854775807; omega) ?_
  conv => cbv
  refine Str.mk fun z2 hz2 => ?_
  have hz2 : z2 = bytesOfL ([120, 10, 120, 10] ++ lineOf X) := by
    have : z2 = bytesOfL [120, 10, 120, 10] ++ sz := hz2
    rw [this, hXl, bol_add]
  have hz2s : z2.size ≤ 1000 := by rw [hz2, bol_size, List.length_append]; show 4 + _ ≤ _; omega
  conv => cbv
  refine Need.mk (by show z2.size + 1 ≤ 9223372036854775807; omega) ?_
  conv => cbv
  refine Str.mk fun z3 hz3 => ?_
  have hz3 : z3 = bytesOfL ([120, 10, 120, 10] ++ (lineOf X ++ [63])) := by
    have : z3 = z2 ++ bytesOfL [63] := hz3
    rw [this, hz2, bol_add, List.append_assoc]
  have hz3s : z3.size ≤ 1000 := by rw [hz3, bol_size, List.length_append, List.length_append]; show 4 + (_ + 1) ≤ _; omega
  conv => cbv
  refine callF_frame (decode_lx z3 (by omega)) [] rfl trivial rfl rfl (fun r2 h' n' hrr => ?_)
  obtain ⟨e1, e2, e3⟩ := hrr
  subst e2 e3
  cases e1 with
  | mk k3 a3 e3 L3 x3 hD3 hk3 hL3 =>
  rw [hz3, each2 X hXs hX21 (by omega)] at hD3
  conv => cbv
  refine Sum.mk fun fl hfl => ?_
  have hfl : fl = ((lineOf X).length : Int) := (show fl = (sz.size : Int) from hfl).trans hXle
  have hfl1 : 1 ≤ fl := by have := List.length_pos_iff.2 (lineOf_ne X); omega
  conv => cbv
  refine Fit.mk (by show (-9223372036854775808 : Int) ≤ fl - 1; omega) (by show fl - 1 ≤ 9223372036854775807; omega) fun f1 hf1 => ?_
  have hf1 : f1 = fl - 1 := hf1
  conv => cbv
  refine Need.mk ⟨by show (0 : Int) ≤ 0; omega, by show (0 : Int) ≤ f1; omega, by show f1 ≤ (sz.size : Int); omega⟩ ?_
  conv => cbv
  refine Str.mk fun z4 hz4 => ?_
  have hz4 : z4 = bytesOfL (lineOf X).dropLast := by
    have h1 : z4 = sz.extract (0 : Int).toNat f1.toNat := hz4
    rw [h1, hXl, bol_ext _ _ _ (by omega), List.dropLast_eq_take, show f1.toNat = (lineOf X).length - 1 by omega]; rfl
  have hz4s : z4.size ≤ 20 := by rw [hz4, bol_size, List.length_dropLast]; omega
  conv => cbv
  refine Need.mk (by show z4.size + 2 ≤ 9223372036854775807; omega) ?_
  conv => cbv
  refine Str.mk fun z5 hz5 => ?_
  have hz5 : z5 = bytesOfL ((lineOf X).dropLast ++ [10, 120]) := by
    have : z5 = z4 ++ bytesOfL [10, 120] := hz5
    rw [this, hz4, bol_add]
  have hz5s : z5.size ≤ 1000 := by rw [hz5, bol_size, List.length_append, List.length_dropLast]; show _ + 2 ≤ _; omega
  conv => cbv
  refine callF_frame (decode_lx z5 (by omega)) [] rfl trivial rfl rfl (fun r2 h' n' hrr => ?_)
  obtain ⟨e1, e2, e3⟩ := hrr
  subst e2 e3
  cases e1 with
  | mk k5 a5 e5 L5 x5 hD5 hk5 hL5 =>
  conv => cbv
  refine Sum.mk fun gl hgl => ?_
  have hgl : gl = ((lineOf X).length : Int) := (show gl = (sz.size : Int) from hgl).trans hXle
  have hl1 : (lineOf X).length = 1 := by rw [hXd]; rfl
  conv => cbv
  refine Br.yes (by show gl = 1; omega) ?_
  conv => cbv
  refine callF_frame (awake02_lx o ho) [(0, 0)] rfl (by simp [hmapOk, nget, hget, renB, okB, renV, renVs, rn, okVs, okV]) rfl rfl (fun r2 h' n' ⟨e1, e2, e3⟩ => ?_)
  subst e1 e2 e3
  obtain ⟨hx1, hr1⟩ := Prod.mk.inj hD1
  have he1 : e1 = 0 := (Prod.mk.inj hr1).2.symm
  have ha1 : a1 = 0 := (Prod.mk.inj hr1).1.symm
  have he3 : e3 = 5 := (Prod.mk.inj (Prod.mk.inj hD3).2).2.symm
  have ha3 : a3 = 3 := (Prod.mk.inj (Prod.mk.inj hD3).2).1.symm
  have hxX : x1 = [⟨22, 0, 0, 0, []⟩, X] := hx1.symm
  have hcs : ∀ x ∈ x1, x.cs.length ≤ 1000000 := by
    rw [hxX, hXd]
    intro x hx
    rcases List.mem_cons.1 hx with rfl | hx
    · decide
    · rw [List.mem_singleton] at hx; subst hx; show 0 ≤ 1000000; decide
  have hxl : x1.length ≤ 1000000 := by rw [hxX]; show 2 ≤ 1000000; decide
  conv => cbv
  refine Br.yes (by show e1 = 0; exact he1) ?_
  conv => cbv
  refine Br.yes (by show a1 = 0; exact ha1) ?_
  conv => cbv
  refine callF_go (instrs_lx x1 [⟨22, 0, 0, 0, []⟩, X] k1 2 L1 [.int .i64 (.sym 22), .int .i64 (.sym 0), .int .i64 (.sym 0), .int .i64 (.sym 0), .vsl (.sym 0) true [], .int .i64 (.sym 22), .int .i64 (.sym 0), .int .i64 (.sym 0), .int .i64 (.sym 0), .vsl (.sym 0) true []] hk1 rfl hL1 (by rw [hXd]; rfl) hxl hcs) [(0, .fix 0 o)] (Re.at [(0, 0)] []) rfl rfl (fun r ⟨b, hr, _⟩ => by subst hr; rfl) (fun r hrr => ?_)
  obtain ⟨b9, d1, hb9⟩ := hrr
  obtain rfl : b9 = true := hb9.2 hxX
  subst d1
  conv => cbv
  refine Br.yes (by show e3 = 5; exact he3) ?_
  conv => cbv
  refine Br.yes (by show a3 = 3; exact ha3) ?_
  conv => cbv
  refine RetF.mk [.p (.bool true)] [(0, .fix 0 o)] 1 (Re.at [(0, 0)] []) rfl rfl
end Go.Proofs.YtnbloimkagabjaaDoor
