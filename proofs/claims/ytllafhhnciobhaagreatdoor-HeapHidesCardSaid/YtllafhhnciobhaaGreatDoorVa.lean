/-
  Layer 4 in the calculus: words.
-/
import Derived.Test.YtllafhhnciobhaaGreatDoorLxFrame
import Derived.Test.YtllafhhnciobhaaGreatDoorTab

import Derived.Test.YtllafhhnciobhaaGreatDoorRows

import Derived.Test.YtllafhhnciobhaaGreatDoorLxO
import Derived.Test.YtllafhhnciobhaaGreatDoorLxSplit
import Derived.Test.YtllafhhnciobhaaGreatDoorLem

namespace Go.Proofs.YtllafhhnciobhaaGreatDoor

open Go Go.LX
set_option maxRecDepth 100000
set_option linter.unusedVariables false
set_option linter.unusedSimpArgs false

/-- What a word stands for. -/
inductive Meant (w : Int) : LV → Prop
  | place (x : Int) (h : w % 2 = 1) (hx : x = (w - 1) / 2) : Meant w (.iface 124 (.p (.int .i64 (.sym x))))
  | number (x : Int) (h : ¬ w % 2 = 1) : Meant w (.iface 142 (.p (.int .i64 (.sym x))))
theorem and1_bv (x : Int) : IntKind.i64.wrap ((BitVec.ofInt 64 x &&& BitVec.ofInt 64 1).toNat : Int) = x % 2 := and1_i64 x
theorem meaning_lx (w : Int) (hw : -9223372036854775808 ≤ w ∧ w ≤ 9223372036854775807) : CallF (fun _ => Tryz.prog) 110 [.p (.int .i64 (.sym w))] [] 0 (fun r h n => Meant w r ∧ h = [] ∧ n = 0) := by
  refine callF_of_body tok Tryz.func110 (by kernel_rfl) rfl rfl rfl ?_; conv => cbv
  refine Sum.mk fun u hu => ?_
  have hu : u = w % 2 := hu.trans (and1_bv w)
  conv => cbv
  refine Br.mk (fun g => ?_) (fun g => ?_)
  · have g : u = 1 := g
    conv => cbv
    refine Fit.mk (by show (-9223372036854775808 : Int) ≤ w - 1; omega) (by show w - 1 ≤ 9223372036854775807; omega) fun v hv => ?_
    have hv : v = w - 1 := hv
    conv => cbv
    have hdv : v.tdiv 2 = (w - 1) / 2 := by rw [hv]; exact Int.tdiv_eq_ediv_of_dvd (by omega)
    refine Fit.mk (by show (-9223372036854775808 : Int) ≤ v.tdiv 2; omega) (by show v.tdiv 2 ≤ 9223372036854775807; omega) fun y hy => ?_
    have hy : y = (w - 1) / 2 := hy.trans hdv
    conv => cbv
    refine RetF.mk [.iface 124 (.p (.int .i64 (.sym y)))] [] 0 (Re.at [] []) rfl ⟨.place y (by omega) hy, rfl, rfl⟩
  · have g : ¬ u = 1 := g
    conv => cbv
    have hdv : w.tdiv 2 = w / 2 := Int.tdiv_eq_ediv_of_dvd (by omega)
    refine Fit.mk (by show (-9223372036854775808 : Int) ≤ w.tdiv 2; omega) (by show w.tdiv 2 ≤ 9223372036854775807; omega) fun y hy => ?_
    conv => cbv
    refine RetF.mk [.iface 142 (.p (.int .i64 (.sym y)))] [] 0 (Re.at [] []) rfl ⟨.number y (by omega), rfl, rfl⟩
theorem isPtr_lx (w : Int) (hw : -9223372036854775808 ≤ w ∧ w ≤ 9223372036854775807) : CallF (fun _ => Tryz.prog) 95 [.p (.int .i64 (.sym w))] [] 0 (fun r h n => ∃ b : Bool, r = .p (.bool b) ∧ h = [] ∧ n = 0 ∧ (b = true ↔ w % 2 = 1)) := by
  refine callF_of_body tok Tryz.func95 (by kernel_rfl) rfl rfl rfl ?_; conv => cbv
  refine callF_frame (meaning_lx w hw) [] rfl trivial rfl rfl (fun r h' n' hrr => ?_)
  obtain ⟨hm, e2, e3⟩ := hrr
  subst e2 e3
  cases hm with
  | place x h hx =>
    conv => cbv
    refine RetF.mk [.p (.bool true)] [] 0 (Re.at [] []) rfl ⟨true, rfl, rfl, rfl, fun _ => h, fun _ => rfl⟩
  | number x h =>
    conv => cbv
    refine RetF.mk [.p (.bool false)] [] 0 (Re.at [] []) rfl ⟨false, rfl, rfl, rfl, fun k => (by cases k), fun k => absurd k h⟩
theorem atV_lx (w : Int) (hw : -9223372036854775808 ≤ w ∧ w ≤ 9223372036854775807) : CallF (fun _ => Tryz.prog) 96 [.p (.int .i64 (.sym w))] [] 0 (fun r h n => ∃ x : Int, r = .p (.int .i64 (.sym x)) ∧ h = [] ∧ n = 0 ∧ (w % 2 = 1 → x = (w - 1) / 2) ∧ (¬ w % 2 = 1 → x = -1)) := by
  refine callF_of_body tok Tryz.func96 (by kernel_rfl) rfl rfl rfl ?_; conv => cbv
  refine callF_frame (meaning_lx w hw) [] rfl trivial rfl rfl (fun r h' n' hrr => ?_)
  obtain ⟨hm, e2, e3⟩ := hrr
  subst e2 e3
  cases hm with
  | place x h hx =>
    conv => cbv
    refine RetF.mk [.p (.int .i64 (.sym x))] [] 0 (Re.at [] []) rfl ⟨x, rfl, rfl, rfl, fun _ => hx, fun k => absurd h k⟩
  | number x h =>
    conv => cbv
    refine RetF.mk [.p (.int .i64 (.sym (-1)))] [] 0 (Re.at [] []) rfl ⟨-1, rfl, rfl, rfl, fun k => absurd k h, fun _ => rfl⟩
end Go.Proofs.YtllafhhnciobhaaGreatDoor
