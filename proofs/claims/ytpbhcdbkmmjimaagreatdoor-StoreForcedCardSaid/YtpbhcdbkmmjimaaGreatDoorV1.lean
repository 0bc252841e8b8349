/-
  Layer 21: any configuration, made one that may be.
-/
import Derived.Test.YtpbhcdbkmmjimaaGreatDoorVw
namespace Go.Proofs.YtpbhcdbkmmjimaaGreatDoor
open Go Go.LX
set_option maxRecDepth 100000
set_option linter.unusedVariables false
set_option linter.unusedSimpArgs false
set_option maxHeartbeats 32000000
theorem mod21_lx (a m : Int) (h0 : 1 ≤ m) (h1 : m ≤ 1000000) : CallF (fun _ => Tryz.prog) 43 [i6 a,i6 m] [] 0 (fun r h n => (∃ v : Int,r = .p (.int .i64 (.sym v)) ∧ 0 ≤ v ∧ v < m) ∧ h = [] ∧ n = 0) := by
 refine callF_of_body tok Tryz.func43 (by kernel_rfl) rfl rfl rfl ?_; conv => cbv
 refine Fit.wrap fun xn hxn => ?_
 have hyn : 0 ≤ xn := by rw [show xn = IntKind.u64.wrap a from hxn]; simp [IntKind.wrap,IntKind.bits,IntKind.signed]; omega
 clear hxn
 conv => cbv
 refine Fit.mk (by show (0 : Int) ≤ m; omega) (by show m ≤ 18446744073709551615; omega) fun m2 hm2 => ?_
 have hm2 : m2 = m := hm2
 conv => cbv
 refine Need.mk (by show ¬ m2 = 0; omega) ?_
 conv => cbv
 refine Sum.mk fun t ht => ?_
 have ht : t = xn % m := by rw [show t = xn.tmod m2 from ht,hm2]; exact Int.tmod_eq_emod_of_nonneg hyn
 have ht0 := Int.emod_nonneg xn (show m ≠ 0 by omega)
 have ht1 := Int.emod_lt_of_pos xn (show 0 < m by omega)
 conv => cbv
 refine Fit.mk (by show (-9223372036854775808 : Int) ≤ t; omega) (by show t ≤ 9223372036854775807; omega) fun u hu => ?_
 have hu : u = t := hu
 conv => cbv
 refine RetF.mk [i6 u] [] 0 (Re.at [] []) rfl ⟨⟨u,rfl,by omega,by omega⟩,rfl,rfl⟩
theorem config21_lx (x y z : Int) : CallF (fun _ => Tryz.prog) 10 [.agg [i6 x,i6 y,i6 z]] [] 0 (fun r h n => (∃ c0 c1 c2 : Int,r = .agg [i6 c0,i6 c1,i6 c2] ∧ 2 ≤ c0 ∧ c0 ≤ 13 ∧ 1 ≤ c1 ∧ c1 ≤ 100 ∧ 0 ≤ c2 ∧ c2 ≤ 8) ∧ h = [] ∧ n = 0) := by
 refine callF_of_body tok Tryz.func10 (by kernel_rfl) rfl rfl rfl ?_; conv => cbv
 refine drawn_sound tok (by kernel_rfl) [(2,[9,8,5,4]),(6,[3,9,8]),(10,[7,3]),(12,[])] [0,1,4,5,8,9,2,3,6,7,10,11,12] (by kernel_rfl) ?_; conv => cbv
 conv => cbv
 refine CallF.le (args0 := [i6 x,i6 12]) (cfr (mod21_lx x 12 (by decide) (by decide)) [] (fun r h' n' hrr => ?_)) (by simp [ales,ale,pvle,I.val])
 obtain ⟨⟨rx,e1,gx0,gx1⟩,e2,e3⟩ := hrr
 subst e1 e2 e3
 conv => cbv
 refine Fit.mk (by show (-9223372036854775808 : Int) ≤ 2 + rx; omega) (by show 2 + rx ≤ 9223372036854775807; omega) fun cx hcx => ?_
 have hcx : cx = 2 + rx := hcx
 conv => cbv
 refine CallF.le (args0 := [i6 y,i6 100]) (cfr (mod21_lx y 100 (by decide) (by decide)) [] (fun r h' n' hrr => ?_)) (by simp [ales,ale,pvle,I.val])
 obtain ⟨⟨ry,e1,gy0,gy1⟩,e2,e3⟩ := hrr
 subst e1 e2 e3
 conv => cbv
 refine Fit.mk (by show (-9223372036854775808 : Int) ≤ 1 + ry; omega) (by show 1 + ry ≤ 9223372036854775807; omega) fun cy hcy => ?_
 have hcy : cy = 1 + ry := hcy
 conv => cbv
 refine CallF.le (args0 := [i6 z,i6 9]) (cfr (mod21_lx z 9 (by decide) (by decide)) [] (fun r h' n' hrr => ?_)) (by simp [ales,ale,pvle,I.val])
 obtain ⟨⟨rz,e1,gz0,gz1⟩,e2,e3⟩ := hrr
 subst e1 e2 e3
 conv => cbv
 refine RetF.mk [.agg [i6 cx,i6 cy,i6 rz]] [] 0 (Re.at [] []) rfl ⟨⟨cx,cy,rz,rfl,by omega,by omega,by omega,by omega,by omega,by omega⟩,rfl,rfl⟩
end Go.Proofs.YtpbhcdbkmmjimaaGreatDoor
