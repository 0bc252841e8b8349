/-
  Layer 22: of no heap nothing is reached.
-/
import Derived.Test.YtjfdfbpgckilpaaGreatDoorBh
import Derived.Test.YtjfdfbpgckilpaaGreatDoorBg
import Derived.Test.YtjfdfbpgckilpaaGreatDoorBe
namespace Go.Proofs.YtjfdfbpgckilpaaGreatDoor
open Go Go.LX
set_option maxRecDepth 100000
set_option linter.unusedVariables false
set_option linter.unusedSimpArgs false
set_option maxHeartbeats 32000000
theorem lookNil_lx (a : Int) : CallF (fun _ => Tryz.prog) 105 [.p .nilp,i6 a] [] 0 (fun r h n => r = .iface 220 (.agg []) ∧ h = [] ∧ n = 0) := by
 refine callF_of_body tok Tryz.func105 (by kernel_rfl) rfl rfl rfl ?_; conv => cbv
 refine callF_frame arenaNil_lx [] rfl trivial rfl rfl (fun r h' n' ⟨e1,e2,e3⟩ => ?_)
 subst e1 e2 e3
 conv => cbv
 refine callF_frame (kind_nil (.sym a)) [] rfl trivial rfl rfl (fun r h' n' ⟨e1,e2,e3⟩ => ?_)
 subst e1 e2 e3
 conv => cbv
 refine Br.yes (show (0 : Int) = 0 from rfl) ?_
 conv => cbv
 refine RetF.mk [.iface 220 (.agg [])] [] 0 (Re.at [] []) rfl ⟨rfl,rfl,rfl⟩
theorem reachNil_lx (A : List Int) (k : Int) (cells : List PV) (hk : k = A.length) (hcs : cells = ipv A) (hAl : A.length ≤ 100000) : CallF (fun _ => Tryz.prog) 46 [.p .nilp,.p (.vsl (.sym k) true cells)] [] 0 (fun r h n => r = .p (.vsl (.sym 0) true []) ∧ h = [] ∧ n = 0) := by
 refine callF_of_body tok Tryz.func46 (by kernel_rfl) rfl rfl rfl ?_; conv => cbv
 refine callF_frame (clone_lx A k cells hk hcs hAl) [] rfl trivial rfl rfl (fun r h' n' hrr => ?_)
 obtain ⟨T0,e1,e2,e3,hT0⟩ := hrr
 subst e1 e2 e3
 conv => cbv
 refine LoopF.mk (fun kk s => ∃ (j : Int) (td : List Int) (T : List PV),s = ⟨.p .nilp :: (undefs 4 ++ .mp 0 :: .sl 2 3 1 (.lit 0) (.sym 0) :: .sl 1 3 1 (.lit 0) (.sym j) :: undefs 54),[(0,.set []),hpP 1 T,(2,.pure true [])],3⟩ ∧ T = ipv td ∧ j = td.length ∧ kk = td.length ∧ kk ≤ 100000) A.length _
  (Re.at [(0,0),(1,1)] [2]) ⟨k,A,T0,rfl,hT0,hk,rfl,hAl⟩ ?_
 rintro kk s ⟨j,td,T,rfl,hT,hj,hkk,hkb⟩
 have hTl : T.length = td.length := by rw [hT,ipv_length]
 conv => cbv
 refine Br.mk (fun q => ?_) (fun q => ?_)
 case refine_2 =>
  conv => cbv
  refine cfr (sort_lx [] 0 [] rfl rfl (by decide)) [(0,2)] (fun r h' n' hrr => ?_)
  obtain ⟨M2,e1,e2,e3,hM2⟩ := hrr
  subst e1 e2 e3
  have hM2 : M2 = [] := by rw [hM2,List.mergeSort_nil]; rfl
  subst hM2
  conv => cbv
  refine RetF.mk [.p (.vsl (.sym 0) true [])] [] 0 (Re.at [] []) rfl ⟨rfl,rfl,rfl⟩
 have q : 0 < j := q
 obtain ⟨t',a,rfl⟩ := td_last (td := td) (fun e => by rw [e] at hj; simp at hj; omega)
 have htl : ((t' ++ [a]).length : Int) = t'.length + 1 := by rw [List.length_append]; rfl
 conv => cbv
 refine Fit.mk (by show (-9223372036854775808 : Int) ≤ j - 1; omega) (by show j - 1 ≤ 9223372036854775807; omega) fun p hp => ?_
 have hp : p = j - 1 := hp
 have hpt : p = t'.length := by rw [hp,hj,htl]; omega
 have hTa : T[p.toNat]? = some (.int .i64 (.sym a)) := by
  rw [hT]
  exact ipv_get (by rw [List.getElem?_append_right (by omega),show p.toNat - t'.length = 0 by omega]; rfl)
 conv => cbv
 refine Need.mk (show 0 ≤ p ∧ p < j by omega) ?_
 conv => cbv
 refine Cell.at p _ hTa (by simp [I.val]) rfl ?_
 conv => cbv
 obtain ⟨T2,hT2⟩ : ∃ T2,T2 = ipv t' := ⟨_,rfl⟩
 have hTp : T2 <+: T := by rw [hT,hT2,← ipv_app]; exact List.prefix_append _ _
 refine Fit.mk (by show (-9223372036854775808 : Int) ≤ j - 1; omega) (by show j - 1 ≤ 9223372036854775807; omega) fun p2 hp2 => ?_
 obtain rfl : p = p2 := by have : p2 = j - 1 := hp2; omega
 conv => cbv
 refine Need.mk ⟨show 0 ≤ p by omega,.inl (show p ≤ j by omega)⟩ ?_
 conv => cbv
 refine CallF.re (args0 := [.p .nilp,i6 a]) (h' := [(0,.set []),hpP 1 T2,(2,.pure true [])]) (Re.cut 1 true T T2 rfl hTp (Re.at [(0,0),(1,1),(2,2)] [])) (callF_frame (lookNil_lx a) [] rfl trivial rfl rfl (fun r h' n' hrr => ?_))
 obtain ⟨e1,e2,e3⟩ := hrr
 subst e1 e2 e3
 conv => cbv
 refine Br.mk (fun g => ?_) (fun g => ?_)
 ·conv => cbv
  refine Again.mk t'.length _ (by omega) (Re.at [(0,0),(1,1),(2,2)] []) ⟨p,t',T2,rfl,hT2,hpt,rfl,by omega⟩
 ·conv => cbv
  refine Again.mk t'.length _ (by omega) (Re.at [(0,0),(1,1),(2,2)] []) ⟨p,t',T2,rfl,hT2,hpt,rfl,by omega⟩
theorem lostNil_lx (A : List Int) (k : Int) (cells : List PV) (hk : k = A.length) (hcs : cells = ipv A) (hAl : A.length ≤ 100000) : CallF (fun _ => Tryz.prog) 48 [.p .nilp,.p (.vsl (.sym k) true cells)] [] 0 (fun r h n => r = .p .nils ∧ h = [] ∧ n = 0) := by
 refine callF_of_body tok Tryz.func48 (by kernel_rfl) rfl rfl rfl ?_; conv => cbv
 refine callF_frame (reachNil_lx A k cells hk hcs hAl) [] rfl trivial rfl rfl (fun r h' n' ⟨e1,e2,e3⟩ => ?_)
 subst e1 e2 e3
 conv => cbv
 refine callF_frame arenaNil_lx [] rfl trivial rfl rfl (fun r h' n' ⟨e1,e2,e3⟩ => ?_)
 subst e1 e2 e3
 conv => cbv
 refine callF_frame objects_nil [] rfl trivial rfl rfl (fun r h' n' ⟨e1,e2,e3⟩ => ?_)
 subst e1 e2 e3
 conv => cbv
 refine LoopF.rounds 1 ?_
 conv => cbv
 refine RetF.mk [.p .nils] [] 0 (Re.at [] []) rfl ⟨rfl,rfl,rfl⟩
theorem brokenNil_lx (A : List Int) (k : Int) (cells : List PV) (hk : k = A.length) (hcs : cells = ipv A) (hAl : A.length ≤ 100000) : CallF (fun _ => Tryz.prog) 50 [.p .nilp,.p (.vsl (.sym k) true cells)] [] 0 (fun r h n => r = .p .nils ∧ h = [] ∧ n = 0) := by
 refine callF_of_body tok Tryz.func50 (by kernel_rfl) rfl rfl rfl ?_; conv => cbv
 refine callF_frame (reachNil_lx A k cells hk hcs hAl) [] rfl trivial rfl rfl (fun r h' n' ⟨e1,e2,e3⟩ => ?_)
 subst e1 e2 e3
 conv => cbv
 refine LoopF.rounds 1 ?_
 conv => cbv
 refine Br.no (show ¬ ((0 : Int) < 0) by decide) ?_
 conv => cbv
 refine RetF.mk [.p .nils] [] 0 (Re.at [] []) rfl ⟨rfl,rfl,rfl⟩
end Go.Proofs.YtjfdfbpgckilpaaGreatDoor
