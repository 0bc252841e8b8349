/-
  Lists of whole numbers held against each other.
-/
import Derived.Test.YtllafhhnciobhaaGreatDoorAf

namespace Go.Proofs.YtllafhhnciobhaaGreatDoor

open Go Go.LX
set_option maxRecDepth 100000
set_option linter.unusedVariables false

theorem ipv_getx (A : List Int) (i : Nat) : (ipv A)[i]? = A[i]?.map (fun z => PV.int .i64 (.sym z)) := by rw [ipv, List.getElem?_map]
def PreI (k : IntKind) (l : List PV) (A : List Int) : Prop := ∀ (i : Nat) (x : Int), A[i]? = some x → l[i]? = some (.int k (.sym x))
theorem preI_ints (A : List Int) : PreI .i64 (ipv A) A := fun i x h => by rw [ipv_getx, h]; rfl
set_option maxHeartbeats 2000000 in
theorem eqi64_lx (x y : Int) :
    CallF (fun _ => Tryz.prog) 67 [.p (.int .i64 (.sym x)), .p (.int .i64 (.sym y))] [] 0 (fun r h n => (∃ b : Bool, r = .p (.bool b) ∧ (b = true ↔ x = y)) ∧ h = [] ∧ n = 0) := by
  refine callF_of_body tok Tryz.func67 (by kernel_rfl) rfl rfl rfl ?_; conv => cbv
  refine Br.mk (fun e => ?_) (fun e => ?_)
  · have e : x = y := e
    conv => cbv
    refine RetF.mk [.p (.bool true)] [] 0 (Re.at [] []) rfl ⟨⟨true, rfl, by simp [e]⟩, rfl, rfl⟩
  · have e : ¬ x = y := e
    conv => cbv
    refine RetF.mk [.p (.bool false)] [] 0 (Re.at [] []) rfl ⟨⟨false, rfl, by simp [e]⟩, rfl, rfl⟩
set_option maxHeartbeats 2000000 in
theorem samei64_lx (A B : List Int) (m n : Int) (la lb : List PV) (hm : m = A.length) (hn : n = B.length) (ha : PreI .i64 la A) (hb : PreI .i64 lb B) (hA : (A.length : Int) < 1000000) :
    CallF (fun _ => Tryz.prog) 66 [.p (.vsl (.sym m) true la), .p (.vsl (.sym n) true lb), .p (.fn 67)] [] 0 (fun r h n => (∃ b : Bool, r = .p (.bool b) ∧ (b = true ↔ A = B)) ∧ h = [] ∧ n = 0) := by
  refine callF_of_body tok Tryz.func66 (by kernel_rfl) rfl rfl rfl ?_; conv => cbv
  refine Br.mk (fun e1 => ?_) (fun e1 => ?_)
  · simp only [I.val] at e1
    conv => cbv
    refine RetF.mk [.p (.bool false)] [] 0 (Re.at [] []) rfl ⟨⟨false, rfl, by simp; intro h; subst h; omega⟩, rfl, rfl⟩
  · simp only [I.val] at e1
    conv => cbv
    have hmn : m = n := by omega
    refine LoopF.mk (fun k s => ∃ i : Int, s = ⟨.p (.vsl (.sym m) true la) :: .p (.vsl (.sym n) true lb) :: .p (.fn 67) :: .undef :: .undef :: .undef :: .undef :: .p (.int .i64 (.sym i)) :: undefs 22, [], 0⟩ ∧ 0 ≤ i ∧ i ≤ m ∧ A.take i.toNat = B.take i.toNat ∧ k = (m - i).toNat) m.toNat _
      (Re.at [] []) ⟨0, rfl, by omega, by omega, rfl, by omega⟩ ?_
    rintro k s ⟨i, rfl, hi0, him, ht, hk⟩
    conv => cbv
    refine Br.mk (fun e2 => ?_) (fun e2 => ?_)
    · simp only [I.val] at e2
      conv => cbv
      refine draw_sound tok (by kernel_rfl) rfl (by kernel_rfl) ?_
      conv => cbv
      obtain ⟨x1, hea⟩ : ∃ e, A[i.toNat]? = some e := ⟨_, List.getElem?_eq_getElem (by omega)⟩
      obtain ⟨x2, heb⟩ : ∃ e, B[i.toNat]? = some e := ⟨_, List.getElem?_eq_getElem (by omega)⟩
      have a1 := ha _ _ hea
      have b1 := hb _ _ heb
      refine Need.mk ⟨hi0, by simpa [I.val] using e2⟩ ?_
      conv => cbv
      refine Cell.at i _ a1 (by simp [I.val]) (by omega) ?_
      conv => cbv
      refine Need.mk ⟨hi0, by simp only [I.val]; omega⟩ ?_
      conv => cbv
      refine Cell.at i _ b1 (by simp [I.val]) (by omega) ?_
      conv => cbv
      refine callF_val (eqi64_lx x1 x2) (by simp [ales, ale, renVs, renV, pvle]) rfl (fun r ⟨b, hr, _⟩ => by subst hr; rfl) (fun r ⟨b, hr, he⟩ => ?_)
      subst hr
      have iff1 : b = true ↔ A[i.toNat]? = B[i.toNat]? := by rw [he, hea, heb]; simp
      cases b with
      | false =>
        conv => cbv
        refine RetF.mk [.p (.bool false)] [] 0 (Re.at [] []) rfl ⟨⟨false, rfl, by simp only [Bool.false_eq_true, false_iff]; intro h; subst h; simp at iff1⟩, rfl, rfl⟩
      | true =>
        obtain ⟨k', rfl⟩ : ∃ k', k = k' + 1 := ⟨k - 1, by omega⟩
        conv => cbv
        refine Fit.mk (by show (-9223372036854775808 : Int) ≤ i + 1; omega) (by show i + 1 ≤ 9223372036854775807; omega) ?_
        intro i2 hi2
        have hi3 : i2 = i + 1 := hi2
        clear hi2
        conv => cbv
        refine Again.mk k' _ (Nat.lt_succ_self _) (Re.at [] []) ⟨i2, rfl, by omega, by omega, ?_, by omega⟩
        rw [show i2.toNat = i.toNat + 1 by omega, List.take_add_one, List.take_add_one, ht, iff1.1 rfl]
    · simp only [I.val] at e2
      conv => cbv
      refine RetF.mk [.p (.bool true)] [] 0 (Re.at [] []) rfl ⟨⟨true, rfl, ?_⟩, rfl, rfl⟩
      have : i.toNat = A.length := by omega
      rw [this, List.take_length] at ht
      rw [List.take_of_length_le (by omega)] at ht
      simp [ht]
set_option maxHeartbeats 2000000 in
theorem plaini64_lx (A B : List Int) (m n : Int) (la lb : List PV) (hm : m = A.length) (hn : n = B.length) (ha : PreI .i64 la A) (hb : PreI .i64 lb B) (hA : (A.length : Int) < 1000000) :
    CallF (fun _ => Tryz.prog) 32 [.p (.vsl (.sym m) true la), .p (.vsl (.sym n) true lb)] [] 0 (fun r h n => (∃ b : Bool, r = .p (.bool b) ∧ (b = true ↔ A = B)) ∧ h = [] ∧ n = 0) := by
  refine callF_of_body tok Tryz.func32 (by kernel_rfl) rfl rfl rfl ?_; conv => cbv
  refine callF_val (samei64_lx A B m n la lb hm hn ha hb hA) (by simp [ales, ale, renVs, renV, pvle, I.val]) rfl (fun r ⟨b, hr, _⟩ => by subst hr; rfl) (fun r ⟨b, hr, hb⟩ => ?_)
  subst hr
  conv => cbv
  refine RetF.mk [.p (.bool b)] [] 0 (Re.at [] []) rfl ⟨⟨b, rfl, hb⟩, rfl, rfl⟩
end Go.Proofs.YtllafhhnciobhaaGreatDoor
