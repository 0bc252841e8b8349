/-
  Laws of layer 8.
-/
import Derived.Test.YtllafhhnciobhaaGreatDoorGa
namespace Go.Proofs.YtllafhhnciobhaaGreatDoor

open Go Go.LX
set_option maxRecDepth 100000
set_option linter.unusedVariables false

theorem enc_small (A : List Int) (hA : ∀ a ∈ A, i64 a) (h8 : A.length ≤ 8) : (enc A).length < 1000000 := by
  have := enc_len A hA; omega
theorem five : ∀ x ∈ ([5] : List Int), i64 x := by
  intro x hx; rw [List.mem_singleton.1 hx]; exact ⟨by decide, by decide⟩
/-- Places in a row. -/
def row (t : Int) : Nat → List Int
  | 0 => []
  | k + 1 => row t k ++ [t + k]
theorem row_length (t : Int) : ∀ k, (row t k).length = k
  | 0 => rfl
  | k + 1 => by rw [row, List.length_append, row_length t k]; rfl
theorem row_i64 (t : Int) (h0 : -1099511627776 ≤ t) (h1 : t ≤ 1099511627776) : ∀ k, k ≤ 1000 → ∀ x ∈ row t k, i64 x
  | 0, _, x, h => by cases h
  | k + 1, hk, x, h => by
    rw [row] at h
    rcases List.mem_append.1 h with h | h
    · exact row_i64 t h0 h1 k (by omega) x h
    · rw [List.mem_singleton.1 h]; constructor <;> omega
end Go.Proofs.YtllafhhnciobhaaGreatDoor
/-
  Law 8, GreyOver.
-/
namespace Go.Proofs.YtllafhhnciobhaaGreatDoor

open Go Go.LX
set_option maxRecDepth 100000
set_option linter.unusedVariables false

end Go.Proofs.YtllafhhnciobhaaGreatDoor
/-
  The document's own list of places.
-/
namespace Go.Proofs.YtllafhhnciobhaaGreatDoor

open Go Go.LX
set_option maxRecDepth 100000
set_option linter.unusedVariables false

def i64s : List Int → List PV
  | [] => []
  | x :: l => .int .i64 (.sym x) :: i64s l
theorem i64s_length : ∀ l, (i64s l).length = l.length
  | [] => rfl
  | x :: l => by simp [i64s, i64s_length l]
theorem i64s_app : ∀ a b, i64s (a ++ b) = i64s a ++ i64s b
  | [], b => rfl
  | x :: a, b => by simp [i64s, i64s_app a b]
theorem i64s_take : ∀ (l : List Int) (k : Nat), i64s (l.take k) = (i64s l).take k
  | [], k => by simp [i64s]
  | x :: l, 0 => rfl
  | x :: l, k + 1 => by simp [i64s, i64s_take l k]
theorem i64s_get : ∀ (l : List Int) (i : Nat) (x : Int), l[i]? = some x → (i64s l)[i]? = some (.int .i64 (.sym x))
  | [], i, x, h => by simp at h
  | y :: l, 0, x, h => by simp at h; subst h; rfl
  | y :: l, i + 1, x, h => by simpa [i64s] using i64s_get l i x (by simpa using h)
set_option maxHeartbeats 2000000 in
theorem refPush_lx (A : List Int) (a m : Int) (la : List PV) (ov : Bool) (hm : m = A.length) (hla : la = i64s A) (hA8 : A.length ≤ 8) :
    CallF (fun _ => Tryz.prog) 75 [.ptr 0 (.lit 0), .p (.int .i64 (.sym a))] [(0, .mix [.p (.vsl (.sym m) true la), .p (.bool ov)])] 1 (fun r h n => ∃ (b ov' : Bool) (m' : Int) (la' : List PV) (A' : List Int), r = .p (.bool b) ∧ h = [(0, .mix [.p (.vsl (.sym m') true la'), .p (.bool ov')])] ∧ n = 1 ∧ m' = A'.length ∧ la' = i64s A' ∧ (A.length < 8 → b = true ∧ A' = A ++ [a] ∧ ov' = ov) ∧ (8 ≤ A.length → b = false ∧ A' = A ∧ ov' = true)) := by
  refine callF_of_body tok Tryz.func75 (by kernel_rfl) rfl rfl rfl ?_; conv => cbv
  refine Br.mk (fun g => ?_) (fun g => ?_)
  · have g : 8 ≤ m := g
    conv => cbv
    refine RetF.mk [.p (.bool false)] [(0, .mix [.p (.vsl (.sym m) true la), .p (.bool true)])] 1 (Re.at [(0, 0)] []) rfl ⟨false, true, m, la, A, rfl, rfl, rfl, hm, hla, fun h => by omega, fun _ => ⟨rfl, rfl, rfl⟩⟩
  · have g : ¬ 8 ≤ m := g
    have hlal : (la.length : Int) = m := by rw [hla, i64s_length]; omega
    conv => cbv
    refine Need.mk (by show (la.length : Int) = m * 1; omega) ?_
    conv => cbv
    refine Need.mk ⟨by show m * 8 ≤ 140737488355328; omega, by show m ≤ 9223372036854775807; omega⟩ ?_
    conv => cbv
    refine Room.new rfl ?_
    conv => cbv
    refine Room.new ⟨by show (la.length : Int) = m * 1; omega, by show (m + 1) * 8 ≤ 140737488355328; omega, by show m + 1 ≤ 9223372036854775807; omega⟩ ?_
    conv => cbv
    refine Upd.mk fun L2 hL2 => ?_
    have hL3 : L2 = i64s (A ++ [a]) := by rw [hL2, hla, i64s_app]; rfl
    conv => cbv
    refine Sum.mk fun m2 hm2 => ?_
    have hm2 : m2 = m + 1 := hm2
    conv => cbv
    refine RetF.mk [.p (.bool true)] [(0, .mix [.p (.vsl (.sym m2) true L2), .p (.bool ov)])] 1 (Re.at [(0, 0)] []) rfl ⟨true, ov, m2, L2, A ++ [a], rfl, rfl, rfl, by simp; omega, hL3, fun _ => ⟨rfl, rfl, rfl⟩, fun h => by omega⟩
set_option maxHeartbeats 2000000 in
theorem refPop_lx (A : List Int) (m : Int) (la : List PV) (ov : Bool) (hm : m = A.length) (hla : la = i64s A) (hA8 : A.length ≤ 8) :
    CallF (fun _ => Tryz.prog) 111 [.ptr 0 (.lit 0)] [(0, .mix [.p (.vsl (.sym m) true la), .p (.bool ov)])] 1 (fun r h n => ∃ (v : Int) (b : Bool) (m' : Int) (la' : List PV) (A' : List Int), r = .tup [.p (.int .i64 (.sym v)), .p (.bool b)] ∧ h = [(0, .mix [.p (.vsl (.sym m') true la'), .p (.bool ov)])] ∧ n = 1 ∧ m' = A'.length ∧ la' = i64s A' ∧ (A = [] ∧ v = 0 ∧ b = false ∧ A' = [] ∨ A = A' ++ [v] ∧ b = true)) := by
  refine callF_of_body tok Tryz.func111 (by kernel_rfl) rfl rfl rfl ?_; conv => cbv
  refine Fit.mk (by show (-9223372036854775808 : Int) ≤ m - 1; omega) (by show m - 1 ≤ 9223372036854775807; omega) ?_
  intro q hq
  have hq : q = m - 1 := hq
  have hlal : (la.length : Int) = m := by rw [hla, i64s_length]; omega
  conv => cbv
  refine Br.mk (fun g => ?_) (fun g => ?_)
  · have g : q < 0 := g
    have hA0 : A = [] := List.eq_nil_of_length_eq_zero (by omega)
    conv => cbv
    refine RetF.mk [.p (.int .i64 (.sym 0)), .p (.bool false)] [(0, .mix [.p (.vsl (.sym m) true la), .p (.bool ov)])] 1 (Re.at [(0, 0)] []) rfl ⟨0, false, m, la, A, rfl, rfl, rfl, hm, hla, .inl ⟨hA0, rfl, rfl, hA0⟩⟩
  · have g : ¬ q < 0 := g
    obtain ⟨B, a, hB⟩ : ∃ B a, A = B ++ [a] := ⟨_, _, (List.dropLast_concat_getLast (by rintro rfl; simp at hm; omega)).symm⟩
    have hBl : A.length = B.length + 1 := by rw [hB]; simp
    have hAq : A[q.toNat]? = some a := by rw [hB, List.getElem?_append_right (by omega), show q.toNat - B.length = 0 by omega]; rfl
    have hcq := i64s_get A q.toNat a hAq
    rw [← hla] at hcq
    conv => cbv
    refine Need.mk ⟨by simp only [I.val]; omega, by simp only [I.val]; omega⟩ ?_
    conv => cbv
    refine Cell.at q _ hcq (by simp [I.val]) rfl ?_
    conv => cbv
    refine Need.mk ⟨by simp only [I.val]; omega, by simp only [I.val]; omega, by simp only [I.val]; omega⟩ ?_
    conv => cbv
    refine Upd.mk fun L1 hL1 => ?_
    have hL1 : L1 = i64s B := by
      rw [hL1, show ((I.lit 0).val.toNat * 1) = 0 from rfl, List.drop_zero, show ((I.sym q).val - (I.lit 0).val).toNat * 1 = B.length by simp only [I.val]; omega, hla, ← i64s_take, hB, List.take_left]
    conv => cbv
    refine Sum.mk fun q2 hq2 => ?_
    have hq2 : q2 = q := by have : q2 = q - 0 := hq2; omega
    have hL1l : (L1.length : Int) = q2 := by rw [hL1, i64s_length]; omega
    conv => cbv
    refine Need.mk (by show (L1.length : Int) = q2 * 1; omega) ?_
    conv => cbv
    refine Need.mk ⟨by show q2 * 8 ≤ 140737488355328; omega, by show q2 ≤ 9223372036854775807; omega⟩ ?_
    conv => cbv
    have f1 : q2 = (B.length : Int) := by omega
    refine RetF.mk [.p (.int .i64 (.sym a)), .p (.bool true)] [(0, .mix [.p (.vsl (.sym q2) true L1), .p (.bool ov)])] 1 (Re.at [(0, 0)] []) rfl ⟨a, true, q2, L1, B, rfl, rfl, rfl, f1, hL1, .inr ⟨hB, rfl⟩⟩
end Go.Proofs.YtllafhhnciobhaaGreatDoor
