/-
  Whether a string is in a list of strings.
-/
import Derived.Test.YthcddbfjjkniiaaRows
import Derived.Test.YthcddbfjjkniiaaPlainStr
namespace Go.Proofs.Ythcddbfjjkniiaa
open Go.RowKit

/-- Is it among them? -/
def memS (x : ByteArray) (l : List ByteArray) : Bool := l.any fun y => decide (y = x)
theorem memS_no {x : ByteArray} {l : List ByteArray} : memS x l = false ↔ ∀ y ∈ l, y ≠ x := by simp [memS]
theorem memS_yes {x : ByteArray} {l : List ByteArray} {k : Nat} (h : l[k]? = some x) : memS x l = true := by
  simp only [memS, List.any_eq_true, decide_eq_true_eq]
  exact ⟨x, List.mem_of_getElem? h, rfl⟩
theorem memS_snoc {x y : ByteArray} {l : List ByteArray} {k : Nat} (h : memS x (l.take k) = false) (hy : l[k]? = some y) (hne : y ≠ x) : memS x (l.take (k + 1)) = false := by
  rw [memS_no] at *
  intro z hz
  rw [List.take_add_one, hy] at hz
  simp only [Option.toList_some, List.mem_append, List.mem_singleton] at hz
  rcases hz with hz | rfl
  · exact h z hz
  · exact hne

theorem in_str (v : Value) (l : List ByteArray) (x : ByteArray) (w : World) {B : Nat} (hs : Sl w B 1 v l.length (l.map Value.string)) :
    Calls Try.prog 36 #[v, .string x] w fun e w' => e = .returned (.bool (memS x l)) ∧ w = w' := by
  have hmx := hs.max
  unfold maxLen at hmx
  obtain ⟨A, c, hv⟩ := hs.is_slice
  have HS := Lib.hid hs
  clear hs
  subst hv
  generalize hla : l.length = n at *
  have HLA := Lib.hid hla
  clear hla
  go_enter Try.func36, Try.ntmps36
  go_wp2_with fail
  go_loop [5] (fun i => ∃ k : Nat, i = .int .i64 k ∧ k ≤ n ∧ Hid (memS x (l.take k) = false)) (fun i => n - (intOf i).toNat)
  case atStart => exact ⟨0, rfl, by omega, Lib.hid (by simp [memS])⟩
  case round =>
    obtain ⟨k, rfl, hk, hno⟩ := hrel
    by_cases hlt : k < n
    · obtain ⟨y, hy⟩ : ∃ y, l[k]? = some y := ⟨_, List.getElem?_eq_getElem (by rw [HLA.out]; exact hlt)⟩
      obtain ⟨a, c', hA⟩ := HS.out.some_ (by omega)
      obtain ⟨rfl, rfl⟩ : A = some a ∧ c = c' := by cases hA; exact ⟨rfl, rfl⟩
      clear hA
      have c1 : w.cell? (a.add k) = some (.string y) := HS.out.cell (by simp [hy])
      have hb := str_beq y x
      by_cases hxy : y = x
      · have hq : (y.toList == x.toList) = true := by rw [hb]; exact decide_eq_true hxy
        have HF : Hid (memS x l = true) := Lib.hid (memS_yes (by rw [← hxy]; exact hy))
        clear hb hxy hy
        go_wp2_with fail
        go_ret
        exact ⟨by rw [HF.out]; rfl, rfl⟩
      · have hq : (y.toList == x.toList) = false := by rw [hb]; exact decide_eq_false hxy
        have HF : Hid (memS x (l.take (k + 1)) = false) := Lib.hid (memS_snoc hno.out hy hxy)
        clear hb hxy hy hno
        go_wp2_with fail
        go_round
        case rel => exact ⟨k + 1, by go_num, by omega, HF⟩
        case measure => simp [intOf]; omega
    · have HF : Hid (memS x l = false) := Lib.hid (by
        have h := hno.out
        rwa [List.take_of_length_le (by rw [HLA.out]; omega)] at h)
      clear hno
      go_wp2_with fail
      go_ret
      exact ⟨by rw [HF.out]; rfl, rfl⟩
end Go.Proofs.Ythcddbfjjkniiaa
