/-
  What Number answers of a number's digits, for every number below 10000.
-/
import Derived.Test.YtpblikbdnbgglaaNumber
import Derived.Test.YtpblikbdnbgglaaDigits
namespace Go.Proofs.Ytpblikbdnbgglaa
def NumsAt (n : Nat) : Prop := numV (mkB (digsF 3 n)) = ((n : Int), true) ∧ (digsF 3 n).length ≤ 4 ∧ numV (mkB (List.replicate (4 - (digsF 3 n).length) 48 ++ digsF 3 n)) = ((n : Int), true)
    ∧ (numV (mkB (48 :: 48 :: 48 :: 48 :: digsF 3 n))).2 = false ∧ (numV (mkB (45 :: digsF 3 n))).2 = false
instance (n : Nat) : Decidable (NumsAt n) := by unfold NumsAt; infer_instance
/-- What Number answers of a number's digits, with noughts ahead, too many of them, and a sign. -/
theorem nums2 : ∀ a b : Fin 100, NumsAt (100 * a.val + b.val) := by decide +kernel
theorem nums (n : Nat) (h : n < 10000) : NumsAt n := by
  have e : 100 * (n / 100) + n % 100 = n := Nat.div_add_mod n 100
  have := nums2 ⟨n / 100, by omega⟩ ⟨n % 100, by omega⟩
  simp only [e] at this
  exact this
end Go.Proofs.Ytpblikbdnbgglaa
