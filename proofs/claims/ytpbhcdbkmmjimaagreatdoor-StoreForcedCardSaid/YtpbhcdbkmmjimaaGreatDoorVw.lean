/-
  Layer 21: the help of its laws.
-/
import Derived.Test.YtpbhcdbkmmjimaaGreatDoorBh
import Derived.Test.YtpbhcdbkmmjimaaGreatDoorBf
namespace Go.Proofs.YtpbhcdbkmmjimaaGreatDoor
open Go Go.LX
set_option maxRecDepth 100000
set_option linter.unusedVariables false
set_option linter.unusedSimpArgs false
set_option maxHeartbeats 32000000
theorem plain21_true (A : List Int) (m : Int) (la lb : List PV) (hm : m = A.length) (ha : la = ipv A) (hb : lb = ipv A) (hA : (A.length : Int) < 1000000) :
  CallF (fun _ => Tryz.prog) 26 [.p (.vsl (.sym m) true la),.p (.vsl (.sym m) true lb)] [] 0 (fun r h n => r = .p (.bool true) ∧ h = [] ∧ n = 0) :=
 (plaini64_lx A A m m la lb hm hm (by rw [ha]; exact preI_ints A) (by rw [hb]; exact preI_ints A) hA).mono fun r h n ⟨⟨b,e1,h1⟩,e2,e3⟩ => ⟨by rw [e1,h1.2 rfl],e2,e3⟩
end Go.Proofs.YtpbhcdbkmmjimaaGreatDoor
