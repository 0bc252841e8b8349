/-
  strings.Builder, in the calculus: bytes.
-/
import Derived.Test.YtocliihimbggjaaBu
namespace Go.Proofs.Ytocliihimbggjaa
open Go Go.LX
set_option maxRecDepth 100000
set_option linter.unusedVariables false

theorem bytesPV_append (a b : ByteArray) : bytesPV (a ++ b) = bytesPV a ++ bytesPV b := by
  have : (a ++ b).data.toList = a.data.toList ++ b.data.toList := by rw [ByteArray.data_append, Array.toList_append]
  rw [bytesPV, bytesPV, bytesPV, this, List.map_append]
theorem bytesPV_length (a : ByteArray) : (bytesPV a).length = a.size := by rw [bytesPV, List.length_map, Array.length_toList]; rfl

end Go.Proofs.Ytocliihimbggjaa
