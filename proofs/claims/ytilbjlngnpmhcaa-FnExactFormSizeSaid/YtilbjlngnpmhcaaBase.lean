/- What all texts of this seat import; small plain facts. Nothing of the program is used. -/
import Derived.WalkKit
import Derived.WalkSpells
import Derived.WalkLawsBesides
import Derived.Lib.Hide
import Derived.Lib.Strings
import Derived.Lib.OthersKept
namespace Go.Proofs.Ytilbjlngnpmhcaa
open Go.RowKit
theorem ret_bool {a b : Bool} (h : a = b) : Ending.returned (.bool a) = .returned (.bool b) := by rw [h]
theorem ret_int {k : IntKind} {a b : Int} (h : a = b) : Ending.returned (.int k a) = .returned (.int k b) := by rw [h]
theorem size_len (s : ByteArray) : s.size = s.data.toList.length := Lib.size_eq s
end Go.Proofs.Ytilbjlngnpmhcaa
