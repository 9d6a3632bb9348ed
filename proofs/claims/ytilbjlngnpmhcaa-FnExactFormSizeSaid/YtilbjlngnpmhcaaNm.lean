/- Contracts of the functions that judge names, of both sides. -/
import Derived.Test.YtilbjlngnpmhcaaChecked
import Derived.Test.YtilbjlngnpmhcaaMaNm
namespace Go.Proofs.Ytilbjlngnpmhcaa
open Go.RowKit
set_option maxHeartbeats 400000 in
theorem l1Letter_any (c : Nat) (b : Bool) (w : World) (hc : c < 256) :
    Calls Try.prog 105 #[.int .u8 c, .bool b] w fun e w' => e = .returned (.bool (ltr c b)) ∧ w = w' := by
  go_enter Try.func105, Try.ntmps105
  go_wp2
  all_goals
    go_ret
    refine ⟨ret_bool ?_, rfl⟩
    rw [Bool.eq_iff_iff]
    simp_all [ltr]
    try omega
set_option maxHeartbeats 400000 in
theorem beginsName_any (c : Nat) (w : World) (hc : c < 2147483648) :
    Calls Try.prog 131 #[.int .i32 c] w fun e w' => e = .returned (.bool (ltr c true)) ∧ w = w' := by
  go_enter Try.func131, Try.ntmps131
  go_wp2
  all_goals
    go_ret
    refine ⟨ret_bool ?_, rfl⟩
    rw [Bool.eq_iff_iff]
    simp_all [ltr]
    try omega
end Go.Proofs.Ytilbjlngnpmhcaa
