/- What a form asks of the check for forms that hold themselves. -/
import Derived.Test.YtbclgmabidjegaaChecked
import Derived.Test.YtbclgmabidjegaaFirst
import Derived.Deep.LoopGhost
import Derived.Deep.RegionHeld3
import Derived.StillTailTactics
namespace Go.Proofs.Ytbclgmabidjegaa
open Go.RowKit
set_option linter.unusedVariables false
set_option linter.unusedSimpArgs false
/-- the check for forms that hold themselves says no, from a world on -/
def EndlessAt (v : Value) (w : World) : Prop := ∀ w', Below w.heap.size w w' →
  Calls Try.prog 177 #[v] w' fun e w'' => e = .returned (.bool false) ∧ Below w'.heap.size w' w''
theorem EndlessAt.later {v : Value} {w w' : World} (h : EndlessAt v w) (hb : Below w.heap.size w w') : EndlessAt v w' :=
  fun w'' hb' => h w'' (hb.trans (hb'.mono hb.size))
theorem kidsOf_any (b o : Nat) (v : Value) (w : World) (hc : w.cell? ⟨b, o + 4, none⟩ = some v) :
    Calls Try.prog 179 #[.pointer (some ⟨b, o, none⟩)] w fun e w' => e = .returned v ∧ w = w' := by
  go_enter Try.func179, Try.ntmps179
  go_wp2_with fail
  go_ret
  exact ⟨rfl, rfl⟩
end Go.Proofs.Ytbclgmabidjegaa
