/- What a form asks of the check for forms that hold themselves. -/
import Derived.Test.YtilbjlngnpmhcaaChecked
import Derived.Test.YtilbjlngnpmhcaaFirst
import Derived.Deep.LoopGhost
import Derived.Deep.RegionHeld3
import Derived.StillTailTactics
namespace Go.Proofs.Ytilbjlngnpmhcaa
open Go.RowKit
set_option linter.unusedVariables false
set_option linter.unusedSimpArgs false
/-- the check for forms that hold themselves says no, from a world on -/
def EndlessAt (v : Value) (w : World) : Prop := ∀ w', Below w.heap.size w w' →
  Calls Try.prog 89 #[v] w' fun e w'' => e = .returned (.bool false) ∧ Below w'.heap.size w' w''
theorem EndlessAt.later {v : Value} {w w' : World} (h : EndlessAt v w) (hb : Below w.heap.size w w') : EndlessAt v w' :=
  fun w'' hb' => h w'' (hb.trans (hb'.mono hb.size))
end Go.Proofs.Ytilbjlngnpmhcaa
