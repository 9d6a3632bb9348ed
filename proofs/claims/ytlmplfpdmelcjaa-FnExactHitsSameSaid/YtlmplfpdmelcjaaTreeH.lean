/- The way to a hit's parts. -/
import Derived.Test.YtlmplfpdmelcjaaCountH
import Derived.Test.YtlmplfpdmelcjaaChecked
import Derived.StillTailTactics
import Derived.Deep.LoopGhost
namespace Go.Proofs.Ytlmplfpdmelcjaa
open Go.RowKit
set_option linter.unusedVariables false
set_option linter.unusedSimpArgs false
theorem partsOfHit_any (b o : Nat) (v : Value) (w : World) (hc : w.cell? ⟨b, o + 11, none⟩ = some v) :
    Calls Try.prog 92 #[.pointer (some ⟨b, o, none⟩)] w fun e w' => e = .returned v ∧ w = w' := by
  go_enter Try.func92, Try.ntmps92
  go_wp2_with fail
  go_ret
  exact ⟨rfl, rfl⟩
end Go.Proofs.Ytlmplfpdmelcjaa
