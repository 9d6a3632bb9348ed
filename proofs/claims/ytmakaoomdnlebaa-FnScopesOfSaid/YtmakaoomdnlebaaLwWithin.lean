/- The contract of the program's containment, as laws call it. -/
import Derived.Test.YtmakaoomdnlebaaLwSets
import Derived.Test.YtmakaoomdnlebaaSetFns2
namespace Go.Proofs.Ytmakaoomdnlebaa
open Go.RowKit
set_option linter.unusedVariables false
theorem implWithin_law (a b : List Int) (pa pb : Option Addr) (ca cb : Nat) (w : World) (ha : IntRow (· < w.heap.size) w (.slice pa a.length ca) a) (hb : IntRow (· < w.heap.size) w (.slice pb b.length cb) b) (hl : a.length ≤ 1000) (hlb : b.length ≤ 1000) (R : Bool) (hR : withinB a b = R) :
    Calls Try.prog 29 #[.slice pa a.length ca, .slice pb b.length cb] w fun e w' => e = .returned (.bool R) ∧ Below w.heap.size w w' := by
  subst hR
  exact implWithin_any (· < w.heap.size) a b pa pb ca cb w (fun k hk => hk) ha hb (by omega) (by omega)
end Go.Proofs.Ytmakaoomdnlebaa
