/- The contracts of the model's FormValid and FormSize, as laws call them. -/
import Derived.Test.YtbmpgfojhoganaaLwSizes
namespace Go.Proofs.Ytbmpgfojhoganaa
open Go.RowKit
theorem specFormValid_law (f : Fm) (v : Value) (w : World) (hv : InV (· < w.heap.size) w f v) (hc : f.count ≤ 1048577) (ok : Bool) (hok : formB f = ok) :
    Calls Try.prog 25 #[v] w fun e w' => e = .returned (.bool ok) ∧ Below w.heap.size w w' := by
  rw [← hok]
  exact specFormValid_any w.heap.size f v w (Nat.le_refl _) hv (by omega)
theorem specSize_law (f : Fm) (v : Value) (w : World) (hv : InV (· < w.heap.size) w f v) (hc : f.count ≤ 1048577) (n : Nat) (hn : f.count = n) :
    Calls Try.prog 27 #[v] w fun e w' => e = .returned (.int .i64 (n : Int)) ∧ Below w.heap.size w w' := by
  subst hn
  exact specSize_any w.heap.size f v w (Nat.le_refl _) hv (by omega)
end Go.Proofs.Ytbmpgfojhoganaa
