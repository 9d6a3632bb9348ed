/- The contract of the model's test for names. -/
import Derived.Test.YtnogpaflibghhaaNameIs
import Derived.Test.YtnogpaflibghhaaValid
import Derived.Test.YtnogpaflibghhaaData
import Derived.Test.YtnogpaflibghhaaMids
namespace Go.Proofs.Ytnogpaflibghhaa
open Go.RowKit
set_option linter.unusedVariables false
set_option linter.unusedSimpArgs false
set_option maxRecDepth 100000 in
set_option maxHeartbeats 1000000 in
theorem l3Is_any (f : Fm) (v : Value) (w : World) (hv : InV (· < w.heap.size) w f v) (hc : f.count ≤ 1048577) :
    Calls Try.prog 160 #[v] w fun e w' => e = .returned (.bool (f.kind == 1 && formB f)) ∧ Below w.heap.size w w' := by
  have HV := Lib.hid hv
  obtain ⟨sa, scap, a, cap, rfl⟩ := hv.form
  clear hv
  cases hk : (f.kind == 1) with
  | false =>
    go_enter Try.func160, Try.ntmps160
    go_wp2_with fail
    go_ret
    exact ⟨rfl, below_alloc w _⟩
  | true =>
    go_enter Try.func160, Try.ntmps160
    go_wp2_with fail
    refine (specFormValid_any w.heap.size f _ _ (by simp) (InV.later (same_below (below_alloc _ _)) _ _ HV.out) (by omega)).mono ?_
    rintro e w1 ⟨rfl, hb1⟩
    have HB1 : Hid (Below w.heap.size w w1) := (below_alloc w _).trans (hb1.mono (by simp))
    clear hb1
    go_wp2_with fail
    go_ret
    exact ⟨by simp, HB1.out⟩
end Go.Proofs.Ytnogpaflibghhaa
