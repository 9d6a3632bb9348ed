/- The contracts of the program's StripForm, as laws call it. -/
import Derived.Test.YtbmpgfojhoganaaLwBase
import Derived.Test.YtbmpgfojhoganaaChgData
import Derived.Test.YtbmpgfojhoganaaImplStrip
namespace Go.Proofs.Ytbmpgfojhoganaa
open Go.RowKit
set_option linter.unusedVariables false
set_option linter.unusedSimpArgs false
theorem implStrip_law (f : Fm) (v : Value) (w : World) (hv : InV (· < w.heap.size) w f v) (hsz : f.sz ≤ 1048576) (hend : EndlessAt v w) (R : Fm) (hR : f.chg (fun _ _ => []) = R) :
    Calls Try.prog 12 #[v] w fun e w' => ∃ sa scap a cap, e = .returned (.agg #[.int .i64 R.kind, .string R.name, .int .i64 R.n, .slice sa R.scopes.length scap, .slice a R.kids.length cap]) ∧ InV (fun k => w.heap.size ≤ k ∧ k < w'.heap.size) w' R (.agg #[.int .i64 R.kind, .string R.name, .int .i64 R.n, .slice sa R.scopes.length scap, .slice a R.kids.length cap]) ∧ EndlessAt (.agg #[.int .i64 R.kind, .string R.name, .int .i64 R.n, .slice sa R.scopes.length scap, .slice a R.kids.length cap]) w' ∧ Below w.heap.size w w' := by
  have hc := f.count_le
  have hc2 : R.count ≤ 4294967296 := by rw [← hR, chg_count]; omega
  subst hR
  refine (implStrip_any f v w hv hsz hend).mono ?_
  rintro e w' ⟨sa, scap, a, cap, bs, rfl, hown, hnew, hpl, hb⟩
  exact ⟨sa, scap, a, cap, rfl, OwnV.inV _ _ bs (fun c hm => hnew.2 c hm) hown, endlessAt_own _ _ bs w' hown hnew.1 (fun c hm => (hnew.2 c hm).2) hpl hc2, hb⟩
end Go.Proofs.Ytbmpgfojhoganaa
