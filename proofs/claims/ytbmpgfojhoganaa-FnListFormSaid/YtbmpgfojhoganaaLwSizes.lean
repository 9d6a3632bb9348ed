/- The contracts of FormValid and FormSize, as laws call them. -/
import Derived.Test.YtbmpgfojhoganaaLwBase
import Derived.Test.YtbmpgfojhoganaaSize
namespace Go.Proofs.Ytbmpgfojhoganaa
open Go.RowKit
set_option linter.unusedVariables false
set_option linter.unusedSimpArgs false
theorem implSize_law (R : Fm) (sa : Option Addr) (scap : Nat) (a : Option Addr) (cap : Nat) (w : World) (hv : InV (· < w.heap.size) w R (.agg #[.int .i64 R.kind, .string R.name, .int .i64 R.n, .slice sa R.scopes.length scap, .slice a R.kids.length cap])) (hc : R.count ≤ 1048577) (hend : EndlessAt (.agg #[.int .i64 R.kind, .string R.name, .int .i64 R.n, .slice sa R.scopes.length scap, .slice a R.kids.length cap]) w) (n : Nat) (hn : R.count = n) :
    Calls Try.prog 15 #[.agg #[.int .i64 R.kind, .string R.name, .int .i64 R.n, .slice sa R.scopes.length scap, .slice a R.kids.length cap]] w fun e w' => e = .returned (.int .i64 (n : Int)) ∧ Below w.heap.size w w' := by
  subst hn
  exact implSize_any ⟨R, sa, scap, a, cap⟩ w hv hc hend
end Go.Proofs.Ytbmpgfojhoganaa
