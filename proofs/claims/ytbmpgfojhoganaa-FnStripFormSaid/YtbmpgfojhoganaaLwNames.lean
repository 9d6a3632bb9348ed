/- The contract of the program's NamesOf, as laws call it. -/
import Derived.Test.YtbmpgfojhoganaaLwBase
import Derived.Test.YtbmpgfojhoganaaImplNames
namespace Go.Proofs.Ytbmpgfojhoganaa
open Go.RowKit
set_option linter.unusedVariables false
set_option linter.unusedSimpArgs false
theorem namesF_none : ∀ (V : List Fm) (out : List ByteArray), (∀ g ∈ V, g.kind ≠ 1) → namesF out V = out
  | [], out, _ => rfl
  | g :: V, out, h => by
    have e : addN out g = out := by
      unfold addN
      rw [if_neg]
      have h1 := h g (by simp)
      simp [h1]
    show namesF (addN out g) V = out
    rw [e]
    exact namesF_none V out fun x hx => h x (by simp [hx])
theorem names_some {f : Fm} (h : (namesF [] f.pre).length ≠ 0) : ∃ g ∈ f.pre, g.kind = 1 := by
  by_cases hx : ∃ g ∈ f.pre, g.kind = 1
  · exact hx
  · exfalso
    apply h
    rw [namesF_none f.pre [] fun g hg hk => hx ⟨g, hg, hk⟩]
    rfl
theorem implNamesOf_len (R : Fm) (sa : Option Addr) (scap : Nat) (a : Option Addr) (cap : Nat) (w : World) (hv : InV (· < w.heap.size) w R (.agg #[.int .i64 R.kind, .string R.name, .int .i64 R.n, .slice sa R.scopes.length scap, .slice a R.kids.length cap])) (hsz : R.sz ≤ 1048576) (hend : EndlessAt (.agg #[.int .i64 R.kind, .string R.name, .int .i64 R.n, .slice sa R.scopes.length scap, .slice a R.kids.length cap]) w) (n : Nat) (hn : (namesF [] R.pre).length = n) :
    Calls Try.prog 17 #[.agg #[.int .i64 R.kind, .string R.name, .int .i64 R.n, .slice sa R.scopes.length scap, .slice a R.kids.length cap]] w fun e w' => ∃ pa ca, e = .returned (.slice pa n ca) ∧ Below w.heap.size w w' := by
  subst hn
  refine (implNamesOf_any ⟨R, sa, scap, a, cap⟩ w hv hsz hend).mono ?_
  rintro e w' ⟨pa, ca, bs, rfl, _, _, hb⟩
  exact ⟨pa, ca, rfl, hb⟩
end Go.Proofs.Ytbmpgfojhoganaa
