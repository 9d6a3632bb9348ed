/- The set of all scopes in a form, as data. -/
import Derived.Test.YtbclgmabidjegaaFolds
import Derived.Test.YtbclgmabidjegaaValid
import Derived.Test.YtbclgmabidjegaaData
namespace Go.Proofs.Ytbclgmabidjegaa
open Go.RowKit
set_option linter.unusedVariables false
set_option linter.unusedSimpArgs false
theorem row_up {w w' : World} {v : Value} {l : List Int} (h : IntRow (· < w.heap.size) w v l) (hb : Below w.heap.size w w') : IntRow (· < w'.heap.size) w' v l :=
  (h.later (Same.of_below hb (fun k hk => hk))).mono (fun k (hk : k < w.heap.size) => Nat.lt_of_lt_of_le hk hb.size)
theorem intRow_at {φ : Nat → Prop} {w : World} {a : Option Addr} {n cap : Nat} {l : List Int} (h : IntRow φ w (.slice a n cap) l) (j : Nat) (hj : j < l.length) :
    n = l.length ∧ ∃ b off, a = some ⟨b, off, none⟩ ∧ φ b ∧ w.cell? ⟨b, off + j, none⟩ = some (.int .i64 l[j]) := by
  obtain ⟨a', cap', e, _, _, _, hrow⟩ := h
  injection e with e1 e2 e3
  subst e1 e2 e3
  rcases hrow with h0 | ⟨b, off, rfl, hb, hc⟩
  · exfalso; rw [h0] at hj; simp at hj
  · exact ⟨rfl, b, off, rfl, hb, hc j hj⟩
theorem puts_take_succ (l ns : List Int) (j : Nat) (h : j < ns.length) : putsL l (ns.take (j + 1)) = putL (putsL l (ns.take j)) ns[j] := by
  have key : ∀ (ps bs : List Int) (m : List Int), putsL m (ps ++ bs) = putsL (putsL m ps) bs := by
    intro ps
    induction ps with
    | nil => intro bs m; rfl
    | cons a r ih => intro bs m; exact ih bs (putL m a)
  rw [List.take_succ_eq_append_getElem h, key]
  rfl
/-- the scopes of a form, if it is valid -/
def scopesOf (f : Fm) : List Int := if formB f = true then foldS [] f.pre else []
end Go.Proofs.Ytbclgmabidjegaa
