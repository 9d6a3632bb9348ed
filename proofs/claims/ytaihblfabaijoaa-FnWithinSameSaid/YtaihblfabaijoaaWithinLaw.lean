/- Containment of sets, as data, and calls of both sides. -/
import Derived.Test.YtaihblfabaijoaaDrawTwo
import Derived.Test.YtaihblfabaijoaaWithin
import Derived.Test.YtaihblfabaijoaaSetFns2
namespace Go.Proofs.Ytaihblfabaijoaa
open Go.RowKit
set_option linter.unusedVariables false
set_option linter.unusedSimpArgs false
def within (a b : List Int) : Bool := a.all fun x => hasB b x
theorem wn_iff (a b : List Int) : within a b = true ↔ ∀ x ∈ a, x ∈ b := by
  unfold within
  rw [List.all_eq_true]
  exact ⟨fun h x hx => (hasB_iff b x).1 (h x hx), fun h x hx => (hasB_iff b x).2 (h x hx)⟩
theorem wn_self (a : List Int) : within a a = true := (wn_iff a a).2 fun x hx => hx
theorem wn_trans {a b c : List Int} (h : within a b = true) (g : within b c = true) : within a c = true :=
  (wn_iff a c).2 fun x hx => (wn_iff b c).1 g x ((wn_iff a b).1 h x hx)
/-- one call of the program's containment -/
theorem call_within {φ ψ : Nat → Prop} (a b : List Int) (pa pb : Option Addr) (ca cb : Nat) (w : World) (hφ : ∀ k, φ k → k < w.heap.size) (hψ : ∀ k, ψ k → k < w.heap.size) (ha : IntRow φ w (.slice pa a.length ca) a) (hb : IntRow ψ w (.slice pb b.length cb) b)
    (hl : a.length ≤ 1000) (hlb : b.length ≤ 1000) (R : Bool) (hR : within a b = R) :
    Calls Try.prog 16 #[.slice pa a.length ca, .slice pb b.length cb] w fun e w' => e = .returned (.bool R) ∧ Below w.heap.size w w' := by
  rw [← hR]
  exact implWithin_any (· < w.heap.size) a b pa pb ca cb w (fun k hk => hk) (ha.mono hφ) (hb.mono hψ) (by omega) (by omega)
theorem call_model {φ ψ : Nat → Prop} (a b : List Int) (pa pb : Option Addr) (ca cb : Nat) (w : World) (ha : IntRow φ w (.slice pa a.length ca) a) (hb : IntRow ψ w (.slice pb b.length cb) b) (hφ : ∀ k, φ k → k < w.heap.size) (hψ : ∀ k, ψ k → k < w.heap.size)
    (R : Bool) (hR : within a b = R) :
    Calls Try.prog 17 #[.slice pa a.length ca, .slice pb b.length cb] w fun e w' => e = .returned (.bool R) ∧ w' = w := by
  rw [← hR]
  exact specWithin_any (· < w.heap.size) a b _ _ w (ha.mono hφ) (hb.mono hψ)
end Go.Proofs.Ytaihblfabaijoaa
