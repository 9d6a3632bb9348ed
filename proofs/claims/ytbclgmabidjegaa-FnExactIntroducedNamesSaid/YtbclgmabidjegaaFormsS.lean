/- The laws' pieces for lists of forms: sizes, copies, comparison. -/
import Derived.Test.YtbclgmabidjegaaForms
import Derived.Test.YtbclgmabidjegaaOpenS
import Derived.Test.YtbclgmabidjegaaSz
import Derived.Test.YtbclgmabidjegaaTo
import Derived.Test.YtbclgmabidjegaaEq
import Derived.Test.YtbclgmabidjegaaData
namespace Go.Proofs.Ytbclgmabidjegaa
open Go.ChangeShapes Go.WideShapes Go.ChangeAt Go.RowKit
set_option linter.unusedVariables false
set_option linter.unusedSimpArgs false
theorem leftS2 (n : Nat) : (leftOf 1048576 n < 0) ∨ (n ≤ 1048576 ∧ leftOf 1048576 n = 1048576 - n) := by
  unfold leftOf
  by_cases h : (n : Int) ≤ 1048576
  · rw [if_pos h]; exact .inr ⟨by omega, rfl⟩
  · rw [if_neg h]; exact .inl (by omega)
theorem leftS3 (n m : Nat) (h : n ≤ 1048576) : (leftOf (1048576 - n) m < 0) ∨ (n + m ≤ 1048576 ∧ 0 ≤ leftOf (1048576 - n) m) := by
  unfold leftOf
  by_cases h2 : (m : Int) ≤ 1048576 - n
  · rw [if_pos h2]; exact .inr ⟨by omega, by omega⟩
  · rw [if_neg h2]; exact .inl (by omega)
theorem count_szAll : ∀ (ks : List Fm), ∀ g ∈ ks, g.sz ≤ szAll ks
  | [], g, h => by cases h
  | f :: r, g, h => by
    rw [List.mem_cons] at h
    have h2 := fun hg => count_szAll r g hg
    cases f with
    | mk k nm n sc ks =>
      simp only [szAll]
      rcases h with rfl | h
      · simp only [Fm.sz]; omega
      · have := h2 h; omega
mutual
theorem marks_szS : ∀ f : Fm, f.marks ≤ 3 * f.sz
  | .mk _ _ _ sc ks => by
    have := marksAll_szS ks
    simp only [Fm.marks, Fm.sz] at *
    omega
theorem marksAll_szS : ∀ ks : List Fm, marksAll ks ≤ 3 * szAll ks
  | [] => by simp [marksAll, szAll]
  | f :: r => by
    have h1 := marks_szS f
    have h2 := marksAll_szS r
    cases f with
    | mk kd nm n sc ks =>
      simp only [marksAll, szAll, Fm.marks, Fm.sz] at *
      omega
end
theorem szFormS_row (B : Nat) (ks : List Fm) (a : Option Addr) (cap : Nat) (w : World) (l : Int) (hB : B ≤ w.heap.size) (hv : FormsIn (· < B) w a cap ks) (hl : 0 ≤ l ∧ l ≤ 1048576) :
    Calls Try.prog 29 #[.slice a ks.length cap, .int .i64 l] w fun e w' => e = .returned (.int .i64 (leftOf l (szAll ks))) ∧ Below w.heap.size w w' :=
  szFormS_of B ks (fun g _ => szForm_any B g) a cap w l hB hv.1 hv.2.1 hv.2.2 hl
theorem KidsOwn.readsS {φ : Nat → Prop} {w : World} {a : Option Addr} {cap : Nat} {ks : List Fm} {bs : List Nat} (h : KidsOwn w a cap ks bs) (hp : ∀ b ∈ bs, φ b) : FormsIn φ w a cap ks := by
  refine ⟨h.1, h.2.1, ?_⟩
  rcases h.2.2 with h | ⟨b, off, bs3, e1, e2, h⟩
  · exact .inl h.1
  · exact .inr ⟨b, off, e1, hp b (by rw [e2]; simp), RowOwn.inRow b off ks bs3 (fun x hx => hp x (by rw [e2]; simp [hx])) h⟩
theorem toFormS_row (B : Nat) (ks : List Fm) (a : Option Addr) (cap : Nat) (w : World) (hB : B ≤ w.heap.size) (hv : FormsIn (· < B) w a cap ks) (hsz : szAll ks ≤ 1048576) :
    Calls Try.prog 32 #[.slice a ks.length cap] w fun e w' => ∃ a' cap' bs, e = .returned (.slice a' ks.length cap') ∧ KidsOwn w' a' cap' ks bs ∧ NewBs bs w.heap.size w'.heap.size ∧ Below w.heap.size w w' := by
  refine (toFormS_of B ks (fun g _ => toForm_any B g) a cap w hB hv.1 hv.2.1 hv.2.2 hsz).mono ?_
  rintro e w' ⟨a', cap', rfl, h1, h2, ⟨bs, h3, h4, _⟩, hb⟩
  exact ⟨a', cap', bs, rfl, ⟨h1, h2, h3⟩, h4, hb⟩
theorem eqFormS_row (B : Nat) (ks : List Fm) (a a2 : Option Addr) (cap cap2 : Nat) (w : World) (hB : B ≤ w.heap.size) (hv : FormsIn (· < B) w a cap ks) (hu : FormsIn (· < B) w a2 cap2 ks) :
    Calls Try.prog 34 #[.slice a ks.length cap, .slice a2 ks.length cap2] w fun e w' => e = .returned (.bool true) ∧ Below w.heap.size w w' := by
  refine (eqFormS_of B ks ks (fun g _ => eqForm_any B g) a a2 cap cap2 w hB hv.1 hv.2.1 hu.1 hu.2.1 hv.2.2 hu.2.2).mono ?_
  rintro e w' ⟨rfl, hb⟩
  exact ⟨by rw [sameAll_refl], hb⟩
end Go.Proofs.Ytbclgmabidjegaa
