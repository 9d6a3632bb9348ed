/- Lists of forms, read: later, in more memory, in part. -/
import Derived.Test.YtbclgmabidjegaaData
namespace Go.Proofs.Ytbclgmabidjegaa
open Go.RowKit
set_option linter.unusedVariables false
theorem FormsIn.later {φ : Nat → Prop} {w w' : World} {a : Option Addr} {cap : Nat} {ks : List Fm} (hs : Same φ w w') (h : FormsIn φ w a cap ks) : FormsIn φ w' a cap ks := by
  refine ⟨h.1, h.2.1, ?_⟩
  rcases h.2.2 with h | ⟨b, off, e1, e2, h⟩
  · exact .inl h
  · exact .inr ⟨b, off, e1, e2, h.later hs b e2⟩
theorem FormsIn.mono {φ ψ : Nat → Prop} {w : World} {a : Option Addr} {cap : Nat} {ks : List Fm} (hs : ∀ k, φ k → ψ k) (h : FormsIn φ w a cap ks) : FormsIn ψ w a cap ks := by
  refine ⟨h.1, h.2.1, ?_⟩
  rcases h.2.2 with h | ⟨b, off, e1, e2, h⟩
  · exact .inl h
  · exact .inr ⟨b, off, e1, hs b e2, RowIn.mono hs b off ks h⟩
theorem RowIn.take {φ : Nat → Prop} {w : World} {b : Nat} : ∀ (i : Nat) {off : Nat} {ks : List Fm}, RowIn φ w b off ks → RowIn φ w b off (ks.take i)
  | 0, _, _, _ => by simp [RowIn]
  | i + 1, off, [], _ => by simp [RowIn]
  | i + 1, off, f :: r, h => by
    unfold RowIn at h
    rw [List.take_succ_cons]
    unfold RowIn
    exact ⟨h.1, RowIn.take i h.2⟩
theorem FormsIn.take {φ : Nat → Prop} {w : World} {a : Option Addr} {cap : Nat} {ks : List Fm} (h : FormsIn φ w a cap ks) (i : Nat) : FormsIn φ w a cap (ks.take i) := by
  refine ⟨by have := h.1; rw [List.length_take]; omega, h.2.1, ?_⟩
  rcases h.2.2 with h | ⟨b, off, e1, e2, h⟩
  · exact .inl (by rw [h]; simp)
  · exact .inr ⟨b, off, e1, e2, RowIn.take i h⟩
/-- a row of the call's own whose forms lie elsewhere, read -/
theorem rowIn_items {φ : Nat → Prop} {w : World} {b : Nat} : ∀ {its : List Item} {off : Nat}, (∀ j u, (rowOf its)[j]? = some u → w.cell? ⟨b, off + j, none⟩ = some u) → (∀ y ∈ its, InV φ w y.f y.val) → RowIn φ w b off (its.map (·.f))
  | [], _, _, _ => by simp [RowIn]
  | x :: r, off, hc, hi => by
    have he : rowOf (x :: r) = x.cells ++ rowOf r := by simp [rowOf]
    rw [List.map_cons]
    unfold RowIn
    refine ⟨⟨.int .i64 x.f.kind, .string x.f.name, .int .i64 x.f.n, .slice x.sa x.f.scopes.length x.scap, .slice x.a x.f.kids.length x.cap, hc 0 _ ?_, hc 1 _ ?_, hc 2 _ ?_, hc 3 _ ?_, hc 4 _ ?_, hi x (by simp)⟩, rowIn_items (fun j u hj => ?_) (fun y hy => hi y (by simp [hy]))⟩
    all_goals try (rw [he]; rfl)
    have := hc (5 + j) u (by rw [he, List.getElem?_append_right (by simp [Item.cells])]; simpa [Item.cells] using hj)
    rw [← Nat.add_assoc] at this
    exact this
theorem formsIn_items {φ : Nat → Prop} {w : World} {base : Nat} {T : TypeId} {a : Option Addr} {cap : Nat} {its : List Item} (h : w.ownsRow base T 5 (.slice a its.length cap) its.length (rowOf its)) (hi : ∀ y ∈ its, InV φ w y.f y.val) (hφ : ∀ k, base ≤ k → k < w.heap.size → φ k) :
    FormsIn φ w a cap (its.map (·.f)) := by
  unfold FormsIn
  rw [List.length_map]
  rcases h.2 with ⟨h1, h2⟩ | ⟨g, cap', cur, h1, hb, hg, hn, hm, hs, hx⟩
  · injection h1 with e1 e2 e3
    subst e3
    refine ⟨by omega, Nat.zero_le _, .inl ?_⟩
    rw [List.eq_nil_of_length_eq_zero h2]
    rfl
  · injection h1 with e1 e2 e3
    subst e1 e3
    refine ⟨hn, hm, ?_⟩
    have hl : g < w.heap.size := (Array.getElem?_eq_some_iff.1 hg).1
    refine .inr ⟨g, 0, rfl, hφ g hb hl, rowIn_items (fun j u hj => ?_) hi⟩
    rw [Nat.zero_add, cell_of_row w g j _ _ _ hg]
    have hjl : j < its.length * 5 := by have := (List.getElem?_eq_some_iff.1 hj).1; rw [rowOf_length] at this; exact this
    rw [← hx, List.getElem?_take_of_lt hjl] at hj
    simpa using hj
end Go.Proofs.Ytbclgmabidjegaa
