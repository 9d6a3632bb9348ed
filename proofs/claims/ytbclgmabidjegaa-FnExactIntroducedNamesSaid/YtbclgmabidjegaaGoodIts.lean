/- Forms beside a row that grows. -/
import Derived.Test.YtbclgmabidjegaaData
import Derived.Test.YtbclgmabidjegaaFirst
namespace Go.Proofs.Ytbclgmabidjegaa
section
open Go.RowKit
set_option linter.unusedVariables false
theorem ownsRow_sliceH {w : World} {base n : Nat} {T : TypeId} {size : Nat} {v : Value} {xs : List Value} (h : w.ownsRow base T size v n xs) : ∃ a cap, v = .slice a n cap ∧ n ≤ cap ∧ cap ≤ maxLen := by
  rcases h.2 with ⟨rfl, h0⟩ | ⟨g, cap, cur, rfl, hb, hg, hn, hm, _⟩
  · exact ⟨none, 0, by rw [h0], by omega, by unfold maxLen; omega⟩
  · exact ⟨_, cap, rfl, hn, hm⟩
theorem ownsRow_emptyH (w : World) (T : TypeId) (size base : Nat) (hb : base ≤ w.heap.size) : (w.alloc (.cells #[] T)).ownsRow base T size (.slice (some ⟨w.heap.size, 0, none⟩) 0 0) 0 [] := by
  have := World.ownsRow_lit (base := base) (e := T) (size := size) w #[] 0 hb (by unfold maxLen; omega) (by simp)
  exact this
/-- forms whose blocks are none of the growing row's -/
def GoodIts (w : World) (o : Value) (its : List Item) : Prop := ∀ y ∈ its, InV (fun k => k < w.heap.size ∧ some k ≠ o.ownBlock) w y.f y.val
theorem GoodIts.grown {w w' : World} {o o' : Value} {its : List Item} (h : GoodIts w o its) (hg : w.grownBy w' o.ownBlock) (hq : ∀ q, o'.ownBlock = some q → w.heap.size ≤ q ∨ o.ownBlock = some q) : GoodIts w' o' its := fun y hy =>
  InV.mono (fun k hk => ⟨Nat.lt_of_lt_of_le hk.1 hg.size, fun e => (hq k e.symm).elim (fun h1 => by have := hk.1; omega) (fun h1 => hk.2 h1.symm)⟩) _ _ (InV.later (fun k hk => hg.block k hk.1 hk.2) _ _ (h y hy))
theorem GoodIts.append {w : World} {o : Value} {its new : List Item} (h : GoodIts w o its) (g : GoodIts w o new) : GoodIts w o (its ++ new) := fun y hy => by
  rcases List.mem_append.1 hy with h1 | h1
  · exact h y h1
  · exact g y h1
theorem GoodIts.left {w : World} {o : Value} {its new : List Item} (h : GoodIts w o (its ++ new)) : GoodIts w o its := fun y hy => h y (List.mem_append_left _ hy)
theorem GoodIts.right {w : World} {o : Value} {its new : List Item} (h : GoodIts w o (its ++ new)) : GoodIts w o new := fun y hy => h y (List.mem_append_right _ hy)
end
end Go.Proofs.Ytbclgmabidjegaa
