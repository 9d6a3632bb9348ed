/- What a call that makes a form leaves. -/
import Derived.Test.YtlgalpdjeojaaaaMaMade
import Derived.Test.YtlgalpdjeojaaaaUpto
namespace Go.Proofs.Ytlgalpdjeojaaaa
open Go.RowKit
set_option linter.unusedVariables false
set_option linter.unusedSimpArgs false
/-- a form made anew -/
def MadePost (g : Fm) (w : World) (e : Ending) (w' : World) : Prop :=
  ∃ v, e = .returned v ∧ InV (fun k => w.heap.size ≤ k ∧ k < w'.heap.size) w' g v ∧ Below w.heap.size w w'
/-- what the loads of the loop's region read -/
def KidHeld (ob pb b o : Nat) (v pv c0 c1 c2 c3 c4 : Value) (w' : World) : Prop :=
  w'.cell? ⟨ob, 4, none⟩ = some v ∧ w'.cell? ⟨pb, 4, none⟩ = some pv ∧ w'.cell? ⟨b, o, none⟩ = some c0 ∧ w'.cell? ⟨b, o + 1, none⟩ = some c1 ∧ w'.cell? ⟨b, o + 2, none⟩ = some c2 ∧ w'.cell? ⟨b, o + 3, none⟩ = some c3 ∧ w'.cell? ⟨b, o + 4, none⟩ = some c4
theorem KidHeld.keep {ob pb b o : Nat} {v pv c0 c1 c2 c3 c4 : Value} {w w' : World} (h : KidHeld ob pb b o v pv c0 c1 c2 c3 c4 w) (hs : ∀ k, k = ob ∨ k = pb ∨ k = b → w'.heap[k]? = w.heap[k]?) : KidHeld ob pb b o v pv c0 c1 c2 c3 c4 w' := by
  obtain ⟨h0, h1, h2, h3, h4, h5, h6⟩ := h
  have e0 := hs ob (.inl rfl)
  have e1 := hs pb (.inr (.inl rfl))
  have e2 := hs b (.inr (.inr rfl))
  exact ⟨(World.cell?_of_block (a := ⟨ob, 4, none⟩) e0).trans h0, (World.cell?_of_block (a := ⟨pb, 4, none⟩) e1).trans h1, (World.cell?_of_block (a := ⟨b, o, none⟩) e2).trans h2, (World.cell?_of_block (a := ⟨b, o + 1, none⟩) e2).trans h3,
    (World.cell?_of_block (a := ⟨b, o + 2, none⟩) e2).trans h4, (World.cell?_of_block (a := ⟨b, o + 3, none⟩) e2).trans h5, (World.cell?_of_block (a := ⟨b, o + 4, none⟩) e2).trans h6⟩
theorem KidHeld.later {ob pb b o : Nat} {v pv c0 c1 c2 c3 c4 : Value} {w w' : World} (h : KidHeld ob pb b o v pv c0 c1 c2 c3 c4 w) (hb : Below w.heap.size w w') : KidHeld ob pb b o v pv c0 c1 c2 c3 c4 w' :=
  h.keep fun k hk => hb.block k (by
    rcases hk with rfl | rfl | rfl
    · exact cell_lt h.1
    · exact cell_lt h.2.1
    · exact cell_lt h.2.2.1)
theorem chgAll_take_succ {chg : Int → List Int → List Int} (ks : List Fm) : ∀ (j : Nat) (h : j < ks.length), chgAll chg (ks.take (j + 1)) = chgAll chg (ks.take j) ++ [(ks[j]).chg chg] := by
  induction ks with
  | nil => intro j h; simp at h
  | cons x r ih =>
    intro j h
    cases j with
    | zero => simp [chgAll]
    | succ j =>
      have := ih j (by simpa using h)
      simp only [List.take_succ_cons, chgAll, List.cons_append, List.getElem_cons_succ]
      rw [this]
end Go.Proofs.Ytlgalpdjeojaaaa
