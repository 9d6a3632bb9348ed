/- Parts of forms, as laws read them. -/
import Derived.Test.YtbmpgfojhoganaaLwBase
import Derived.Test.YtbmpgfojhoganaaSlim
import Derived.Test.YtbmpgfojhoganaaChgData
namespace Go.Proofs.Ytbmpgfojhoganaa
open Go.RowKit
set_option linter.unusedVariables false
set_option linter.unusedSimpArgs false
theorem isB_mono : ∀ (d : Nat) (f : Fm), isB d f = true → isB (d + 1) f = true
  | 0, f, h => by simp [isB] at h
  | d + 1, .mk k nm n sc ks, h => by
    unfold isB at h ⊢
    split
    · rename_i h1; rw [if_pos h1] at h; exact h
    · rename_i h1
      rw [if_neg h1] at h
      split
      · rename_i h2; rw [if_pos h2] at h; exact h
      · rename_i h2
        rw [if_neg h2] at h
        simp only [Bool.and_eq_true, List.all_eq_true] at h ⊢
        exact ⟨h.1, fun y hy => isB_mono d y (h.2 y hy)⟩
/-- the parts of a valid form are valid -/
theorem kid_valid {f y : Fm} (h : formB f = true) (hy : y ∈ f.kids) : formB y = true := by
  have hb := formB_isB h
  have hc : f.count ≤ 400 := by unfold formB at h; rw [Bool.and_eq_true] at h; exact of_decide_eq_true h.2
  have h1 := count_mem hy
  have h2 := count_eq f
  unfold formB
  rw [Bool.and_eq_true]
  refine ⟨?_, decide_eq_true (by omega)⟩
  cases f with
  | mk k nm n sc ks =>
    unfold isB at hb
    have hne : ks.isEmpty = false := by
      cases ks with
      | nil => cases hy
      | cons _ _ => rfl
    split at hb
    · rw [hne] at hb; simp at hb
    · split at hb
      · rw [hne] at hb; simp at hb
      · simp only [Bool.and_eq_true, List.all_eq_true] at hb
        exact isB_mono 39 y (hb.2 y hy)
/-- the cells of a part -/
def KidBox (w : World) (b o : Nat) (f : Fm) (sa : Option Addr) (scap : Nat) (a : Option Addr) (cap : Nat) : Prop :=
  w.cell? ⟨b, o, none⟩ = some (.int .i64 f.kind) ∧ w.cell? ⟨b, o + 1, none⟩ = some (.string f.name) ∧ w.cell? ⟨b, o + 2, none⟩ = some (.int .i64 f.n) ∧
  w.cell? ⟨b, o + 3, none⟩ = some (.slice sa f.scopes.length scap) ∧ w.cell? ⟨b, o + 4, none⟩ = some (.slice a f.kids.length cap)
theorem KidBox.later {w w' : World} {b o : Nat} {f : Fm} {sa a : Option Addr} {scap cap : Nat} (h : KidBox w b o f sa scap a cap) (hb : Below w.heap.size w w') : KidBox w' b o f sa scap a cap :=
  ⟨cell_later' hb h.1, cell_later' hb h.2.1, cell_later' hb h.2.2.1, cell_later' hb h.2.2.2.1, cell_later' hb h.2.2.2.2⟩
theorem kid_cells {R : Fm} {sa : Option Addr} {scap : Nat} {a : Option Addr} {cap : Nat} {w : World} (hv : InV (· < w.heap.size) w R (.agg #[.int .i64 R.kind, .string R.name, .int .i64 R.n, .slice sa R.scopes.length scap, .slice a R.kids.length cap])) (j : Nat) (hj : j < R.kids.length) :
    ∃ b o ka kb kc kd, a = some ⟨b, o, none⟩ ∧ R.kids.length ≤ cap ∧ KidBox w b (o + j * 5) R.kids[j] ka kb kc kd ∧ InV (· < w.heap.size) w R.kids[j] (.agg #[.int .i64 R.kids[j].kind, .string R.kids[j].name, .int .i64 R.kids[j].n, .slice ka R.kids[j].scopes.length kb, .slice kc R.kids[j].kids.length kd]) := by
  obtain ⟨_, h1, h2, h3⟩ := hv.kids
  rcases h3 with h3 | ⟨b, o, rfl, hb, h3⟩
  · rw [h3] at hj; simp at hj
  · obtain ⟨ka, kb, kc, kd, c0, c1, c2, c3, c4, hin⟩ := RowIn.at' h3 j hj
    exact ⟨b, o, ka, kb, kc, kd, rfl, h1, ⟨c0, c1, c2, c3, c4⟩, hin⟩
end Go.Proofs.Ytbmpgfojhoganaa
