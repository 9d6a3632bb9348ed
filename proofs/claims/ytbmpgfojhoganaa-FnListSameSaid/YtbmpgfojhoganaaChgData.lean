/- Facts on forms whose scopes are changed. -/
import Derived.Test.YtbmpgfojhoganaaSlim
namespace Go.Proofs.Ytbmpgfojhoganaa
section
set_option linter.unusedVariables false
set_option linter.unusedSimpArgs false
mutual
theorem chg_count {chg : Int → List Int → List Int} : ∀ f : Fm, (f.chg chg).count = f.count
  | .mk k nm n sc ks => by simp only [Fm.chg, Fm.count, chgAll_count ks]
theorem chgAll_count {chg : Int → List Int → List Int} : ∀ ks : List Fm, countAll (chgAll chg ks) = countAll ks
  | [] => by simp [chgAll]
  | f :: r => by simp only [chgAll, countAll, chg_count f, chgAll_count r]
end
mutual
theorem pre_chg (c : Int → List Int → List Int) : ∀ f : Fm, (f.chg c).pre = f.pre.map fun g => g.chg c
  | .mk k nm n sc ks => by simp only [Fm.chg, Fm.pre, List.map_cons, preAll_chg c ks]
theorem preAll_chg (c : Int → List Int → List Int) : ∀ ks : List Fm, preAll (chgAll c ks) = (preAll ks).map fun g => g.chg c
  | [] => by simp [chgAll, preAll]
  | f :: r => by simp only [chgAll, preAll, List.map_append, pre_chg c f, preAll_chg c r]
end
mutual
theorem chg_chg {c1 c2 : Int → List Int → List Int} : ∀ f : Fm, (f.chg c1).chg c2 = f.chg fun k sc => c2 k (c1 k sc)
  | .mk k nm n sc ks => by simp only [Fm.chg, chgAll_chg ks]
theorem chgAll_chg {c1 c2 : Int → List Int → List Int} : ∀ ks : List Fm, chgAll c2 (chgAll c1 ks) = chgAll (fun k sc => c2 k (c1 k sc)) ks
  | [] => rfl
  | f :: r => by simp only [chgAll, chg_chg f, chgAll_chg r]
end
theorem chgAll_map (c : Int → List Int → List Int) : ∀ ks : List Fm, chgAll c ks = ks.map fun g => g.chg c
  | [] => rfl
  | f :: r => by simp only [chgAll, List.map_cons, chgAll_map c r]
theorem kids_chg (c : Int → List Int → List Int) (f : Fm) : (f.chg c).kids = f.kids.map fun g => g.chg c := by
  cases f
  exact chgAll_map c _
theorem strip_strip (f : Fm) : (f.chg fun _ _ => []).chg (fun _ _ => []) = f.chg fun _ _ => [] := by rw [chg_chg]
/-- a valid form is valid without its scopes -/
theorem isB_strip : ∀ (d : Nat) (f : Fm), isB d f = true → isB d (f.chg fun _ _ => []) = true
  | 0, f, h => by simp [isB] at h
  | d + 1, .mk k nm n sc ks, h => by
    simp only [Fm.chg]
    unfold isB at h ⊢
    split
    · rename_i h1
      rw [if_pos h1] at h
      rw [Bool.and_eq_true, Bool.and_eq_true, List.isEmpty_iff] at h
      rw [Bool.and_eq_true, Bool.and_eq_true]
      exact ⟨⟨h.1.1, rfl⟩, by rw [h.2]; rfl⟩
    · rename_i h1
      rw [if_neg h1] at h
      split
      · rename_i h2
        rw [if_pos h2] at h
        rw [Bool.and_eq_true, Bool.and_eq_true, List.isEmpty_iff, List.isEmpty_iff] at h
        rw [Bool.and_eq_true, Bool.and_eq_true]
        exact ⟨⟨h.1.1, rfl⟩, by rw [h.2]; rfl⟩
      · rename_i h2
        rw [if_neg h2] at h
        rw [Bool.and_eq_true, Bool.and_eq_true, List.all_eq_true] at h
        rw [Bool.and_eq_true, Bool.and_eq_true, List.all_eq_true]
        refine ⟨⟨h.1.1, rfl⟩, ?_⟩
        rw [chgAll_map]
        intro x hx
        obtain ⟨y, hy, rfl⟩ := List.mem_map.1 hx
        exact isB_strip d y (h.2 y hy)
theorem formB_strip {f : Fm} (h : formB f = true) : formB (f.chg fun _ _ => []) = true := by
  unfold formB at h ⊢
  rw [Bool.and_eq_true] at h ⊢
  rw [chg_count]
  exact ⟨isB_strip 40 f h.1, h.2⟩
end
end Go.Proofs.Ytbmpgfojhoganaa
