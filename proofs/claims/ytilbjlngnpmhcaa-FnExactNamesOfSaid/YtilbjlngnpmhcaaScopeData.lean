/- Plain facts: the model's changes of scopes and the program's are the same at valid forms. -/
import Derived.Test.YtilbjlngnpmhcaaRedressed
import Derived.Test.YtilbjlngnpmhcaaSpecDone
namespace Go.Proofs.Ytilbjlngnpmhcaa
theorem isB_node {d : Nat} {k : Int} {nm : ByteArray} {n : Int} {sc : List Int} {ks : List Fm} (hd : isB d (.mk k nm n sc ks) = true) :
    scopesB sc = true ∧ (k ≠ 1 → sc = []) ∧ ∀ y ∈ ks, ∃ d', isB d' y = true := by
  cases d with
  | zero => simp [isB] at hd
  | succ d =>
    unfold isB at hd
    split at hd
    · rename_i h1
      simp only [Bool.and_eq_true, List.isEmpty_iff] at hd
      exact ⟨hd.1.2, fun h => absurd h1 h, fun y hy => by rw [hd.2] at hy; cases hy⟩
    · split at hd
      · simp only [Bool.and_eq_true, List.isEmpty_iff] at hd
        exact ⟨by rw [hd.1.2]; rfl, fun _ => hd.1.2, fun y hy => by rw [hd.2] at hy; cases hy⟩
      · simp only [Bool.and_eq_true, List.isEmpty_iff, List.all_eq_true] at hd
        exact ⟨by rw [hd.1.2]; rfl, fun _ => hd.1.2, fun y hy => ⟨d, hd.2 y hy⟩⟩
theorem chgAll_congr {c1 c2 : Int → List Int → List Int} : ∀ (ks : List Fm), (∀ y ∈ ks, y.chg c1 = y.chg c2) → chgAll c1 ks = chgAll c2 ks
  | [], _ => rfl
  | f :: r, h => by
    unfold chgAll
    rw [h f (by simp), chgAll_congr r fun y hy => h y (by simp [hy])]
theorem chg_congr {c1 c2 : Int → List Int → List Int} (hc : ∀ k sc, scopesB sc = true → (k ≠ 1 → sc = []) → c1 k sc = c2 k sc) (f : Fm) : ∀ d, isB d f = true → f.chg c1 = f.chg c2 := by
  induction f using Fm.ind with
  | h k nm n sc ks ih =>
    intro d hd
    obtain ⟨h1, h2, h3⟩ := isB_node hd
    unfold Fm.chg
    rw [hc k sc h1 h2, chgAll_congr ks fun y hy => by obtain ⟨d', hd'⟩ := h3 y hy; exact ih y hy d' hd']
theorem formB_isB {f : Fm} (h : formB f = true) : isB 40 f = true := by
  unfold formB at h
  rw [Bool.and_eq_true] at h
  exact h.1
theorem scopes_one (n : Int) : scopesB [n] = decide (1 ≤ n ∧ n ≤ 99) := by
  unfold scopesB ascB ascB
  rw [Bool.eq_iff_iff]
  simp
  omega
/-- one scope, at a valid form: the model's way and the program's -/
theorem same_one {way : Int} {comb : List Int → List Int → List Int} {n : Int} (hc : ∀ sc, AscL sc → chgW way n 1 sc = comb sc [n]) (f : Fm) :
    doneB f (f.chg (chgW way n)) n = redB comb [n] f ∧ (redB comb [n] f = true → f.chg (chgW way n) = f.chg (dressF comb [n])) := by
  have key : formB f = true → f.chg (chgW way n) = f.chg (dressF comb [n]) := fun h => chg_congr (fun k sc h1 h2 => by
    unfold dressF
    by_cases hk : k = 1
    · subst hk
      rw [if_pos rfl]
      exact hc sc (ascL_of_scopesB h1)
    · rw [if_neg hk]
      unfold chgW
      rw [if_neg hk]
      exact h2 hk) f 40 (formB_isB h)
  refine ⟨?_, fun h => key ?_⟩
  · unfold doneB redB
    rw [scopes_one]
    cases h : formB f with
    | false => rfl
    | true => rw [key h]
  · unfold redB at h
    rw [Bool.and_eq_true] at h
    exact h.1
theorem add_one (n : Int) (sc : List Int) (h : AscL sc) : chgW 0 n 1 sc = uniqL (sc ++ [n]) := by
  rw [uniqL_put h]
  unfold chgW
  rw [if_pos rfl, if_neg (by omega)]
theorem flip_one (n : Int) (sc : List Int) (h : AscL sc) : chgW 1 n 1 sc = symL sc [n] := by
  rw [symL_flip h]
  unfold chgW
  rw [if_pos rfl]
  by_cases hh : hasB sc n = true
  · rw [if_pos (.inr ⟨rfl, hh⟩), if_pos hh]
  · rw [if_neg (by rintro (h | ⟨_, h⟩); omega; exact hh h), if_neg hh]
theorem drop_one (n : Int) (sc : List Int) (h : AscL sc) : chgW 2 n 1 sc = diffL sc [n] := by
  rw [diffL_take h]
  unfold chgW
  rw [if_pos rfl, if_pos (.inl rfl)]
end Go.Proofs.Ytilbjlngnpmhcaa
