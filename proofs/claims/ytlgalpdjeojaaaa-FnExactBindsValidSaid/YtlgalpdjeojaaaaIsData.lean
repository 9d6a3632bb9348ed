/- Plain facts on valid forms. -/
import Derived.Test.YtlgalpdjeojaaaaFirst
import Derived.Test.YtlgalpdjeojaaaaMaSet
namespace Go.Proofs.Ytlgalpdjeojaaaa
theorem isB_node {d : Nat} {k : Int} {nm : ByteArray} {n : Int} {sc : List Int} {ks : List Fm} (hd : isB d (.mk k nm n sc ks) = true) :
    scopesB sc = true ∧ (k ≠ 1 → sc = []) ∧ ∀ y ∈ ks, ∃ d', isB d' y = true := by
  cases d with
  | zero => simp [isB] at hd
  | succ d =>
    unfold isB at hd
    split at hd
    · rename_i h1
      simp only [Bool.and_eq_true, List.isEmpty_iff] at hd
      exact ⟨hd.1.2, fun h => absurd h1 h, fun y hy => by rw [hd.2] at hy; cases hy⟩
    · split at hd
      · simp only [Bool.and_eq_true, List.isEmpty_iff] at hd
        exact ⟨by rw [hd.1.2]; rfl, fun _ => hd.1.2, fun y hy => by rw [hd.2] at hy; cases hy⟩
      · simp only [Bool.and_eq_true, List.isEmpty_iff, List.all_eq_true] at hd
        exact ⟨by rw [hd.1.2]; rfl, fun _ => hd.1.2, fun y hy => ⟨d, hd.2 y hy⟩⟩
theorem formB_isB {f : Fm} (h : formB f = true) : isB 40 f = true := by
  unfold formB at h
  rw [Bool.and_eq_true] at h
  exact h.1
theorem scopes_length {l : List Int} (h : scopesB l = true) : l.length ≤ 24 := by
  unfold scopesB at h
  rw [Bool.and_eq_true, decide_eq_true_eq] at h
  exact h.1
theorem scopes_bounds {l : List Int} (h : scopesB l = true) : ∀ n ∈ l, -9223372036854775808 ≤ n ∧ n ≤ 9223372036854775807 := by
  intro n hn
  unfold scopesB at h
  rw [Bool.and_eq_true] at h
  have := (ascL_of_ascB l 0 h.2).2 n hn
  omega
end Go.Proofs.Ytlgalpdjeojaaaa
