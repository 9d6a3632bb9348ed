/- Plain facts on sets of scopes. Nothing of the program is used. -/
import Derived.Test.YtilbjlngnpmhcaaBase
namespace Go.Proofs.Ytilbjlngnpmhcaa
/-- ascending numbers behind 'last', up to 99 -/
def ascB : Int → List Int → Bool
  | _, [] => true
  | last, x :: r => decide (last < x) && decide (x ≤ 99) && ascB x r
def scopesB (l : List Int) : Bool := decide (l.length ≤ 24) && ascB 0 l
/-- the element in front of place k, or 0 -/
def lastAt (last : Int) (l : List Int) (k : Nat) : Int := match k with | 0 => last | k + 1 => l.getD k 0
theorem ascB_take_succ : ∀ (l : List Int) (last : Int) (k : Nat) (h : k < l.length),
    ascB last (l.take (k + 1)) = (ascB last (l.take k) && (decide (lastAt last l k < l[k]) && decide (l[k] ≤ 99)))
  | x :: r, last, 0, _ => by
    show (decide (last < x) && decide (x ≤ 99) && ascB x []) = (true && (decide (last < x) && decide (x ≤ 99)))
    simp [ascB]
  | x :: r, last, k + 1, h => by
    have ih := ascB_take_succ r x k (by simpa using h)
    have e : lastAt last (x :: r) (k + 1) = lastAt x r k := by
      cases k with
      | zero => simp [lastAt]
      | succ k => simp [lastAt]
    simp only [List.take_succ_cons, ascB, ih, List.getElem_cons_succ, e, Bool.and_assoc]
theorem ascB_take : ∀ (l : List Int) (last : Int) (k : Nat), ascB last l = true → ascB last (l.take k) = true
  | [], _, k, _ => by simp [ascB]
  | x :: r, last, 0, _ => by simp [ascB]
  | x :: r, last, k + 1, h => by
    simp only [List.take_succ_cons, ascB, Bool.and_eq_true] at h ⊢
    exact ⟨h.1, ascB_take r x k h.2⟩
theorem ascB_pos : ∀ (l : List Int) (last : Int) (k : Nat) (h : k < l.length), 0 ≤ last → ascB last (l.take (k + 1)) = true → 1 ≤ l[k] ∧ l[k] ≤ 99
  | x :: r, last, 0, _, hl, h => by
    simp [ascB] at h
    simp
    omega
  | x :: r, last, k + 1, hk, hl, h => by
    simp only [List.take_succ_cons, ascB, Bool.and_eq_true, decide_eq_true_eq] at h
    simpa using ascB_pos r x k (by simpa using hk) (by omega) h.2
theorem scopesB_no (l : List Int) (k : Nat) (h : ascB 0 (l.take k) = false) : scopesB l = false := by
  unfold scopesB
  cases ha : ascB 0 l with
  | false => simp
  | true => rw [ascB_take l 0 k ha] at h; cases h
theorem scopesB_size (l : List Int) (h : 24 < l.length) : scopesB l = false := by
  unfold scopesB
  rw [decide_eq_false (by omega)]; rfl
theorem scopesB_yes (l : List Int) (h : l.length ≤ 24) (ha : ascB 0 l = true) : scopesB l = true := by
  unfold scopesB
  rw [ha, decide_eq_true h]; rfl
end Go.Proofs.Ytilbjlngnpmhcaa
