/- Plain facts on which forms are valid. Nothing of the program is used. -/
import Derived.Test.YtilbjlngnpmhcaaMaNm
import Derived.Test.YtilbjlngnpmhcaaMaSc
import Derived.Test.YtilbjlngnpmhcaaFm
namespace Go.Proofs.Ytilbjlngnpmhcaa
open Go.RowKit
/-- well-formed, down to a depth -/
def isB : Nat → Fm → Bool
  | 0, _ => false
  | d + 1, .mk k nm n sc ks =>
    if k = 1 then nameB nm.data.toList && n == 0 && scopesB sc && ks.isEmpty
    else if k = 2 then nm.data.toList.isEmpty && decide (0 ≤ n) && decide (n ≤ 999) && sc.isEmpty && ks.isEmpty
    else k == 3 && nm.data.toList.isEmpty && n == 0 && sc.isEmpty && ks.all (isB d)
def formB (f : Fm) : Bool := isB 40 f && decide (f.count ≤ 400)
theorem Fm.count_pos (f : Fm) : 1 ≤ f.count := by cases f; unfold Fm.count; omega
theorem isB_name (d : Nat) (nm : ByteArray) (sc : List Int) : isB (d + 1) (.mk 1 nm 0 sc []) = (nameB nm.data.toList && scopesB sc) := by
  simp [isB]
theorem count_leaf (k : Int) (nm : ByteArray) (n : Int) (sc : List Int) : (Fm.mk k nm n sc []).count = 1 := by simp [Fm.count, countAll]
theorem holds_name {d n : Nat} (nm : ByteArray) (sc : List Int) (hd : d + 1 ≤ 40) (hn : n + 1 ≤ 400) :
    (isB (40 - d) (.mk 1 nm 0 sc []) && decide (n + (Fm.mk 1 nm 0 sc []).count ≤ 400)) = (nameB nm.data.toList && scopesB sc) := by
  rw [show 40 - d = (39 - d) + 1 from by omega, isB_name, count_leaf, decide_eq_true hn, Bool.and_true]
theorem empty_of {s : ByteArray} (h : s.data.toList = []) : s = ByteArray.empty := by
  cases s with
  | mk d => cases d with
    | mk l => simp at h; subst h; rfl
theorem holds_num {d n : Nat} (x : Int) (hd : d + 1 ≤ 40) (hn : n + 1 ≤ 400) :
    (isB (40 - d) (.mk 2 ByteArray.empty x [] []) && decide (n + (Fm.mk 2 ByteArray.empty x [] []).count ≤ 400)) = (decide (0 ≤ x) && decide (x ≤ 999)) := by
  rw [show 40 - d = (39 - d) + 1 from by omega, count_leaf, decide_eq_true hn, Bool.and_true]
  simp [isB]
theorem holds_not {d n : Nat} (k n0 : Int) (nm : ByteArray) (sc : List Int) (ks : List Fm) (hd : d + 1 ≤ 40)
    (h1 : ¬ (k = 1 ∧ n0 = 0 ∧ ks = [])) (h2 : ¬ (k = 2 ∧ nm.data.toList = [] ∧ sc = [] ∧ ks = [])) (h3 : ¬ (k = 3 ∧ nm.data.toList = [] ∧ n0 = 0 ∧ sc = [])) :
    (isB (40 - d) (.mk k nm n0 sc ks) && decide (n + (Fm.mk k nm n0 sc ks).count ≤ 400)) = false := by
  rw [show 40 - d = (39 - d) + 1 from by omega]
  have : isB (39 - d + 1) (.mk k nm n0 sc ks) = false := by
    cases hb : isB (39 - d + 1) (.mk k nm n0 sc ks) with
    | false => rfl
    | true =>
      exfalso
      unfold isB at hb
      split at hb
      · rename_i e1
        simp at hb
        exact h1 ⟨e1, hb.1.1.2, hb.2⟩
      · split at hb
        · rename_i e2
          simp at hb
          exact h2 ⟨e2, by rw [hb.1.1.1.1], hb.1.2, hb.2⟩
        · simp at hb
          exact h3 ⟨hb.1.1.1.1, by rw [hb.1.1.1.2], hb.1.1.2, hb.1.2⟩
  rw [this, Bool.false_and]
theorem holds_full {d n : Nat} (f : Fm) (h : ¬ (n + 1 ≤ 400 ∧ d + 1 ≤ 40)) : (isB (40 - d) f && decide (n + f.count ≤ 400)) = false := by
  by_cases hd : d + 1 ≤ 40
  · have := f.count_pos
    rw [decide_eq_false (by omega), Bool.and_false]
  · rw [show 40 - d = 0 from by omega]
    simp [isB]
theorem isB_list (d : Nat) (ks : List Fm) : isB (d + 1) (.mk 3 ByteArray.empty 0 [] ks) = ks.all (isB d) := by simp [isB]
theorem holds_list_true {d n : Nat} (ks : List Fm) (hd : d + 1 ≤ 40) (ha : (ks.take ks.length).all (isB (39 - d)) = true) (hn : n + 1 + countAll (ks.take ks.length) ≤ 400) :
    (isB (40 - d) (.mk 3 ByteArray.empty 0 [] ks) && decide (n + (Fm.mk 3 ByteArray.empty 0 [] ks).count ≤ 400)) = true := by
  rw [List.take_length] at ha hn
  rw [show 40 - d = (39 - d) + 1 from by omega, isB_list, ha, Bool.true_and, decide_eq_true_eq]
  unfold Fm.count
  omega
theorem holds_list_false {d n : Nat} (ks : List Fm) (j : Nat) (hj : j < ks.length) (hd : d + 1 ≤ 40)
    (h : (isB (39 - d) ks[j] && decide (n + 1 + countAll (ks.take j) + ks[j].count ≤ 400)) = false) :
    (isB (40 - d) (.mk 3 ByteArray.empty 0 [] ks) && decide (n + (Fm.mk 3 ByteArray.empty 0 [] ks).count ≤ 400)) = false := by
  rw [show 40 - d = (39 - d) + 1 from by omega, isB_list]
  cases hi : isB (39 - d) ks[j] with
  | false =>
    have : ks.all (isB (39 - d)) = false := by
      cases ha : ks.all (isB (39 - d)) with
      | false => rfl
      | true => rw [List.all_eq_true.1 ha ks[j] (List.getElem_mem hj)] at hi; cases hi
    rw [this, Bool.false_and]
  | true =>
    rw [hi, Bool.true_and, decide_eq_false_iff_not] at h
    have h1 := countAll_take_succ ks j hj
    have h2 := countAll_take_le ks (j + 1)
    rw [decide_eq_false (by unfold Fm.count; omega), Bool.and_false]
theorem all_take_succ {α : Type} (p : α → Bool) (ks : List α) (j : Nat) (hj : j < ks.length) (h : (ks.take j).all p = true) (hp : p ks[j] = true) : (ks.take (j + 1)).all p = true := by
  rw [List.take_succ_eq_append_getElem hj, List.all_append, h]
  simp [hp]
end Go.Proofs.Ytilbjlngnpmhcaa
