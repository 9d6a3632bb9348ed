/- Which hit a name has, as data. -/
import Derived.Test.YtnogpaflibghhaaMaHV
import Derived.Test.YtnogpaflibghhaaFindHF
namespace Go.Proofs.Ytnogpaflibghhaa
open Go.RowKit
set_option linter.unusedVariables false
def zeroH : Ht := .mk zeroForm 0 zeroForm []
def hasN (f : Fm) (x : Ht) : Bool := sameB x.name f
/-- the hit that is found, and whether one is -/
def findR (l : List Ht) (f : Fm) : Ht × Bool := if hitsValidB l = true then (match l.find? (hasN f) with | some x => (x, true) | none => (zeroH, false)) else (zeroH, false)
theorem find_first (P : Ht → Bool) : ∀ (l : List Ht) (j : Nat) (h : j < l.length), (l.take j).any P = false → P l[j] = true → l.find? P = some l[j]
  | x :: r, 0, _, _, hp => by simp only [List.getElem_cons_zero] at hp ⊢; rw [List.find?_cons_of_pos hp]
  | x :: r, j + 1, h, hn, hp => by
    simp only [List.take_succ_cons, List.any_cons, Bool.or_eq_false_iff] at hn
    rw [List.find?_cons_of_neg (by simp [hn.1])]
    simpa using find_first P r j (by simpa using h) hn.2 (by simpa using hp)
theorem find_none (P : Ht → Bool) (l : List Ht) (h : l.any P = false) : l.find? P = none := by
  rw [List.find?_eq_none]
  intro x hx hp
  have := List.any_eq_false.1 h x hx
  exact this hp
theorem findR_no {l : List Ht} {f : Fm} (h : hitsValidB l = false) : findR l f = (zeroH, false) := by unfold findR; rw [h]; rfl
theorem findR_some {l : List Ht} {f : Fm} {x : Ht} (h : hitsValidB l = true) (hx : l.find? (hasN f) = some x) : findR l f = (x, true) := by unfold findR; rw [h, hx]; rfl
theorem findR_none {l : List Ht} {f : Fm} (hx : l.find? (hasN f) = none) : findR l f = (zeroH, false) := by unfold findR; rw [hx]; split <;> rfl
theorem findR_sz (l : List Ht) (f : Fm) : (findR l f).1.sz ≤ szHs l := by
  have hm : ∀ (l : List Ht) (g : Ht), g ∈ l → g.sz ≤ szHs l := by
    intro l
    induction l with
    | nil => intro g h; cases h
    | cons x r ih =>
      intro g h
      rcases List.mem_cons.1 h with rfl | h
      · simp only [szHs]; omega
      · have := ih g h; simp only [szHs]; omega
  unfold findR
  split
  · cases hx : l.find? (hasN f) with
    | none => simp [zeroH, zeroForm, Ht.sz, Fm.sz, szAll, szHs]; exact Nat.zero_le _
    | some x => exact hm l x (List.mem_of_find?_eq_some hx)
  · simp [zeroH, zeroForm, Ht.sz, Fm.sz, szAll, szHs]; exact Nat.zero_le _
theorem name_noKids {g : Fm} (h : isNameB g = true) : g.kids = [] := by
  unfold isNameB at h
  rw [Bool.and_eq_true, beq_iff_eq] at h
  obtain ⟨h1, h2⟩ := h
  have h3 := formB_is h2
  obtain ⟨k, nm, n, sc, ks⟩ := g
  simp only [Fm.kind] at h1
  subst h1
  rw [show (40 : Nat) = 39 + 1 from rfl] at h3
  simp [isB] at h3
  simp only [Fm.kids]
  cases ks with
  | nil => rfl
  | cons x r => simp at h3
theorem nodeSame_name {x f : Fm} (h : isNameB x = true) : nodeSame x f = sameB x f := by
  rw [sameB_node]
  cases hn : nodeSame x f with
  | false => rfl
  | true =>
    have hk := name_noKids h
    unfold nodeSame at hn
    simp only [Bool.and_eq_true, beq_iff_eq] at hn
    have hl := hn.2
    rw [hk] at hl
    have hf : f.kids = [] := List.eq_nil_of_length_eq_zero (by simpa using hl.symm)
    rw [hk, hf]
    simp [sameAll]
theorem valid_names {l : List Ht} (h : hitsValidB l = true) : ∀ x ∈ l, isNameB x.name = true := by
  unfold hitsValidB at h
  rw [Bool.and_eq_true] at h
  have : ∀ j, j ≤ l.length → hvTo l j = true → ∀ x ∈ l.take j, isNameB x.name = true := by
    intro j
    induction j with
    | zero => intro _ _ x hx; simp at hx
    | succ j ih =>
      intro hj ht x hx
      rw [hvTo_succ (by omega)] at ht
      simp only [Bool.and_eq_true] at ht
      rw [List.take_succ_eq_append_getElem (by omega)] at hx
      rcases List.mem_append.1 hx with hx | hx
      · exact ih (by omega) ht.1 x hx
      · rw [List.mem_singleton] at hx
        subst hx
        have := hitB_head ht.2.1
        rw [headB_res, Bool.and_eq_true] at this
        exact this.1
  intro x hx
  have := this l.length (Nat.le_refl _) h.2 x
  rw [List.take_length] at this
  exact this hx
end Go.Proofs.Ytnogpaflibghhaa
