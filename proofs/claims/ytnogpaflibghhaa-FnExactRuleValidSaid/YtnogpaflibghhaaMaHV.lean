/- The model's test of hits and the program's say the same. -/
import Derived.Test.YtnogpaflibghhaaSpecHV
import Derived.Test.YtnogpaflibghhaaHoldH
import Derived.Test.YtnogpaflibghhaaMaPat
import Derived.Test.YtnogpaflibghhaaName
namespace Go.Proofs.Ytnogpaflibghhaa
open Go.RowKit
set_option linter.unusedVariables false
set_option linter.unusedSimpArgs false
theorem headB_res (f : Fm) : headB f = (isNameB f && !resB f.name) := by
  unfold headB resB
  rw [Bool.not_or]
theorem hitB_head {x : Ht} {k : Int} (h : hitB x k = true) : headB x.name = true := by
  cases x with
  | mk nm d one many =>
    rw [hitB] at h
    simp only [Bool.and_eq_true] at h
    exact h.1.2.2.2
theorem holdsB_hit (x : Ht) : ∀ (f : Fm) (k : Int), headB f = true → k ≤ 3 → holdsB x f k = (sameB x.name f && hitB x k) := by
  induction x using Ht.ind with
  | h nm d one many ih =>
    intro f k hf hk
    have hall : holdsAll many f (k - 1) = hitsB f many k := by
      have : ∀ l : List Ht, (∀ g ∈ l, g ∈ many) → holdsAll l f (k - 1) = hitsB f l k := by
        intro l
        induction l with
        | nil => intro _; simp [holdsAll, hitsB]
        | cons y r ihr =>
          intro hl
          simp only [holdsAll, hitsB]
          rw [ih y (hl y (by simp)) f (k - 1) hf (by omega), ihr (fun g hg => hl g (by simp [hg]))]
      exact this many (fun g hg => hg)
    rw [holdsB, hitB]
    show _ = (sameB nm f && _)
    cases hs : sameB nm f with
    | false => simp
    | true =>
      have e : nm = f := sameB_eq hs
      subst e
      rw [hf, decide_eq_true hk, hall]
      by_cases h0 : k = 0
      · rw [if_pos h0, if_pos h0]
        cases decide (0 ≤ k) <;> cases (d == k) <;> simp
      · rw [if_neg h0, if_neg h0]
        cases decide (0 ≤ k) <;> cases (d == k) <;> cases hitsB nm many k <;> simp
/-- what the program asks of each hit -/
def badH (x : Ht) : Bool := decide (x.depth > 3) || !holdsB x x.name x.depth
theorem badH_eq {x : Ht} (h : headB x.name = true) : badH x = !hitB x x.depth := by
  unfold badH
  by_cases hd : x.depth ≤ 3
  · rw [decide_eq_false (by omega), Bool.false_or, holdsB_hit x x.name x.depth h hd, sameB_refl, Bool.true_and]
  · rw [decide_eq_true (by omega), Bool.true_or]
    cases x with
    | mk nm d one many =>
      rw [hitB]
      show true = !((d == d && (decide (0 ≤ d) && (decide (d ≤ 3) && headB nm))) && _)
      rw [decide_eq_false (show ¬ d ≤ 3 from hd)]
      simp
theorem apartB_inF (l : List Ht) (x : Fm) : apartB l x = !inF (l.map Ht.name) x := by
  unfold apartB inF
  induction l with
  | nil => rfl
  | cons y r ih => simp only [List.all_cons, List.map_cons, List.any_cons, ih, Bool.not_or]
theorem hvTo_dist (l : List Ht) : ∀ n, n ≤ l.length → hvTo l n = (distUp (l.map Ht.name) n && (l.take n).all fun x => hitB x x.depth)
  | 0, _ => rfl
  | n + 1, h => by
    have hl : n < l.length := by omega
    have hl' : n < (l.map Ht.name).length := by rw [List.length_map]; exact hl
    rw [hvTo_succ hl, distUp_succ hl', hvTo_dist l n (by omega), List.take_succ_eq_append_getElem hl, List.all_append, apartB_inF, ← List.map_take]
    simp only [List.getElem_map, List.all_cons, List.all_nil, Bool.and_true]
    cases hh : hitB l[n] l[n].depth with
    | false => simp
    | true =>
      have := hitB_head hh
      rw [headB_res] at this
      simp only [Bool.and_eq_true] at this
      rw [this.1, this.2]
      cases distUp (l.map Ht.name) n <;> cases (List.take n l).all (fun x => hitB x x.depth) <;> simp
theorem distUp_head {ls : List Fm} (h : distUp ls ls.length = true) : ∀ g ∈ ls, headB g = true := by
  have : ∀ n, n ≤ ls.length → distUp ls n = true → ∀ g ∈ ls.take n, headB g = true := by
    intro n
    induction n with
    | zero => intro _ _ g hg; simp at hg
    | succ n ih =>
      intro hn hd g hg
      have hl : n < ls.length := by omega
      rw [distUp_succ hl, Bool.and_eq_true, Bool.and_eq_true, Bool.and_eq_true] at hd
      rw [List.take_succ_eq_append_getElem hl, List.mem_append, List.mem_singleton] at hg
      rcases hg with hg | rfl
      · exact ih (by omega) hd.1 g hg
      · rw [headB_res, hd.2.1, hd.2.2.1]; rfl
  intro g hg
  exact this ls.length (Nat.le_refl _) h g (by rw [List.take_length]; exact hg)
theorem hitsValidB_eq (l : List Ht) : hitsValidB l = (distinctB (l.map Ht.name) 20 && !l.any badH) := by
  unfold hitsValidB distinctB
  rw [hvTo_dist l l.length (Nat.le_refl _), List.take_length, List.length_map]
  cases hd : distUp (l.map Ht.name) l.length with
  | false => simp
  | true =>
    have hh : ∀ x ∈ l, headB x.name = true := fun x hx => distUp_head (by rw [List.length_map]; exact hd) x.name (List.mem_map_of_mem hx)
    have : (l.all fun x => hitB x x.depth) = !l.any badH := by
      clear hd
      induction l with
      | nil => rfl
      | cons y r ih =>
        simp only [List.all_cons, List.any_cons, Bool.not_or]
        rw [ih (fun x hx => hh x (by simp [hx])), badH_eq (hh y (by simp)), Bool.not_not]
    rw [this]
    simp
end Go.Proofs.Ytnogpaflibghhaa
