/- Plain facts on ascending lists of numbers as sets. Nothing of the program is used. -/
import Derived.Test.YtaihblfabaijoaaFirst
import Derived.Lib.SlicesCompact
namespace Go.Proofs.Ytaihblfabaijoaa
open Go.Lib
/-- strictly ascending -/
def AscL (l : List Int) : Prop := l.Pairwise (· < ·)
theorem ascL_ext : ∀ {a b : List Int}, AscL a → AscL b → (∀ x, x ∈ a ↔ x ∈ b) → a = b
  | [], [], _, _, _ => rfl
  | [], y :: s, _, _, h => absurd ((h y).2 (by simp)) (by simp)
  | x :: r, [], _, _, h => absurd ((h x).1 (by simp)) (by simp)
  | x :: r, y :: s, ha, hb, h => by
    unfold AscL at ha hb
    rw [List.pairwise_cons] at ha hb
    have e : x = y := by
      have h1 := (h x).1 (by simp)
      have h2 := (h y).2 (by simp)
      rcases List.mem_cons.1 h1 with h1 | h1
      · exact h1
      · rcases List.mem_cons.1 h2 with h2 | h2
        · exact h2.symm
        · have := hb.1 x h1; have := ha.1 y h2; omega
    subst e
    rw [ascL_ext ha.2 hb.2 (fun z => by
      have hz := h z
      simp only [List.mem_cons] at hz
      constructor
      · intro hm
        rcases hz.1 (.inr hm) with e | e
        · have := ha.1 z hm; omega
        · exact e
      · intro hm
        rcases hz.2 (.inr hm) with e | e
        · have := hb.1 z hm; omega
        · exact e)]
theorem ascL_of_ascB : ∀ (l : List Int) (a : Int), ascB a l = true → AscL l ∧ ∀ x ∈ l, a < x ∧ x ≤ 99
  | [], _, _ => ⟨List.Pairwise.nil, fun x h => by cases h⟩
  | x :: r, a, h => by
    simp only [ascB, Bool.and_eq_true, decide_eq_true_eq] at h
    have ih := ascL_of_ascB r x h.2
    refine ⟨List.pairwise_cons.2 ⟨fun y hy => (ih.2 y hy).1, ih.1⟩, fun y hy => ?_⟩
    rcases List.mem_cons.1 hy with e | e
    · subst e; exact h.1
    · have := ih.2 y e; omega
theorem ascL_of_scopesB {l : List Int} (h : scopesB l = true) : AscL l := by
  unfold scopesB at h
  rw [Bool.and_eq_true] at h
  exact (ascL_of_ascB l 0 h.2).1
theorem AscL.le {l : List Int} (h : AscL l) : l.Pairwise (· ≤ ·) := h.imp (fun h => by omega)
theorem AscL.filter {l : List Int} (h : AscL l) (p : Int → Bool) : AscL (l.filter p) := List.Pairwise.filter _ h
/-- of a sorted row: the kept elements -/
theorem compactUpTo_asc (d : Array Int) (hs : ∀ i j, i ≤ j → j < d.size → d[i]! ≤ d[j]!) : ∀ m, m ≤ d.size →
    AscL (compactUpTo d m) ∧ ∀ x, x ∈ compactUpTo d m ↔ ∃ j, j < m ∧ d[j]! = x
  | 0, _ => ⟨List.Pairwise.nil, fun x => by simp [compactUpTo]⟩
  | m + 1, hm => by
    have ih := compactUpTo_asc d hs m (by omega)
    rw [compactUpTo_succ]
    by_cases hk : keeps d m = true
    · rw [if_pos hk]
      constructor
      · unfold AscL
        rw [List.pairwise_append]
        refine ⟨ih.1, by simp, fun a ha b hb => ?_⟩
        rw [List.mem_singleton] at hb
        subst hb
        obtain ⟨j, hj, rfl⟩ := (ih.2 a).1 ha
        unfold keeps at hk
        rw [decide_eq_true_eq] at hk
        have h1 := hs j (m - 1) (by omega) (by omega)
        have h2 := hs (m - 1) m (by omega) (by omega)
        rcases hk with hk | hk <;> omega
      · intro x
        rw [List.mem_append, ih.2, List.mem_singleton]
        constructor
        · rintro (⟨j, hj, rfl⟩ | rfl)
          · exact ⟨j, by omega, rfl⟩
          · exact ⟨m, by omega, rfl⟩
        · rintro ⟨j, hj, rfl⟩
          by_cases e : j = m
          · subst e; exact .inr rfl
          · exact .inl ⟨j, by omega, rfl⟩
    · rw [if_neg hk, List.append_nil]
      refine ⟨ih.1, fun x => ?_⟩
      rw [ih.2]
      constructor
      · rintro ⟨j, hj, rfl⟩
        exact ⟨j, by omega, rfl⟩
      · rintro ⟨j, hj, rfl⟩
        by_cases e : j = m
        · subst e
          unfold keeps at hk
          rw [decide_eq_true_eq] at hk
          exact ⟨j - 1, by omega, by omega⟩
        · exact ⟨j, by omega, rfl⟩
/-- a list as a set: ascending, each once -/
def uniqL (l : List Int) : List Int := compact (l.mergeSort fun x y => decide (x ≤ y))
theorem compact_asc (l : List Int) (h : l.Pairwise (· ≤ ·)) : AscL (compact l) ∧ ∀ x, x ∈ compact l ↔ x ∈ l := by
  have hg : ∀ i j, i ≤ j → j < l.toArray.size → l.toArray[i]! ≤ l.toArray[j]! := by
    intro i j hij hj
    have hj' : j < l.length := by simpa using hj
    rw [getElem!_pos l.toArray i (by simp; omega), getElem!_pos l.toArray j hj]
    simp only [List.getElem_toArray]
    by_cases e : i = j
    · subst e; exact Int.le_refl _
    · exact List.pairwise_iff_getElem.1 h i j (by omega) hj' (by omega)
  have := compactUpTo_asc l.toArray hg l.length (by simp)
  refine ⟨this.1, fun x => ?_⟩
  unfold compact
  rw [this.2]
  constructor
  · rintro ⟨j, hj, rfl⟩
    rw [getElem!_pos l.toArray j (by simpa using hj)]
    simp
  · intro hx
    obtain ⟨j, hj, rfl⟩ := List.mem_iff_getElem.1 hx
    exact ⟨j, hj, by rw [getElem!_pos l.toArray j (by simpa using hj)]; simp⟩
theorem sorted_le (l : List Int) : (l.mergeSort fun x y => decide (x ≤ y)).Pairwise (· ≤ ·) := by
  have := List.pairwise_mergeSort (le := fun x y : Int => decide (x ≤ y)) (fun a b c h1 h2 => by simp at *; omega) (fun a b => by simp; omega) l
  exact this.imp (fun h => by simpa using h)
theorem uniqL_asc (l : List Int) : AscL (uniqL l) := (compact_asc _ (sorted_le l)).1
theorem mem_uniqL (l : List Int) (x : Int) : x ∈ uniqL l ↔ x ∈ l := by
  unfold uniqL
  rw [(compact_asc _ (sorted_le l)).2, List.mem_mergeSort]
theorem uniqL_of_asc {l : List Int} (h : AscL l) : uniqL l = l := ascL_ext (uniqL_asc l) h (mem_uniqL l)
theorem uniqL_length (l : List Int) : (uniqL l).length ≤ l.length := by
  unfold uniqL compact compactUpTo
  rw [List.length_map]
  refine Nat.le_trans (List.length_filter_le _ _) ?_
  simp [List.length_mergeSort]
/-- what is in the first list and not in the second, as a set -/
def diffL (a b : List Int) : List Int := (uniqL a).filter fun x => !b.contains x
theorem diffL_asc (a b : List Int) : AscL (diffL a b) := (uniqL_asc a).filter _
theorem mem_diffL (a b : List Int) (x : Int) : x ∈ diffL a b ↔ x ∈ a ∧ x ∉ b := by
  unfold diffL
  rw [List.mem_filter, mem_uniqL]
  simp
theorem diffL_length (a b : List Int) : (diffL a b).length ≤ a.length := Nat.le_trans (List.length_filter_le _ _) (uniqL_length a)
/-- what is in just one of two lists, as a set -/
def symL (a b : List Int) : List Int := uniqL (diffL a b ++ diffL b a)
end Go.Proofs.Ytaihblfabaijoaa
