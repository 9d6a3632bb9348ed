/- Patterns as data: dots, variables, rows, shapes. Nothing of the program's code is used. -/
import Derived.Test.YtbclgmabidjegaaData
import Derived.Test.YtbclgmabidjegaaSlim
import Derived.Test.YtbclgmabidjegaaNameIs
namespace Go.Proofs.Ytbclgmabidjegaa
open Go.RowKit
set_option linter.unusedVariables false
set_option linter.unusedSimpArgs false
def dotsB (f : Fm) : Bool := f.kind == 1 && (f.name.toList == [46, 46, 46])
def resB (s : ByteArray) : Bool := (s.toList == [46, 46, 46]) || (s.toList == [95])
def inF (ls : List Fm) (f : Fm) : Bool := ls.any fun g => sameB g f
theorem inF_take_succ (ls : List Fm) (f : Fm) (j : Nat) (h : j < ls.length) : inF (ls.take (j + 1)) f = (inF (ls.take j) f || sameB ls[j] f) := by
  unfold inF
  rw [List.take_succ_eq_append_getElem h, List.any_append]
  simp
/-- a variable of a pattern -/
def varB (ls : List Fm) (f : Fm) : Bool := f.kind == 1 && (!(f.name.toList == [46, 46, 46]) && (!(f.name.toList == [95]) && !inF ls f))
def varsF (ls : List Fm) (f : Fm) : List Fm := f.pre.filter (varB ls)
def varsAll (ls : List Fm) (ks : List Fm) : List Fm := (preAll ks).filter (varB ls)
theorem varsF_eq (ls : List Fm) (f : Fm) : varsF ls f = (if varB ls f = true then [f] else []) ++ varsAll ls f.kids := by
  unfold varsF varsAll
  rw [pre_eq]
  simp only [List.filter_cons]
  split <;> simp
theorem varsAll_take_succ (ls ks : List Fm) (j : Nat) (h : j < ks.length) : varsAll ls (ks.take (j + 1)) = varsAll ls (ks.take j) ++ varsF ls ks[j] := by
  unfold varsAll varsF
  rw [preAll_take_succ ks j h, List.filter_append]
theorem varsF_length (ls : List Fm) (f : Fm) : (varsF ls f).length ≤ f.count := by
  unfold varsF
  rw [← pre_length]
  exact List.length_filter_le _ _
theorem varsAll_length (ls ks : List Fm) : (varsAll ls ks).length ≤ countAll ks := by
  unfold varsAll
  rw [← preAll_length]
  exact List.length_filter_le _ _
/-- are there dots at this place? -/
def dotsAt (ks : List Fm) (i : Nat) : Bool := match ks[i]? with
  | some g => dotsB g
  | none => false
theorem dotsAt_eq {ks : List Fm} {i : Nat} (h : i < ks.length) : dotsAt ks i = dotsB ks[i] := by simp [dotsAt, List.getElem?_eq_getElem h]
theorem dotsAt_end {ks : List Fm} {i : Nat} (h : ks.length ≤ i) : dotsAt ks i = false := by simp [dotsAt, List.getElem?_eq_none h]
def nextDots : List Fm → Bool
  | [] => false
  | g :: _ => dotsB g
mutual
/-- in how many rows each variable is -/
def depF (ls : List Fm) : Fm → Int → List Int
  | .mk k nm n sc ks, d => (if varB ls (.mk k nm n sc ks) = true then [d] else []) ++ depAll ls ks d
def depAll (ls : List Fm) : List Fm → Int → List Int
  | [], _ => []
  | f :: r, d => depF ls f (if nextDots r = true then d + 1 else d) ++ depAll ls r d
end
theorem depF_eq (ls : List Fm) (f : Fm) (d : Int) : depF ls f d = (if varB ls f = true then [d] else []) ++ depAll ls f.kids d := by cases f; simp [depF, Fm.kids]
/-- those of the first kids -/
def depUp (ls ks : List Fm) (d : Int) : Nat → List Int
  | 0 => []
  | j + 1 => depUp ls ks d j ++ (match ks[j]? with
    | some g => depF ls g (if dotsAt ks (j + 1) = true then d + 1 else d)
    | none => [])
theorem depUp_succ {ls ks : List Fm} {d : Int} {j : Nat} (h : j < ks.length) : depUp ls ks d (j + 1) = depUp ls ks d j ++ depF ls ks[j] (if dotsAt ks (j + 1) = true then d + 1 else d) := by
  simp [depUp, List.getElem?_eq_getElem h]
theorem depUp_drop (ls ks : List Fm) (d : Int) : ∀ j, j ≤ ks.length → depUp ls ks d j ++ depAll ls (ks.drop j) d = depAll ls ks d
  | 0, _ => by simp [depUp]
  | j + 1, h => by
    have hj : j < ks.length := by omega
    have hn : nextDots (ks.drop (j + 1)) = dotsAt ks (j + 1) := by
      by_cases h2 : j + 1 < ks.length
      · rw [List.drop_eq_getElem_cons h2, dotsAt_eq h2]; rfl
      · rw [List.drop_eq_nil_of_le (by omega), dotsAt_end (by omega)]; rfl
    rw [depUp_succ hj, ← depUp_drop ls ks d j (by omega), List.drop_eq_getElem_cons hj, List.append_assoc]
    congr 1
    show _ = depF ls ks[j] (if nextDots (ks.drop (j + 1)) = true then d + 1 else d) ++ depAll ls (ks.drop (j + 1)) d
    rw [hn]
theorem depUp_all (ls ks : List Fm) (d : Int) : depUp ls ks d ks.length = depAll ls ks d := by
  have := depUp_drop ls ks d ks.length (Nat.le_refl _)
  rw [List.drop_length] at this
  simpa [depAll] using this
mutual
theorem depF_length (ls : List Fm) : ∀ (f : Fm) (d : Int), (depF ls f d).length = (varsF ls f).length
  | .mk k nm n sc ks, d => by
    rw [varsF_eq, depF_eq]
    simp only [List.length_append, Fm.kids]
    rw [depAll_length ls ks d]
    split <;> rfl
theorem depAll_length (ls : List Fm) : ∀ (ks : List Fm) (d : Int), (depAll ls ks d).length = (varsAll ls ks).length
  | [], _ => rfl
  | f :: r, d => by
    have h : varsAll ls (f :: r) = varsF ls f ++ varsAll ls r := by simp [varsAll, varsF, preAll]
    rw [h]
    simp only [depAll, List.length_append]
    rw [depF_length ls f, depAll_length ls r d]
end
/-- the dots of a list of forms are where they may be -/
def kidsOk (ks : List Fm) : Bool := !nextDots ks && decide ((ks.filter dotsB).length ≤ 1)
mutual
def shapeF : Fm → Bool
  | .mk k nm n sc ks => !dotsB (.mk k nm n sc ks) && (kidsOk ks && shapeAll ks)
def shapeAll : List Fm → Bool
  | [] => true
  | f :: r => (dotsB f || shapeF f) && shapeAll r
end
theorem shapeF_eq (f : Fm) : shapeF f = (!dotsB f && (kidsOk f.kids && shapeAll f.kids)) := by cases f; simp [shapeF, Fm.kids]
theorem shapeAll_take_succ : ∀ (ks : List Fm) (j : Nat) (h : j < ks.length), shapeAll (ks.take (j + 1)) = (shapeAll (ks.take j) && (dotsB ks[j] || shapeF ks[j]))
  | f :: r, 0, _ => by simp [shapeAll]
  | f :: r, j + 1, h => by
    have := shapeAll_take_succ r j (by simpa using h)
    simp only [List.take_succ_cons, shapeAll, List.getElem_cons_succ, this, Bool.and_assoc]
theorem shapeAll_no : ∀ (ks : List Fm) (j : Nat), shapeAll (ks.take j) = false → shapeAll ks = false
  | [], j, h => by simp [shapeAll] at h
  | f :: r, 0, h => by simp [shapeAll] at h
  | f :: r, j + 1, h => by
    simp only [List.take_succ_cons, shapeAll] at h ⊢
    rw [Bool.and_eq_false_iff] at h ⊢
    exact h.imp id (shapeAll_no r j)
/-- how many dots are among the first kids -/
def dotsUp (ks : List Fm) (j : Nat) : Nat := ((ks.take j).filter dotsB).length
theorem dotsUp_succ {ks : List Fm} {j : Nat} (h : j < ks.length) : dotsUp ks (j + 1) = dotsUp ks j + (if dotsB ks[j] = true then 1 else 0) := by
  unfold dotsUp
  rw [List.take_succ_eq_append_getElem h, List.filter_append, List.length_append]
  simp only [List.filter_cons, List.filter_nil]
  split <;> simp
theorem dotsUp_le (ks : List Fm) (j : Nat) : dotsUp ks j ≤ j := by
  unfold dotsUp
  have h1 := List.length_filter_le dotsB (ks.take j)
  rw [List.length_take] at h1
  omega
theorem dotsUp_mono (ks : List Fm) (j : Nat) : dotsUp ks j ≤ (ks.filter dotsB).length := by
  unfold dotsUp
  exact ((List.take_sublist j ks).filter dotsB).length_le
theorem nextDots_at (ks : List Fm) : nextDots ks = dotsAt ks 0 := by cases ks <;> rfl
/-- the names, each once, none of them reserved -/
def distUp (ls : List Fm) : Nat → Bool
  | 0 => true
  | i + 1 => distUp ls i && (match ls[i]? with
    | some g => isNameB g && (!resB g.name && !inF (ls.take i) g)
    | none => true)
theorem distUp_succ {ls : List Fm} {i : Nat} (h : i < ls.length) : distUp ls (i + 1) = (distUp ls i && (isNameB ls[i] && (!resB ls[i].name && !inF (ls.take i) ls[i]))) := by
  simp [distUp, List.getElem?_eq_getElem h]
theorem distUp_no {ls : List Fm} {i : Nat} (h : distUp ls i = false) : ∀ j, i ≤ j → distUp ls j = false
  | 0, hj => by obtain rfl : i = 0 := by omega
                exact h
  | j + 1, hj => by
    rcases Nat.lt_or_ge i (j + 1) with hl | hl
    · show (distUp ls j && _) = false
      rw [distUp_no h j (by omega)]
      rfl
    · obtain rfl : i = j + 1 := by omega
      exact h
theorem distUp_names {ls : List Fm} : ∀ {i : Nat}, i ≤ ls.length → distUp ls i = true → ∀ g ∈ ls.take i, isNameB g = true
  | 0, _, _, g, hg => by simp at hg
  | i + 1, hi, h, g, hg => by
    have hl : i < ls.length := by omega
    rw [distUp_succ hl, Bool.and_eq_true] at h
    rw [List.take_succ_eq_append_getElem hl, List.mem_append, List.mem_singleton] at hg
    rcases hg with hg | rfl
    · exact distUp_names (by omega) h.1 g hg
    · have := h.2
      rw [Bool.and_eq_true] at this
      exact this.1
def distinctB (ls : List Fm) (most : Nat) : Bool := decide (ls.length ≤ most) && distUp ls ls.length
/-- no two of them the same -/
def onceUp (ls : List Fm) : Nat → Bool
  | 0 => true
  | i + 1 => onceUp ls i && (match ls[i]? with
    | some g => !inF (ls.take i) g
    | none => true)
theorem onceUp_succ {ls : List Fm} {i : Nat} (h : i < ls.length) : onceUp ls (i + 1) = (onceUp ls i && !inF (ls.take i) ls[i]) := by
  simp [onceUp, List.getElem?_eq_getElem h]
theorem onceUp_no {ls : List Fm} {i : Nat} (h : onceUp ls i = false) : ∀ j, i ≤ j → onceUp ls j = false
  | 0, hj => by obtain rfl : i = 0 := by omega
                exact h
  | j + 1, hj => by
    rcases Nat.lt_or_ge i (j + 1) with hl | hl
    · show (onceUp ls j && _) = false
      rw [onceUp_no h j (by omega)]
      rfl
    · obtain rfl : i = j + 1 := by omega
      exact h
theorem distUp_once {ls : List Fm} (h : ∀ g ∈ ls, isNameB g = true ∧ resB g.name = false) : ∀ i, i ≤ ls.length → distUp ls i = onceUp ls i
  | 0, _ => rfl
  | i + 1, hi => by
    have hl : i < ls.length := by omega
    rw [distUp_succ hl, onceUp_succ hl, distUp_once h i (by omega), (h _ (List.getElem_mem hl)).1, (h _ (List.getElem_mem hl)).2]
    simp
/-- no number above three -/
def shallowB (ds : List Int) : Bool := ds.all fun n => decide (n ≤ 3)
theorem shallow_take_succ (ds : List Int) (j : Nat) (h : j < ds.length) : shallowB (ds.take (j + 1)) = (shallowB (ds.take j) && decide (ds[j] ≤ 3)) := by
  unfold shallowB
  rw [List.take_succ_eq_append_getElem h, List.all_append]
  simp
theorem shallow_no (ds : List Int) (j : Nat) (h : shallowB (ds.take j) = false) : shallowB ds = false := by
  unfold shallowB at *
  rw [List.all_eq_false] at *
  obtain ⟨x, hx, h2⟩ := h
  exact ⟨x, List.mem_of_mem_take hx, h2⟩
/-- a pattern -/
def patternB (f : Fm) (ls : List Fm) : Bool := formB f && (distinctB ls 9 && (shapeF f && (onceUp (varsF ls f) (varsF ls f).length && (shallowB (depF ls f 0) && decide ((varsF ls f).length ≤ 20)))))
/-- what a visit asks of each form -/
def nodeOk (g : Fm) : Bool := kidsOk g.kids
theorem dots_name {f : Fm} (h : dotsB f = true) : f.kind = 1 := by
  unfold dotsB at h
  rw [Bool.and_eq_true, beq_iff_eq] at h
  exact h.1
theorem name_kids {d : Nat} {f : Fm} (h : isB d f = true) (hk : f.kind = 1) : f.kids = [] := by
  cases f with
  | mk k nm n sc ks =>
    simp only [Fm.kind] at hk
    subst hk
    cases d with
    | zero => simp [isB] at h
    | succ d => simp [isB] at h; exact h.2
theorem kid_isB {d : Nat} {f : Fm} (h : isB d f = true) : ∀ y ∈ f.kids, ∃ d', isB d' y = true := by
  cases f with
  | mk k nm n sc ks => exact (isB_node h).2.2
theorem shape_nodes (f : Fm) : ∀ d, isB d f = true → (dotsB f || shapeF f) = f.pre.all nodeOk := by
  induction f using Fm.ind with
  | h k nm n sc ks ih =>
    intro d hd
    have hall : ∀ (l : List Fm), (∀ y ∈ l, y ∈ ks) → shapeAll l = (preAll l).all nodeOk := by
      intro l
      induction l with
      | nil => intro _; rfl
      | cons y r ihr =>
        intro hl
        obtain ⟨d', hd'⟩ := kid_isB hd y (hl y (by simp))
        simp only [shapeAll, preAll, List.all_append]
        rw [ih y (hl y (by simp)) d' hd', ihr (fun z hz => hl z (by simp [hz]))]
    rw [pre_eq, List.all_cons, shapeF_eq]
    simp only [Fm.kids]
    rw [← hall ks (fun y hy => hy)]
    show _ = (kidsOk ks && shapeAll ks)
    cases hdot : dotsB (Fm.mk k nm n sc ks) with
    | false => simp
    | true =>
      have := name_kids hd (dots_name hdot)
      simp only [Fm.kids] at this
      subst this
      rfl
theorem formB_is {f : Fm} (h : formB f = true) : isB 40 f = true := by
  unfold formB at h
  rw [Bool.and_eq_true] at h
  exact h.1
theorem shape_visit {f : Fm} (h : formB f = true) : shapeF f = (!dotsB f && f.pre.all nodeOk) := by
  rw [← shape_nodes f 40 (formB_is h), shapeF_eq]
  cases dotsB f <;> simp
theorem isB_lone {d : Nat} {f : Fm} (h : isB d f = true) (hk : f.kind = 1) : isNameB f = true := by
  cases f with
  | mk k nm n sc ks =>
    simp only [Fm.kind] at hk
    subst hk
    cases d with
    | zero => simp [isB] at h
    | succ d =>
      have hks := name_kids h rfl
      simp only [Fm.kids] at hks
      subst hks
      unfold isNameB formB
      rw [count_leaf]
      have h2 : isB 40 (.mk 1 nm n sc []) = true := by
        simp [isB] at h ⊢
        exact h
      rw [h2]
      rfl
theorem pre_isB (f : Fm) : ∀ d, isB d f = true → ∀ g ∈ f.pre, ∃ d', isB d' g = true := by
  induction f using Fm.ind with
  | h k nm n sc ks ih =>
    intro d hd g hg
    rw [pre_eq, List.mem_cons] at hg
    rcases hg with rfl | hg
    · exact ⟨d, hd⟩
    · simp only [Fm.kids] at hg
      have : ∀ (l : List Fm), (∀ y ∈ l, y ∈ ks) → g ∈ preAll l → ∃ d', isB d' g = true := by
        intro l
        induction l with
        | nil => intro _ h; simp [preAll] at h
        | cons y r ihr =>
          intro hl h
          simp only [preAll, List.mem_append] at h
          rcases h with h | h
          · obtain ⟨d', hd'⟩ := kid_isB hd y (hl y (by simp))
            exact ih y (hl y (by simp)) d' hd' g h
          · exact ihr (fun z hz => hl z (by simp [hz])) h
      exact this ks (fun y hy => hy) hg
theorem vars_names {f : Fm} {ls : List Fm} (h : formB f = true) : ∀ g ∈ varsF ls f, isNameB g = true ∧ resB g.name = false := by
  intro g hg
  unfold varsF at hg
  rw [List.mem_filter] at hg
  obtain ⟨d, hd⟩ := pre_isB f 40 (formB_is h) g hg.1
  have hv := hg.2
  unfold varB at hv
  simp only [Bool.and_eq_true, beq_iff_eq, Bool.not_eq_true'] at hv
  refine ⟨isB_lone hd hv.1, ?_⟩
  unfold resB
  rw [hv.2.1, hv.2.2.1]
  rfl
end Go.Proofs.Ytbclgmabidjegaa
