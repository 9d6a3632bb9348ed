/- Forms with few nodes, short names and few scopes. -/
import Derived.Test.YtbclgmabidjegaaData
namespace Go.Proofs.Ytbclgmabidjegaa
section
set_option linter.unusedVariables false
set_option linter.unusedSimpArgs false
theorem preAll_append : ∀ ks ls : List Fm, preAll (ks ++ ls) = preAll ks ++ preAll ls
  | [], _ => rfl
  | f :: r, ls => by simp only [List.cons_append, preAll, preAll_append r ls, List.append_assoc]
theorem preAll_take_succ (ks : List Fm) (j : Nat) (h : j < ks.length) : preAll (ks.take (j + 1)) = preAll (ks.take j) ++ ks[j].pre := by
  rw [List.take_succ_eq_append_getElem h, preAll_append]
  simp [preAll]
/-- at most so many nodes, with names and sets of scopes no longer than so -/
def Slim (m s k : Nat) (f : Fm) : Prop := f.count ≤ m ∧ ∀ g ∈ f.pre, g.name.size ≤ s ∧ g.scopes.length ≤ k
def SlimAll (m s k : Nat) (ks : List Fm) : Prop := countAll ks ≤ m ∧ ∀ g ∈ preAll ks, g.name.size ≤ s ∧ g.scopes.length ≤ k
theorem Slim.node {m s k : Nat} {kd : Int} {nm : ByteArray} {n : Int} {sc : List Int} {ks : List Fm} (h1 : nm.size ≤ s) (h2 : sc.length ≤ k) (h : SlimAll m s k ks) : Slim (m + 1) s k (.mk kd nm n sc ks) := by
  refine ⟨by have := h.1; unfold Fm.count; omega, fun g hg => ?_⟩
  rw [pre_eq] at hg
  rcases List.mem_cons.1 hg with rfl | hg
  · exact ⟨h1, h2⟩
  · exact h.2 g hg
theorem Slim.kids {m s k : Nat} {f : Fm} (h : Slim m s k f) : SlimAll (m - 1) s k f.kids := by
  refine ⟨?_, fun g hg => h.2 g (by rw [pre_eq]; exact List.mem_cons_of_mem _ hg)⟩
  have := h.1
  cases f with
  | mk kd nm n sc ks => unfold Fm.count at this; show countAll ks ≤ _; omega
theorem Slim.head {m s k : Nat} {f : Fm} (h : Slim m s k f) : f.name.size ≤ s ∧ f.scopes.length ≤ k := h.2 f (by rw [pre_eq]; simp)
theorem SlimAll.nil (m s k : Nat) : SlimAll m s k [] := ⟨by simp [countAll], fun g hg => by simp [preAll] at hg⟩
theorem countAll_append' : ∀ ks ls : List Fm, countAll (ks ++ ls) = countAll ks + countAll ls
  | [], ls => by simp [countAll]
  | f :: r, ls => by simp only [List.cons_append, countAll, countAll_append' r ls]; omega
theorem SlimAll.snoc {m m' s k : Nat} {ks : List Fm} {f : Fm} (h : SlimAll m s k ks) (g : Slim m' s k f) : SlimAll (m + m') s k (ks ++ [f]) := by
  refine ⟨?_, fun x hx => ?_⟩
  · rw [countAll_append']
    have h1 := h.1
    have h2 := g.1
    simp only [countAll]
    omega
  · rw [preAll_append] at hx
    rcases List.mem_append.1 hx with hx | hx
    · exact h.2 x hx
    · simp only [preAll, List.append_nil] at hx
      exact g.2 x hx
theorem Slim.mono {m m' s s' k k' : Nat} {f : Fm} (h : Slim m s k f) (h1 : m ≤ m') (h2 : s ≤ s') (h3 : k ≤ k') : Slim m' s' k' f := ⟨by have := h.1; omega, fun g hg => by have := h.2 g hg; omega⟩
theorem SlimAll.mono {m m' s s' k k' : Nat} {f : List Fm} (h : SlimAll m s k f) (h1 : m ≤ m') (h2 : s ≤ s') (h3 : k ≤ k') : SlimAll m' s' k' f := ⟨by have := h.1; omega, fun g hg => by have := h.2 g hg; omega⟩
mutual
theorem sz_slim {s k : Nat} : ∀ f : Fm, (∀ g ∈ f.pre, g.name.size ≤ s ∧ g.scopes.length ≤ k) → f.sz + 1 ≤ (s + k + 1) * f.count
  | .mk kd nm n sc ks, h => by
    have h1 := h (.mk kd nm n sc ks) (by rw [pre_eq]; simp)
    have h2 := szAll_slim (s := s) (k := k) ks fun g hg => h g (by rw [pre_eq]; exact List.mem_cons_of_mem _ hg)
    simp only [Fm.name, Fm.scopes] at h1
    simp only [Fm.sz, Fm.count, Nat.mul_add, Nat.mul_one]
    omega
theorem szAll_slim {s k : Nat} : ∀ ks : List Fm, (∀ g ∈ preAll ks, g.name.size ≤ s ∧ g.scopes.length ≤ k) → szAll ks ≤ (s + k + 1) * countAll ks
  | [], _ => by simp [szAll]
  | f :: r, h => by
    have h1 := sz_slim (s := s) (k := k) f fun g hg => h g (by simp [preAll, hg])
    have h2 := szAll_slim (s := s) (k := k) r fun g hg => h g (by simp [preAll, hg])
    simp only [szAll, countAll, Nat.mul_add]
    omega
end
theorem Slim.sz {m s k : Nat} {f : Fm} (h : Slim m s k f) : f.sz ≤ (s + k + 1) * m := by
  have h1 := sz_slim f h.2
  have h2 := Nat.mul_le_mul_left (s + k + 1) h.1
  omega
theorem count_mem {f : Fm} : ∀ {ks : List Fm}, f ∈ ks → f.count ≤ countAll ks
  | g :: r, h => by
    rcases List.mem_cons.1 h with rfl | h
    · simp [countAll]
    · have := count_mem h
      simp only [countAll]
      omega
theorem mem_preAll' {g : Fm} : ∀ {ks : List Fm}, g ∈ preAll ks ↔ ∃ y ∈ ks, g ∈ y.pre
  | [] => by simp [preAll]
  | f :: r => by
    simp only [preAll, List.mem_append, mem_preAll' (ks := r), List.mem_cons]
    constructor
    · rintro (h | ⟨y, hy, h⟩)
      · exact ⟨f, .inl rfl, h⟩
      · exact ⟨y, .inr hy, h⟩
    · rintro ⟨y, rfl | hy, h⟩
      · exact .inl h
      · exact .inr ⟨y, hy, h⟩
theorem SlimAll.kid {m s k : Nat} {ks : List Fm} (h : SlimAll m s k ks) {f : Fm} (hf : f ∈ ks) : Slim m s k f :=
  ⟨Nat.le_trans (count_mem hf) h.1, fun g hg => h.2 g (mem_preAll'.2 ⟨f, hf, hg⟩)⟩
theorem countAll_set : ∀ (ks : List Fm) (i : Nat) (f : Fm) (h : i < ks.length), countAll (ks.set i f) + ks[i].count = countAll ks + f.count
  | g :: r, 0, f, h => by simp [countAll]; omega
  | g :: r, i + 1, f, h => by
    have := countAll_set r i f (by simpa using h)
    simp only [List.set_cons_succ, countAll, List.getElem_cons_succ]
    omega
/-- a kid is replaced by one that is no larger -/
theorem SlimAll.set {m s k : Nat} {ks : List Fm} {i : Nat} (hi : i < ks.length) {f : Fm} (h : SlimAll m s k ks) (hc : f.count ≤ ks[i].count) (hf : ∀ g ∈ f.pre, g.name.size ≤ s ∧ g.scopes.length ≤ k) : SlimAll m s k (ks.set i f) := by
  refine ⟨?_, fun g hg => ?_⟩
  · have := countAll_set ks i f hi
    have := h.1
    omega
  · obtain ⟨y, hy, hg2⟩ := mem_preAll'.1 hg
    rcases List.mem_or_eq_of_mem_set hy with hy | hy
    · exact h.2 g (mem_preAll'.2 ⟨y, hy, hg2⟩)
    · rw [hy] at hg2; exact hf g hg2
end
end Go.Proofs.Ytbclgmabidjegaa
