/- Plain facts on the set of all scopes in forms. Nothing of the program is used. -/
import Derived.Test.YtlgalpdjeojaaaaPutSet
import Derived.Test.YtlgalpdjeojaaaaMaVisit
import Derived.Test.YtlgalpdjeojaaaaIsData
namespace Go.Proofs.Ytlgalpdjeojaaaa
/-- a set with the scopes of forms -/
def foldS (out : List Int) (V : List Fm) : List Int := V.foldl (fun s g => putsL s g.scopes) out
theorem foldS_append (out : List Int) (V W : List Fm) : foldS out (V ++ W) = foldS (foldS out V) W := List.foldl_append ..
theorem preAll_append : ∀ ks ls : List Fm, preAll (ks ++ ls) = preAll ks ++ preAll ls
  | [], _ => rfl
  | f :: r, ls => by simp only [List.cons_append, preAll, preAll_append r ls, List.append_assoc]
theorem preAll_take_succ (ks : List Fm) (j : Nat) (h : j < ks.length) : preAll (ks.take (j + 1)) = preAll (ks.take j) ++ ks[j].pre := by
  rw [List.take_succ_eq_append_getElem h, preAll_append]
  simp [preAll]
/-- a set of scopes -/
def GoodS (l : List Int) : Prop := AscL l ∧ ∀ n ∈ l, 0 < n ∧ n ≤ 99
theorem goodS_nil : GoodS [] := ⟨List.Pairwise.nil, fun n h => by cases h⟩
theorem asc_length : ∀ (l : List Int) (a : Int), 0 ≤ a → (∀ n ∈ l, a < n ∧ n ≤ 99) → AscL l → (l.length : Int) ≤ 99 - a ∨ l = []
  | [], _, _, _, _ => .inr rfl
  | x :: r, a, h0, h, hs => by
    unfold AscL at hs
    rw [List.pairwise_cons] at hs
    have hx := h x (by simp)
    have ih := asc_length r x (by omega) (fun n hn => ⟨hs.1 n hn, (h n (by simp [hn])).2⟩) hs.2
    refine .inl ?_
    rw [List.length_cons]
    rcases ih with h | h
    · omega
    · rw [h]; simp; omega
theorem GoodS.length {l : List Int} (h : GoodS l) : l.length ≤ 99 := by
  rcases asc_length l 0 (by omega) h.2 h.1 with h | h
  · omega
  · rw [h]; simp
theorem GoodS.bounds {l : List Int} (h : GoodS l) : ∀ n ∈ l, -9223372036854775808 ≤ n ∧ n ≤ 9223372036854775807 := fun n hn => by have := h.2 n hn; omega
theorem goodS_of {l : List Int} (h : scopesB l = true) : GoodS l := by
  refine ⟨ascL_of_scopesB h, fun n hn => ?_⟩
  unfold scopesB at h
  rw [Bool.and_eq_true] at h
  exact (ascL_of_ascB l 0 h.2).2 n hn
theorem GoodS.puts {l : List Int} (h : GoodS l) {ns : List Int} (hn : ∀ n ∈ ns, 0 < n ∧ n ≤ 99) : GoodS (putsL l ns) := by
  refine ⟨putsL_asc ns h.1, fun n hm => ?_⟩
  rcases (mem_putsL ns l n).1 hm with h' | h'
  · exact h.2 n h'
  · exact hn n h'
theorem GoodS.fold : ∀ (V : List Fm) {l : List Int}, GoodS l → (∀ g ∈ V, scopesB g.scopes = true) → GoodS (foldS l V)
  | [], _, h, _ => h
  | g :: V, _, h, hv => GoodS.fold V (h.puts (goodS_of (hv g (by simp))).2) fun g' hg => hv g' (by simp [hg])
/-- all forms in a form are well-formed -/
theorem pre_ok (f : Fm) : ∀ d, isB d f = true → ∀ g ∈ f.pre, scopesB g.scopes = true := by
  induction f using Fm.ind with
  | h k nm n sc ks ih =>
    intro d hd g hg
    obtain ⟨h1, _, h3⟩ := isB_node hd
    rw [pre_eq] at hg
    rcases List.mem_cons.1 hg with rfl | hg
    · exact h1
    · have key : ∀ (ls : List Fm), (∀ y ∈ ls, y ∈ ks) → g ∈ preAll ls → ∃ y ∈ ls, g ∈ y.pre := by
        intro ls
        induction ls with
        | nil => intro _ h; simp [preAll] at h
        | cons y r ihr =>
          intro hs h
          simp only [preAll, List.mem_append] at h
          rcases h with h | h
          · exact ⟨y, by simp, h⟩
          · obtain ⟨z, hz, hz2⟩ := ihr (fun z hz => hs z (by simp [hz])) h
            exact ⟨z, by simp [hz], hz2⟩
      obtain ⟨y, hy, hgy⟩ := key ks (fun _ h => h) hg
      obtain ⟨d', hd'⟩ := h3 y hy
      exact ih y hy d' hd' g hgy
end Go.Proofs.Ytlgalpdjeojaaaa
