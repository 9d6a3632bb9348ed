/- The first texts of this seat: letters and names, forms as data, sets of scopes, validity, small walks. -/
import Derived.Test.YtbclgmabidjegaaPutData
import Derived.Test.YtbclgmabidjegaaData
import Derived.Test.YtbclgmabidjegaaSlim
namespace Go.Proofs.Ytbclgmabidjegaa
section
theorem hasB_iff (l : List Int) (n : Int) : hasB l n = true ↔ n ∈ l := by
  unfold hasB
  rw [List.any_eq_true]
  constructor
  · rintro ⟨x, hx, e⟩
    rw [eq_of_beq e] at hx
    exact hx
  · intro h
    exact ⟨n, h, by simp⟩
theorem hasB_no (l : List Int) (n : Int) (h : hasB l n = false) : n ∉ l := fun hm => by
  rw [(hasB_iff l n).2 hm] at h
  exact Bool.noConfusion h
/-- a number put ahead of the first greater one -/
def insL (n : Int) : List Int → List Int
  | [] => [n]
  | x :: r => if n < x then n :: x :: r else x :: insL n r
theorem mem_insL (n : Int) : ∀ (l : List Int) (x : Int), x ∈ insL n l ↔ x = n ∨ x ∈ l
  | [], x => by simp [insL]
  | y :: r, x => by
    unfold insL
    split
    · simp
    · rw [List.mem_cons, mem_insL n r, List.mem_cons]
      constructor
      · rintro (h | h | h)
        · exact .inr (.inl h)
        · exact .inl h
        · exact .inr (.inr h)
      · rintro (h | h | h)
        · exact .inr (.inl h)
        · exact .inl h
        · exact .inr (.inr h)
theorem insL_asc (n : Int) : ∀ (l : List Int), AscL l → n ∉ l → AscL (insL n l)
  | [], _, _ => by simp [insL, AscL]
  | y :: r, h, hn => by
    have h' := h
    unfold AscL at h
    rw [List.pairwise_cons] at h
    rw [List.mem_cons] at hn
    unfold insL
    split
    · rename_i hlt
      unfold AscL
      rw [List.pairwise_cons]
      refine ⟨fun z hz => ?_, h'⟩
      rcases List.mem_cons.1 hz with e | e
      · rw [e]; exact hlt
      · have := h.1 z e; omega
    · rename_i hlt
      unfold AscL
      rw [List.pairwise_cons]
      refine ⟨fun z hz => ?_, insL_asc n r h.2 (fun e => hn (.inr e))⟩
      rcases (mem_insL n r z).1 hz with e | e
      · have : n ≠ y := fun e => hn (.inl e)
        omega
      · exact h.1 z e
theorem putStep_done (n : Int) : ∀ (l p : List Int), l.foldl (putStep n) (p, true) = (p ++ l, true)
  | [], p => by simp
  | x :: r, p => by
    rw [List.foldl_cons]
    have : putStep n (p, true) x = (p ++ [x], true) := by unfold putStep; simp
    rw [this, putStep_done n r]
    simp
theorem putStep_open (n : Int) : ∀ (l p : List Int), (if (l.foldl (putStep n) (p, false)).2 = true then (l.foldl (putStep n) (p, false)).1 else (l.foldl (putStep n) (p, false)).1 ++ [n]) = p ++ insL n l
  | [], p => by simp [insL]
  | x :: r, p => by
    rw [List.foldl_cons]
    by_cases h : n < x
    · have : putStep n (p, false) x = (p ++ [n, x], true) := by unfold putStep; simp [h]
      rw [this, putStep_done n r]
      simp [insL, h]
    · have : putStep n (p, false) x = (p ++ [x], false) := by unfold putStep; simp [h]
      rw [this, putStep_open n r]
      simp [insL, h]
theorem putL_eq (l : List Int) (n : Int) : putL l n = if hasB l n = true then l else insL n l := by
  show (if (l.foldl (putStep n) ([], hasB l n)).2 = true then (l.foldl (putStep n) ([], hasB l n)).1 else (l.foldl (putStep n) ([], hasB l n)).1 ++ [n]) = _
  cases h : hasB l n with
  | true => rw [putStep_done]; simp
  | false => rw [putStep_open]; simp
theorem putL_asc {l : List Int} (h : AscL l) (n : Int) : AscL (putL l n) := by
  rw [putL_eq]
  split
  · exact h
  · rename_i hn
    exact insL_asc n l h (hasB_no l n (by simpa using hn))
theorem mem_putL (l : List Int) (n x : Int) : x ∈ putL l n ↔ x = n ∨ x ∈ l := by
  rw [putL_eq]
  split
  · rename_i hn
    constructor
    · exact .inr
    · rintro (e | e)
      · rw [e]; exact (hasB_iff l n).1 hn
      · exact e
  · exact mem_insL n l x
/-- a set and a number as a set -/
theorem uniqL_put {l : List Int} (h : AscL l) (n : Int) : uniqL (l ++ [n]) = putL l n :=
  ascL_ext (uniqL_asc _) (putL_asc h n) fun x => by
    rw [mem_uniqL, mem_putL, List.mem_append, List.mem_singleton]
    exact Or.comm
theorem diffL_take {l : List Int} (h : AscL l) (n : Int) : diffL l [n] = l.filter (· != n) := by
  unfold diffL
  rw [uniqL_of_asc h]
  congr 1
  funext x
  by_cases e : x = n <;> simp [e]
theorem symL_flip {l : List Int} (h : AscL l) (n : Int) : symL l [n] = if hasB l n = true then l.filter (· != n) else putL l n := by
  unfold symL
  split
  · rename_i hn
    have hm := (hasB_iff l n).1 hn
    refine ascL_ext (uniqL_asc _) (h.filter _) fun x => ?_
    rw [mem_uniqL, List.mem_append, mem_diffL, mem_diffL, List.mem_filter, List.mem_singleton]
    constructor
    · rintro (⟨h1, h2⟩ | ⟨h1, h2⟩)
      · exact ⟨h1, by simpa using h2⟩
      · rw [h1] at h2; exact absurd hm h2
    · rintro ⟨h1, h2⟩
      exact .inl ⟨h1, by simpa using h2⟩
  · rename_i hn
    have hm := hasB_no l n (by simpa using hn)
    refine ascL_ext (uniqL_asc _) (putL_asc h n) fun x => ?_
    rw [mem_uniqL, List.mem_append, mem_diffL, mem_diffL, mem_putL, List.mem_singleton]
    constructor
    · rintro (⟨h1, h2⟩ | ⟨h1, h2⟩)
      · exact .inr h1
      · exact .inl h1
    · rintro (h1 | h1)
      · exact .inr ⟨h1, by rw [h1]; exact hm⟩
      · exact .inl ⟨h1, fun e => hm (by rw [← e]; exact h1)⟩
/-- a set with all numbers of a list put into it -/
def putsL (l : List Int) : List Int → List Int
  | [] => l
  | n :: r => putsL (putL l n) r
theorem putsL_asc : ∀ (ns : List Int) {l : List Int}, AscL l → AscL (putsL l ns)
  | [], _, h => h
  | n :: r, _, h => putsL_asc r (putL_asc h n)
theorem mem_putsL : ∀ (ns l : List Int) (x : Int), x ∈ putsL l ns ↔ x ∈ l ∨ x ∈ ns
  | [], l, x => by simp [putsL]
  | n :: r, l, x => by
    show x ∈ putsL (putL l n) r ↔ _
    rw [mem_putsL r, mem_putL, List.mem_cons]
    constructor
    · rintro ((h | h) | h)
      · exact .inr (.inl h)
      · exact .inl h
      · exact .inr (.inr h)
    · rintro (h | h | h)
      · exact .inl (.inr h)
      · exact .inl (.inl h)
      · exact .inr h
theorem uniqL_puts {l : List Int} (h : AscL l) (ns : List Int) : uniqL (l ++ ns) = putsL l ns :=
  ascL_ext (uniqL_asc _) (putsL_asc ns h) fun x => by rw [mem_uniqL, mem_putsL, List.mem_append]
end
end Go.Proofs.Ytbclgmabidjegaa
namespace Go.Proofs.Ytbclgmabidjegaa
section
/-- a set with the scopes of forms -/
def foldS (out : List Int) (V : List Fm) : List Int := V.foldl (fun s g => putsL s g.scopes) out
theorem foldS_append (out : List Int) (V W : List Fm) : foldS out (V ++ W) = foldS (foldS out V) W := List.foldl_append ..
/-- a set of scopes -/
def GoodS (l : List Int) : Prop := AscL l ∧ ∀ n ∈ l, 0 < n ∧ n ≤ 99
theorem goodS_nil : GoodS [] := ⟨List.Pairwise.nil, fun n h => by cases h⟩
theorem asc_length : ∀ (l : List Int) (a : Int), 0 ≤ a → (∀ n ∈ l, a < n ∧ n ≤ 99) → AscL l → (l.length : Int) ≤ 99 - a ∨ l = []
  | [], _, _, _, _ => .inr rfl
  | x :: r, a, h0, h, hs => by
    unfold AscL at hs
    rw [List.pairwise_cons] at hs
    have hx := h x (by simp)
    have ih := asc_length r x (by omega) (fun n hn => ⟨hs.1 n hn, (h n (by simp [hn])).2⟩) hs.2
    refine .inl ?_
    rw [List.length_cons]
    rcases ih with h | h
    · omega
    · rw [h]; simp; omega
theorem GoodS.length {l : List Int} (h : GoodS l) : l.length ≤ 99 := by
  rcases asc_length l 0 (by omega) h.2 h.1 with h | h
  · omega
  · rw [h]; simp
theorem GoodS.bounds {l : List Int} (h : GoodS l) : ∀ n ∈ l, -9223372036854775808 ≤ n ∧ n ≤ 9223372036854775807 := fun n hn => by have := h.2 n hn; omega
theorem goodS_of {l : List Int} (h : scopesB l = true) : GoodS l := by
  refine ⟨ascL_of_scopesB h, fun n hn => ?_⟩
  unfold scopesB at h
  rw [Bool.and_eq_true] at h
  exact (ascL_of_ascB l 0 h.2).2 n hn
theorem GoodS.puts {l : List Int} (h : GoodS l) {ns : List Int} (hn : ∀ n ∈ ns, 0 < n ∧ n ≤ 99) : GoodS (putsL l ns) := by
  refine ⟨putsL_asc ns h.1, fun n hm => ?_⟩
  rcases (mem_putsL ns l n).1 hm with h' | h'
  · exact h.2 n h'
  · exact hn n h'
theorem GoodS.fold : ∀ (V : List Fm) {l : List Int}, GoodS l → (∀ g ∈ V, scopesB g.scopes = true) → GoodS (foldS l V)
  | [], _, h, _ => h
  | g :: V, _, h, hv => GoodS.fold V (h.puts (goodS_of (hv g (by simp))).2) fun g' hg => hv g' (by simp [hg])
/-- all forms in a form are well-formed -/
theorem pre_ok (f : Fm) : ∀ d, isB d f = true → ∀ g ∈ f.pre, scopesB g.scopes = true := by
  induction f using Fm.ind with
  | h k nm n sc ks ih =>
    intro d hd g hg
    obtain ⟨h1, _, h3⟩ := isB_node hd
    rw [pre_eq] at hg
    rcases List.mem_cons.1 hg with rfl | hg
    · exact h1
    · have key : ∀ (ls : List Fm), (∀ y ∈ ls, y ∈ ks) → g ∈ preAll ls → ∃ y ∈ ls, g ∈ y.pre := by
        intro ls
        induction ls with
        | nil => intro _ h; simp [preAll] at h
        | cons y r ihr =>
          intro hs h
          simp only [preAll, List.mem_append] at h
          rcases h with h | h
          · exact ⟨y, by simp, h⟩
          · obtain ⟨z, hz, hz2⟩ := ihr (fun z hz => hs z (by simp [hz])) h
            exact ⟨z, by simp [hz], hz2⟩
      obtain ⟨y, hy, hgy⟩ := key ks (fun _ h => h) hg
      obtain ⟨d', hd'⟩ := h3 y hy
      exact ih y hy d' hd' g hgy
end
end Go.Proofs.Ytbclgmabidjegaa
