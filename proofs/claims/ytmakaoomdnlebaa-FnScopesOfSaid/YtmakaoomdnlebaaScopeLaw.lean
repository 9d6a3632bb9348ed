/- The first texts of this seat: letters and names, forms as data, sets of scopes, validity, small walks. -/
import Derived.Test.YtmakaoomdnlebaaData
import Derived.Test.YtmakaoomdnlebaaDressed
import Derived.Test.YtmakaoomdnlebaaSpecDone
import Derived.Test.YtmakaoomdnlebaaFolds
namespace Go.Proofs.Ytmakaoomdnlebaa
section
theorem chgAll_congr {c1 c2 : Int → List Int → List Int} : ∀ (ks : List Fm), (∀ y ∈ ks, y.chg c1 = y.chg c2) → chgAll c1 ks = chgAll c2 ks
  | [], _ => rfl
  | f :: r, h => by
    unfold chgAll
    rw [h f (by simp), chgAll_congr r fun y hy => h y (by simp [hy])]
theorem chg_congr {c1 c2 : Int → List Int → List Int} (hc : ∀ k sc, scopesB sc = true → (k ≠ 1 → sc = []) → c1 k sc = c2 k sc) (f : Fm) : ∀ d, isB d f = true → f.chg c1 = f.chg c2 := by
  induction f using Fm.ind with
  | h k nm n sc ks ih =>
    intro d hd
    obtain ⟨h1, h2, h3⟩ := isB_node hd
    unfold Fm.chg
    rw [hc k sc h1 h2, chgAll_congr ks fun y hy => by obtain ⟨d', hd'⟩ := h3 y hy; exact ih y hy d' hd']
theorem scopes_one (n : Int) : scopesB [n] = decide (1 ≤ n ∧ n ≤ 99) := by
  unfold scopesB ascB ascB
  rw [Bool.eq_iff_iff]
  simp
  omega
/-- one scope, at a valid form: the model's way and the program's -/
theorem same_one {way : Int} {comb : List Int → List Int → List Int} {n : Int} (hc : ∀ sc, AscL sc → chgW way n 1 sc = comb sc [n]) (f : Fm) :
    doneB f (f.chg (chgW way n)) n = redB comb [n] f ∧ (redB comb [n] f = true → f.chg (chgW way n) = f.chg (dressF comb [n])) := by
  have key : formB f = true → f.chg (chgW way n) = f.chg (dressF comb [n]) := fun h => chg_congr (fun k sc h1 h2 => by
    unfold dressF
    by_cases hk : k = 1
    · subst hk
      rw [if_pos rfl]
      exact hc sc (ascL_of_scopesB h1)
    · rw [if_neg hk]
      unfold chgW
      rw [if_neg hk]
      exact h2 hk) f 40 (formB_isB h)
  refine ⟨?_, fun h => key ?_⟩
  · unfold doneB redB
    rw [scopes_one]
    cases h : formB f with
    | false => rfl
    | true => rw [key h]
  · unfold redB at h
    rw [Bool.and_eq_true] at h
    exact h.1
theorem add_one (n : Int) (sc : List Int) (h : AscL sc) : chgW 0 n 1 sc = uniqL (sc ++ [n]) := by
  rw [uniqL_put h]
  unfold chgW
  rw [if_pos rfl, if_neg (by omega)]
theorem flip_one (n : Int) (sc : List Int) (h : AscL sc) : chgW 1 n 1 sc = symL sc [n] := by
  rw [symL_flip h]
  unfold chgW
  rw [if_pos rfl]
  by_cases hh : hasB sc n = true
  · rw [if_pos (.inr ⟨rfl, hh⟩), if_pos hh]
  · rw [if_neg (by rintro (h | ⟨_, h⟩); omega; exact hh h), if_neg hh]
theorem drop_one (n : Int) (sc : List Int) (h : AscL sc) : chgW 2 n 1 sc = diffL sc [n] := by
  rw [diffL_take h]
  unfold chgW
  rw [if_pos rfl, if_pos (.inl rfl)]
end
end Go.Proofs.Ytmakaoomdnlebaa
namespace Go.Proofs.Ytmakaoomdnlebaa
section
/-- the scopes of a name, with others; what is no name stays as it is -/
def dressW (ns : List Int) : Int → List Int → List Int := fun k sc => if k = 1 then putsL sc ns else sc
mutual
theorem chg_chg {c1 c2 : Int → List Int → List Int} : ∀ f : Fm, (f.chg c1).chg c2 = f.chg fun k sc => c2 k (c1 k sc)
  | .mk k nm n sc ks => by simp only [Fm.chg, chgAll_chg ks]
theorem chgAll_chg {c1 c2 : Int → List Int → List Int} : ∀ ks : List Fm, chgAll c2 (chgAll c1 ks) = chgAll (fun k sc => c2 k (c1 k sc)) ks
  | [] => rfl
  | f :: r => by simp only [chgAll, chg_chg f, chgAll_chg r]
end
mutual
theorem chg_same {c : Int → List Int → List Int} (h : ∀ k sc, c k sc = sc) : ∀ f : Fm, f.chg c = f
  | .mk k nm n sc ks => by simp only [Fm.chg, h, chgAll_same h ks]
theorem chgAll_same {c : Int → List Int → List Int} (h : ∀ k sc, c k sc = sc) : ∀ ks : List Fm, chgAll c ks = ks
  | [] => rfl
  | f :: r => by simp only [chgAll, chg_same h f, chgAll_same h r]
end
theorem putsL_append (ps bs : List Int) : ∀ (m : List Int), putsL m (ps ++ bs) = putsL (putsL m ps) bs := by
  induction ps with
  | nil => intro m; rfl
  | cons a r ih => intro m; exact ih (putL m a)
theorem dress_start (f : Fm) : f.chg (dressW []) = f := chg_same (fun k sc => by unfold dressW; split <;> rfl) f
theorem dress_succ (ns : List Int) (j : Nat) (h : j < ns.length) (f : Fm) : (f.chg (dressW (ns.take j))).chg (chgW 0 ns[j]) = f.chg (dressW (ns.take (j + 1))) := by
  rw [chg_chg]
  congr 1
  funext k sc
  unfold chgW dressW
  by_cases hk : k = 1
  · rw [if_pos hk, if_pos hk, if_pos hk, if_neg (by omega), List.take_succ_eq_append_getElem h, putsL_append]
    rfl
  · rw [if_neg hk, if_neg hk, if_neg hk]
theorem nameB_len {l : List UInt8} (h : nameB l = true) : l.length ≤ 12 := by
  unfold nameB at h
  simp only [Bool.or_eq_true, Bool.and_eq_true, beq_iff_eq, decide_eq_true_eq] at h
  rcases h with (h | h) | h
  · rw [h]; decide
  · rw [h]; decide
  · exact h.1.2
/-- sizes of valid forms, their scopes changed -/
theorem dressAll_sz {c : Int → List Int → List Int} : ∀ ks : List Fm, (∀ y ∈ ks, (y.chg c).sz + 1 ≤ 112 * y.count) → szAll (chgAll c ks) ≤ 112 * countAll ks
  | [], _ => by simp [chgAll, szAll]
  | f :: r, h => by
    have h1 := h f (by simp)
    have h2 := dressAll_sz r fun y hy => h y (by simp [hy])
    unfold chgAll szAll countAll
    omega
theorem dress_sz {c : Int → List Int → List Int} (hc : ∀ k sc, scopesB sc = true → (k ≠ 1 → sc = []) → (c k sc).length ≤ 99) (f : Fm) : ∀ d, isB d f = true → (f.chg c).sz + 1 ≤ 112 * f.count := by
  induction f using Fm.ind with
  | h k nm n sc ks ih =>
    intro d hd
    obtain ⟨h1, h2, h3⟩ := isB_node hd
    have hl := hc k sc h1 h2
    have hks := dressAll_sz ks fun y hy => by obtain ⟨d', hd'⟩ := h3 y hy; exact ih y hy d' hd'
    have hnm : nm.size ≤ 12 := by
      rw [size_len]
      cases d with
      | zero => simp [isB] at hd
      | succ d =>
        unfold isB at hd
        split at hd
        · simp only [Bool.and_eq_true] at hd
          exact nameB_len hd.1.1.1
        · split at hd
          · simp only [Bool.and_eq_true, List.isEmpty_iff] at hd
            rw [hd.1.1.1.1]; decide
          · simp only [Bool.and_eq_true, List.isEmpty_iff] at hd
            rw [hd.1.1.1.2]; decide
    unfold Fm.chg Fm.sz Fm.count
    omega
/-- what the scopes of a name make of a valid form -/
theorem dressW_len {ns : List Int} (hn : scopesB ns = true) (j : Nat) (k : Int) (sc : List Int) (hs : scopesB sc = true) : (dressW (ns.take j) k sc).length ≤ 99 := by
  have h1 : GoodS sc := goodS_of hs
  unfold dressW
  split
  · exact (h1.puts fun n hm => (goodS_of hn).2 n (List.mem_of_mem_take hm)).length
  · exact h1.length
theorem dress_szT {ns : List Int} (hn : scopesB ns = true) (f : Fm) (hf : formB f = true) (j : Nat) : (f.chg (dressW (ns.take j))).sz ≤ 1048576 := by
  have h := dress_sz (fun k sc h1 _ => dressW_len hn j k sc h1) f 40 (formB_isB hf)
  have hc : f.count ≤ 400 := by unfold formB at hf; simp only [Bool.and_eq_true, decide_eq_true_eq] at hf; exact hf.2
  omega
/-- the scopes of a form that reads -/
theorem InV.row3 {φ : Nat → Prop} {w : World} {g : Fm} {c0 c1 c2 c3 c4 : Value} (h : InV φ w g (.agg #[c0, c1, c2, c3, c4])) : IntRow φ w c3 g.scopes := by
  obtain ⟨k, nm, n, sc, ks⟩ := g
  unfold InV at h
  obtain ⟨vs, a, cap, he, _, _, _, hvs, _⟩ := h
  injection he with he
  injection he with he
  simp only [List.cons.injEq, and_true] at he
  obtain ⟨rfl, rfl, rfl, rfl, rfl⟩ := he
  exact hvs
/-- the model's dressing and the program's are the same at a valid form -/
theorem dress_same {ns : List Int} (f : Fm) (hf : formB f = true) : f.chg (dressW ns) = f.chg (dressF (fun own given => uniqL (own ++ given)) ns) := chg_congr (fun k sc h1 h2 => by
    unfold dressF dressW
    by_cases hk : k = 1
    · rw [if_pos hk, if_pos hk]; exact (uniqL_puts (ascL_of_scopesB h1) ns).symm
    · rw [if_neg hk, if_neg hk]; exact h2 hk) f 40 (formB_isB hf)
end
end Go.Proofs.Ytmakaoomdnlebaa
namespace Go.Proofs.Ytmakaoomdnlebaa
section
set_option linter.unusedVariables false
set_option linter.unusedSimpArgs false
theorem ascB_of : ∀ (l : List Int) (a : Int), AscL l → (∀ x ∈ l, a < x ∧ x ≤ 99) → ascB a l = true
  | [], _, _, _ => by simp [ascB]
  | x :: r, a, h, hb => by
    obtain ⟨h1, h2⟩ := List.pairwise_cons.1 h
    have h3 := hb x (by simp)
    simp only [ascB, Bool.and_eq_true]
    refine ⟨by simp; omega, ascB_of r x h2 fun y hy => ⟨h1 y hy, (hb y (by simp [hy])).2⟩⟩
theorem scopesB_of {l : List Int} (h1 : AscL l) (h2 : ∀ x ∈ l, 1 ≤ x ∧ x ≤ 99) (h3 : l.length ≤ 24) : scopesB l = true :=
  scopesB_yes l h3 (ascB_of l 0 h1 fun x hx => by have := h2 x hx; omega)
theorem scopesB_mem {l : List Int} (h : scopesB l = true) : ∀ x ∈ l, 1 ≤ x ∧ x ≤ 99 := fun x hx => by
  have := (goodS_of h).2 x hx
  omega
theorem scopesB_nil : scopesB [] = true := by unfold scopesB; simp [ascB]
/-- all nodes' scopes changed alike -/
theorem chg_on {c1 c2 : Int → List Int → List Int} (f : Fm) (h : ∀ g ∈ f.pre, c1 g.kind g.scopes = c2 g.kind g.scopes) : f.chg c1 = f.chg c2 := by
  induction f using Fm.ind with
  | h k nm n sc ks ih =>
    rw [pre_eq] at h
    have h1 := h (.mk k nm n sc ks) (by simp)
    simp only [Fm.kind, Fm.scopes] at h1
    unfold Fm.chg
    rw [h1, chgAll_congr ks fun y hy => ih y hy fun g hg => h g (List.mem_cons_of_mem _ (by
      show g ∈ preAll ks
      obtain ⟨s, t, rfl⟩ := List.append_of_mem hy
      rw [preAll_append]
      simp [preAll, hg]))]
theorem mem_preAll {g : Fm} : ∀ {ks : List Fm}, g ∈ preAll ks ↔ ∃ y ∈ ks, g ∈ y.pre
  | [] => by simp [preAll]
  | f :: r => by
    simp only [preAll, List.mem_append, mem_preAll (ks := r), List.mem_cons]
    constructor
    · rintro (h | ⟨y, hy, h⟩)
      · exact ⟨f, .inl rfl, h⟩
      · exact ⟨y, .inr hy, h⟩
    · rintro ⟨y, rfl | hy, h⟩
      · exact .inl h
      · exact .inr ⟨y, hy, h⟩
theorem isB_chg {c : Int → List Int → List Int} (hc : ∀ k sc, k ≠ 1 → c k sc = sc) (f : Fm) : ∀ d, isB d f = true → (isB d (f.chg c) = true ↔ ∀ g ∈ f.pre, scopesB (c g.kind g.scopes) = true) := by
  induction f using Fm.ind with
  | h k nm n sc ks ih =>
    intro d hd
    cases d with
    | zero => simp [isB] at hd
    | succ d =>
      rw [pre_eq]
      simp only [Fm.kids, List.forall_mem_cons, Fm.kind, Fm.scopes]
      unfold isB at hd
      unfold Fm.chg isB
      by_cases h1 : k = 1
      · rw [if_pos h1] at hd ⊢
        simp only [Bool.and_eq_true] at hd
        have hk : ks = [] := by simpa using hd.2
        subst hk
        simp only [chgAll, preAll, List.isEmpty_nil, Bool.and_true, Bool.and_eq_true]
        constructor
        · rintro h; exact ⟨h.2, by simp⟩
        · rintro ⟨h, _⟩; exact ⟨hd.1.1, h⟩
      · rw [if_neg h1] at hd ⊢
        rw [hc k sc h1]
        by_cases h2 : k = 2
        · rw [if_pos h2] at hd ⊢
          simp only [Bool.and_eq_true] at hd
          have hk : ks = [] := by simpa using hd.2
          have hs : sc = [] := by simpa using hd.1.2
          subst hk hs
          simp only [chgAll, preAll, List.isEmpty_nil, Bool.and_true, Bool.and_eq_true]
          constructor
          · intro _; exact ⟨scopesB_nil, by simp⟩
          · intro _; exact hd.1.1
        · rw [if_neg h2] at hd ⊢
          simp only [Bool.and_eq_true] at hd
          have hs : sc = [] := by simpa using hd.1.2
          subst hs
          simp only [Bool.and_eq_true]
          have hall := hd.2
          rw [List.all_eq_true] at hall
          have key : (chgAll c ks).all (isB d) = true ↔ ∀ g ∈ preAll ks, scopesB (c g.kind g.scopes) = true := by
            clear hd
            induction ks with
            | nil => simp [chgAll, preAll]
            | cons y r ih2 =>
              have e1 := ih y (by simp) d (hall y (by simp))
              have e2 := ih2 (fun g hg => ih g (by simp [hg])) (fun x hx => hall x (by simp [hx]))
              simp only [chgAll, List.all_cons, Bool.and_eq_true, preAll, List.forall_mem_append]
              rw [e1, e2]
          constructor
          · rintro h; exact ⟨scopesB_nil, key.1 h.2⟩
          · rintro ⟨_, h⟩; exact ⟨hd.1, key.2 h⟩
theorem formB_chg {c : Int → List Int → List Int} (hc : ∀ k sc, k ≠ 1 → c k sc = sc) {f : Fm} (hf : formB f = true) : formB (f.chg c) = true ↔ ∀ g ∈ f.pre, scopesB (c g.kind g.scopes) = true := by
  rw [← isB_chg hc f 40 (formB_isB hf)]
  unfold formB at hf ⊢
  rw [Bool.and_eq_true] at hf
  rw [chg_count, hf.2, Bool.and_true]
theorem pre_kind (f : Fm) : ∀ d, isB d f = true → ∀ g ∈ f.pre, g.kind ≠ 1 → g.scopes = [] := by
  induction f using Fm.ind with
  | h k nm n sc ks ih =>
    intro d hd g hg
    obtain ⟨_, h2, h3⟩ := isB_node hd
    rw [pre_eq] at hg
    rcases List.mem_cons.1 hg with rfl | hg
    · exact h2
    · obtain ⟨y, hy, hg⟩ := mem_preAll.1 hg
      obtain ⟨d', hd'⟩ := h3 y hy
      exact ih y hy d' hd' g hg
theorem valid_pre {f : Fm} (hf : formB f = true) {g : Fm} (hg : g ∈ f.pre) : scopesB g.scopes = true ∧ (g.kind ≠ 1 → g.scopes = []) :=
  ⟨pre_ok f 40 (formB_isB hf) g hg, pre_kind f 40 (formB_isB hf) g hg⟩
theorem chgW_other (way n : Int) (k : Int) (sc : List Int) (h : k ≠ 1) : chgW way n k sc = sc := by unfold chgW; rw [if_neg h]
/-- all steps keep the scopes of what is no name -/
def Steady (c : Int → List Int → List Int) : Prop := ∀ k sc, k ≠ 1 → c k sc = sc
theorem steady_W (way n : Int) : Steady (chgW way n) := fun k sc h => chgW_other way n k sc h
theorem Steady.comp {c1 c2 : Int → List Int → List Int} (h1 : Steady c1) (h2 : Steady c2) : Steady fun k sc => c2 k (c1 k sc) := fun k sc h => by
  show c2 k (c1 k sc) = sc
  rw [h1 k sc h, h2 k sc h]
/-- what holds of each name's scopes holds of the form -/
theorem valid_to {c1 c2 : Int → List Int → List Int} (h1 : Steady c1) (h2 : Steady c2) {f : Fm} (hf : formB f = true) (hv : formB (f.chg c1) = true)
    (h : ∀ sc, scopesB sc = true → scopesB (c1 1 sc) = true → scopesB (c2 1 sc) = true) : formB (f.chg c2) = true := by
  rw [formB_chg h2 hf]
  rw [formB_chg h1 hf] at hv
  intro g hg
  obtain ⟨a, b⟩ := valid_pre hf hg
  by_cases hk : g.kind = 1
  · have := hv g hg
    rw [hk] at this ⊢
    exact h _ a this
  · rw [h2 _ _ hk]; exact a
theorem same_to {c1 c2 c3 : Int → List Int → List Int} (h1 : Steady c1) (h2 : Steady c2) (h3 : Steady c3) {f : Fm} (hf : formB f = true) (hv : formB (f.chg c1) = true)
    (h : ∀ sc, scopesB sc = true → scopesB (c1 1 sc) = true → c2 1 sc = c3 1 sc) : f.chg c2 = f.chg c3 := by
  rw [formB_chg h1 hf] at hv
  refine chg_on f fun g hg => ?_
  obtain ⟨a, b⟩ := valid_pre hf hg
  by_cases hk : g.kind = 1
  · have := hv g hg
    rw [hk] at this ⊢
    exact h _ a this
  · rw [h2 _ _ hk, h3 _ _ hk]
theorem steady_id : Steady fun _ sc => sc := fun _ _ _ => rfl
theorem chg_id (f : Fm) : f.chg (fun _ sc => sc) = f := chg_same (fun _ _ => rfl) f
-- one name's scopes
theorem addW (n : Int) (sc : List Int) : chgW 0 n 1 sc = putL sc n := by unfold chgW; rw [if_pos rfl, if_neg (by omega)]
theorem dropW (n : Int) (sc : List Int) : chgW 2 n 1 sc = sc.filter (· != n) := by unfold chgW; rw [if_pos rfl, if_pos (.inl rfl)]
theorem flipW_yes {n : Int} {sc : List Int} (h : n ∈ sc) : chgW 1 n 1 sc = sc.filter (· != n) := by unfold chgW; rw [if_pos rfl, if_pos (.inr ⟨rfl, (hasB_iff _ _).2 h⟩)]
theorem flipW_no {n : Int} {sc : List Int} (h : n ∉ sc) : chgW 1 n 1 sc = putL sc n := by
  unfold chgW
  rw [if_pos rfl, if_neg (by rintro (h' | ⟨_, h'⟩); omega; exact h ((hasB_iff _ _).1 h'))]
theorem W_asc {sc : List Int} (h : AscL sc) (way n : Int) : AscL (chgW way n 1 sc) := by
  unfold chgW
  rw [if_pos rfl]
  split
  · exact h.filter _
  · exact putL_asc h n
theorem mem_drop (sc : List Int) (n x : Int) : x ∈ chgW 2 n 1 sc ↔ x ∈ sc ∧ x ≠ n := by rw [dropW, List.mem_filter]; simp
theorem mem_add (sc : List Int) (n x : Int) : x ∈ chgW 0 n 1 sc ↔ x = n ∨ x ∈ sc := by rw [addW]; exact mem_putL sc n x
theorem mem_flip (sc : List Int) (n x : Int) : x ∈ chgW 1 n 1 sc ↔ ((x ∈ sc ∧ x ≠ n) ∨ (x = n ∧ n ∉ sc)) := by
  by_cases h : n ∈ sc
  · rw [flipW_yes h, List.mem_filter]
    simp [h]
  · rw [flipW_no h, mem_putL]
    constructor
    · rintro (rfl | hx)
      · exact .inr ⟨rfl, h⟩
      · exact .inl ⟨hx, fun e => h (e ▸ hx)⟩
    · rintro (⟨hx, _⟩ | ⟨rfl, _⟩)
      · exact .inr hx
      · exact .inl rfl
theorem flip_flip (n : Int) {sc : List Int} (h : AscL sc) : chgW 1 n 1 (chgW 1 n 1 sc) = sc :=
  ascL_ext (W_asc (W_asc h 1 n) 1 n) h fun x => by
    rw [mem_flip, mem_flip, mem_flip]
    by_cases hx : x = n <;> by_cases hn : n ∈ sc <;> simp_all
theorem flip_comm (n m : Int) {sc : List Int} (h : AscL sc) : chgW 1 m 1 (chgW 1 n 1 sc) = chgW 1 n 1 (chgW 1 m 1 sc) :=
  ascL_ext (W_asc (W_asc h 1 n) 1 m) (W_asc (W_asc h 1 m) 1 n) fun x => by
    rw [mem_flip, mem_flip, mem_flip, mem_flip, mem_flip, mem_flip]
    by_cases hx : x = n <;> by_cases hm : x = m <;> by_cases hn : n ∈ sc <;> by_cases hms : m ∈ sc <;> by_cases hnm : n = m <;> simp_all
theorem add_comm' (n m : Int) {sc : List Int} (h : AscL sc) : chgW 0 m 1 (chgW 0 n 1 sc) = chgW 0 n 1 (chgW 0 m 1 sc) :=
  ascL_ext (W_asc (W_asc h 0 n) 0 m) (W_asc (W_asc h 0 m) 0 n) fun x => by
    rw [mem_add, mem_add, mem_add, mem_add]
    constructor <;> rintro (h | h | h) <;> simp [h]
theorem add_add (n : Int) {sc : List Int} (h : AscL sc) : chgW 0 n 1 (chgW 0 n 1 sc) = chgW 0 n 1 sc :=
  ascL_ext (W_asc (W_asc h 0 n) 0 n) (W_asc h 0 n) fun x => by
    rw [mem_add, mem_add]
    simp
theorem drop_add (n : Int) {sc : List Int} (h : AscL sc) : chgW 2 n 1 (chgW 0 n 1 sc) = chgW 2 n 1 sc :=
  ascL_ext (W_asc (W_asc h 0 n) 2 n) (W_asc h 2 n) fun x => by
    rw [mem_drop, mem_add, mem_drop]
    constructor
    · rintro ⟨h1 | h1, h2⟩
      · exact absurd h1 h2
      · exact ⟨h1, h2⟩
    · rintro ⟨h1, h2⟩; exact ⟨.inr h1, h2⟩
theorem flip_drop (n : Int) {sc : List Int} (h : AscL sc) : chgW 1 n 1 (chgW 2 n 1 sc) = chgW 0 n 1 (chgW 2 n 1 sc) := by
  rw [flipW_no (fun hm => ((mem_drop _ _ _).1 hm).2 rfl), addW]
theorem drop_drop (n m : Int) {sc : List Int} (h : AscL sc) : chgW 2 n 1 (chgW 2 m 1 sc) = chgW 2 m 1 (chgW 2 n 1 sc) :=
  ascL_ext (W_asc (W_asc h 2 m) 2 n) (W_asc (W_asc h 2 n) 2 m) fun x => by
    rw [mem_drop, mem_drop, mem_drop, mem_drop]
    constructor <;> rintro ⟨⟨h1, h2⟩, h3⟩ <;> exact ⟨⟨h1, h3⟩, h2⟩
theorem drop_valid (n : Int) {sc : List Int} (h : scopesB sc = true) : scopesB (chgW 2 n 1 sc) = true :=
  scopesB_of (W_asc (ascL_of_scopesB h) 2 n) (fun x hx => scopesB_mem h x ((mem_drop _ _ _).1 hx).1) (by rw [dropW]; exact Nat.le_trans (List.length_filter_le _ _) (scopes_length h))
/-- dropping and adding, where flipping is fine -/
theorem back_valid (n : Int) {sc : List Int} (h : scopesB sc = true) (hv : scopesB (chgW 1 n 1 sc) = true) : scopesB (chgW 0 n 1 (chgW 2 n 1 sc)) = true := by
  by_cases hn : n ∈ sc
  · have e : chgW 0 n 1 (chgW 2 n 1 sc) = sc := ascL_ext (W_asc (W_asc (ascL_of_scopesB h) 2 n) 0 n) (ascL_of_scopesB h) fun x => by
      rw [mem_add, mem_drop]
      by_cases hx : x = n <;> simp_all
    rw [e]; exact h
  · have e : chgW 0 n 1 (chgW 2 n 1 sc) = chgW 1 n 1 sc := ascL_ext (W_asc (W_asc (ascL_of_scopesB h) 2 n) 0 n) (W_asc (ascL_of_scopesB h) 1 n) fun x => by
      rw [mem_add, mem_drop, mem_flip]
      by_cases hx : x = n <;> simp_all
    rw [e]; exact hv
-- forms
theorem doneB_parts {f g : Fm} {n : Int} (h : doneB f g n = true) : formB f = true ∧ (1 ≤ n ∧ n ≤ 99) ∧ formB g = true := by
  unfold doneB at h
  simp only [Bool.and_eq_true, decide_eq_true_eq] at h
  exact ⟨h.1, h.2.1, h.2.2⟩
theorem doneB_of {f g : Fm} {n : Int} (h1 : formB f = true) (h2 : 1 ≤ n ∧ n ≤ 99) (h3 : formB g = true) : doneB f g n = true := by
  unfold doneB
  rw [h1, h3, decide_eq_true h2]; rfl
/-- a form changed by one scope, if all is well -/
def afterF (way n : Int) (f : Fm) : Fm := if doneB f (f.chg (chgW way n)) n = true then f.chg (chgW way n) else zeroForm
def okF2 (way n : Int) (f : Fm) : Bool := doneB f (f.chg (chgW way n)) n
theorem afterF_ok {way n : Int} {f : Fm} (h : okF2 way n f = true) : afterF way n f = f.chg (chgW way n) := by unfold afterF; exact if_pos h
theorem chg2_chg (way1 n1 way2 n2 : Int) (f : Fm) : (f.chg (chgW way1 n1)).chg (chgW way2 n2) = f.chg fun k sc => chgW way2 n2 k (chgW way1 n1 k sc) := chg_chg f
theorem flip_twice {n : Int} {f : Fm} (h : okF2 1 n f = true) : okF2 1 n (afterF 1 n f) = true ∧ afterF 1 n (afterF 1 n f) = f := by
  rw [afterF_ok h]
  obtain ⟨h1, h2, h3⟩ := doneB_parts h
  have e : (f.chg (chgW 1 n)).chg (chgW 1 n) = f := by
    rw [chg2_chg, same_to (steady_W 1 n) ((steady_W 1 n).comp (steady_W 1 n)) steady_id h1 h3 fun sc a _ => flip_flip n (ascL_of_scopesB a), chg_id]
  have ok : okF2 1 n (f.chg (chgW 1 n)) = true := doneB_of h3 h2 (by rw [e]; exact h1)
  exact ⟨ok, by rw [afterF_ok ok, e]⟩
theorem drop_ok {n : Int} {f : Fm} (h1 : formB f = true) (h2 : 1 ≤ n ∧ n ≤ 99) : okF2 2 n f = true :=
  doneB_of h1 h2 (valid_to steady_id (steady_W 2 n) h1 (by rw [chg_id]; exact h1) fun sc a _ => drop_valid n a)
theorem flip_is_add {n : Int} {f : Fm} (h : okF2 1 n f = true) : okF2 0 n (afterF 2 n f) = true ∧ okF2 1 n (afterF 2 n f) = true ∧ afterF 1 n (afterF 2 n f) = afterF 0 n (afterF 2 n f) := by
  obtain ⟨h1, h2, h3⟩ := doneB_parts h
  have hd := drop_ok h1 h2
  rw [afterF_ok hd]
  have hv := (doneB_parts hd).2.2
  have e : (f.chg (chgW 2 n)).chg (chgW 1 n) = (f.chg (chgW 2 n)).chg (chgW 0 n) := by
    rw [chg2_chg, chg2_chg]
    exact same_to (steady_W 2 n) ((steady_W 2 n).comp (steady_W 1 n)) ((steady_W 2 n).comp (steady_W 0 n)) h1 hv fun sc a _ => flip_drop n (ascL_of_scopesB a)
  have ok0 : okF2 0 n (f.chg (chgW 2 n)) = true := doneB_of hv h2 (by
    rw [chg2_chg]
    exact valid_to (steady_W 1 n) ((steady_W 2 n).comp (steady_W 0 n)) h1 h3 fun sc a b => back_valid n a b)
  have ok1 : okF2 1 n (f.chg (chgW 2 n)) = true := doneB_of hv h2 (by rw [e]; exact (doneB_parts ok0).2.2)
  exact ⟨ok0, ok1, by rw [afterF_ok ok1, afterF_ok ok0, e]⟩
theorem order_any {way n m : Int} (hc : ∀ sc, AscL sc → chgW way m 1 (chgW way n 1 sc) = chgW way n 1 (chgW way m 1 sc)) {f : Fm} (h : okF2 way n f = true) (hp : okF2 way m (afterF way n f) = true) (hq : okF2 way m f = true) :
    okF2 way n (afterF way m f) = true ∧ afterF way m (afterF way n f) = afterF way n (afterF way m f) := by
  have a1 := afterF_ok hp
  have a2 := afterF_ok hq
  rw [afterF_ok h] at hp a1
  obtain ⟨h1, h2, h3⟩ := doneB_parts h
  obtain ⟨_, h4, h5⟩ := doneB_parts hp
  obtain ⟨_, _, h6⟩ := doneB_parts hq
  have e : (f.chg (chgW way n)).chg (chgW way m) = (f.chg (chgW way m)).chg (chgW way n) := by
    rw [chg2_chg, chg2_chg]
    exact same_to (steady_W way n) ((steady_W way n).comp (steady_W way m)) ((steady_W way m).comp (steady_W way n)) h1 h3 fun sc a _ => hc sc (ascL_of_scopesB a)
  have ok : okF2 way n (f.chg (chgW way m)) = true := doneB_of h6 h2 (by rw [← e]; exact h5)
  rw [afterF_ok h, a2]
  exact ⟨ok, by rw [a1, e, afterF_ok ok]⟩
theorem add_again {n : Int} {f : Fm} (h : okF2 0 n f = true) : okF2 0 n (afterF 0 n f) = true ∧ afterF 0 n (afterF 0 n f) = afterF 0 n f := by
  rw [afterF_ok h]
  obtain ⟨h1, h2, h3⟩ := doneB_parts h
  have e : (f.chg (chgW 0 n)).chg (chgW 0 n) = f.chg (chgW 0 n) := by
    rw [chg2_chg]
    exact same_to (steady_W 0 n) ((steady_W 0 n).comp (steady_W 0 n)) (steady_W 0 n) h1 h3 fun sc a _ => add_add n (ascL_of_scopesB a)
  have ok : okF2 0 n (f.chg (chgW 0 n)) = true := doneB_of h3 h2 (by rw [e]; exact h3)
  exact ⟨ok, by rw [afterF_ok ok, e]⟩
theorem drop_of_add {n : Int} {f : Fm} (hx : okF2 2 n f = true) (h : okF2 0 n f = true) : okF2 2 n (afterF 0 n f) = true ∧ afterF 2 n (afterF 0 n f) = afterF 2 n f := by
  rw [afterF_ok h, afterF_ok hx]
  obtain ⟨h1, h2, h3⟩ := doneB_parts h
  have e : (f.chg (chgW 0 n)).chg (chgW 2 n) = f.chg (chgW 2 n) := by
    rw [chg2_chg]
    exact same_to (steady_W 0 n) ((steady_W 0 n).comp (steady_W 2 n)) (steady_W 2 n) h1 h3 fun sc a _ => drop_add n (ascL_of_scopesB a)
  have ok : okF2 2 n (f.chg (chgW 0 n)) = true := drop_ok h3 h2
  exact ⟨ok, by rw [afterF_ok ok, e]⟩
theorem strip_after (way n : Int) (f : Fm) (h : okF2 way n f = true) : (afterF way n f).chg (fun _ _ => []) = f.chg fun _ _ => [] := by rw [afterF_ok h, chg_chg]
-- scopes and names of a form
theorem mem_foldS : ∀ (V : List Fm) (out : List Int) (x : Int), x ∈ foldS out V ↔ x ∈ out ∨ ∃ g ∈ V, x ∈ g.scopes
  | [], out, x => by simp [foldS]
  | g :: V, out, x => by
    have := mem_foldS V (putsL out g.scopes) x
    unfold foldS at this ⊢
    rw [List.foldl_cons, this, mem_putsL]
    constructor
    · rintro ((h | h) | ⟨y, hy, h⟩)
      · exact .inl h
      · exact .inr ⟨g, by simp, h⟩
      · exact .inr ⟨y, by simp [hy], h⟩
    · rintro (h | ⟨y, hy, h⟩)
      · exact .inl (.inl h)
      · rcases List.mem_cons.1 hy with rfl | hy
        · exact .inl (.inr h)
        · exact .inr ⟨y, hy, h⟩
mutual
theorem pre_chg (c : Int → List Int → List Int) : ∀ f : Fm, (f.chg c).pre = f.pre.map fun g => g.chg c
  | .mk k nm n sc ks => by simp only [Fm.chg, Fm.pre, List.map_cons, preAll_chg c ks]
theorem preAll_chg (c : Int → List Int → List Int) : ∀ ks : List Fm, preAll (chgAll c ks) = (preAll ks).map fun g => g.chg c
  | [] => by simp [chgAll, preAll]
  | f :: r => by simp only [chgAll, preAll, List.map_append, pre_chg c f, preAll_chg c r]
end
theorem scopes_chg (c : Int → List Int → List Int) (g : Fm) : (g.chg c).scopes = c g.kind g.scopes := by cases g; rfl
end
end Go.Proofs.Ytmakaoomdnlebaa
