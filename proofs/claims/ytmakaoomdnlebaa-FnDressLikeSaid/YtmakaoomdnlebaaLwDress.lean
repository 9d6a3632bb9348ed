/- What laws on dressing call, told in one way; what a dressed form is. -/
import Derived.Test.YtmakaoomdnlebaaLwScopes
import Derived.Test.YtmakaoomdnlebaaSpecDress
import Derived.Test.YtmakaoomdnlebaaImplDress
import Derived.Test.YtmakaoomdnlebaaName
namespace Go.Proofs.Ytmakaoomdnlebaa
open Go.RowKit
set_option linter.unusedVariables false
set_option linter.unusedSimpArgs false
/-- a form dressed like a name, if all is well -/
def dressedF (f g : Fm) : Fm := if dressB f g = true then f.chg (dressW g.scopes) else zeroForm
theorem dress_ways (f g : Fm) : dressB f g = (isNameB g && redB (fun own given => uniqL (own ++ given)) g.scopes f) ∧
    (dressB f g = true → f.chg (dressW g.scopes) = f.chg (dressF (fun own given => uniqL (own ++ given)) g.scopes)) := by
  constructor
  · unfold dressB isNameB redB
    cases hf : formB f with
    | false => simp
    | true =>
      cases hg : formB g with
      | false => simp
      | true =>
        rw [dress_same f hf, name_scopes hg]
        simp
  · intro h
    unfold dressB at h
    rw [Bool.and_eq_true] at h
    exact dress_same f h.1
theorem dressed_count (f g : Fm) : (dressedF f g).count ≤ f.count := by
  have := f.count_pos
  unfold dressedF
  split
  · rw [chg_count]; exact Nat.le_refl _
  · simp [zeroForm, Fm.count, countAll]; omega
theorem dressed_eq {f g R : Fm} {ok : Bool} (hok : dressB f g = ok) (hR : dressedF f g = R) : (if ok = true then f.chg (dressW g.scopes) else zeroForm) = R := by
  rw [← hR, ← hok]; rfl
theorem implDress_law (f g : Fm) (v u : Value) (w : World) (hv : InV (· < w.heap.size) w f v) (hu : InV (· < w.heap.size) w g u) (hsz : f.sz ≤ 1048576) (ok : Bool) (R : Fm) (hok : dressB f g = ok) (hR : dressedF f g = R) :
    Calls Try.prog 36 #[v, u] w (FlagPost R ok w) := by
  have h := dress_ways f g
  have h1 := h.1.symm.trans hok
  refine (implDress_any f g v u w hv hu hsz ok R h1 ?_).mono fun e w' hp => FlagPost.of_own ?_ hp
  · rw [← dressed_eq hok hR]
    cases ok with
    | false => rfl
    | true => rw [if_pos rfl, if_pos rfl, h.2 hok]
  · have h2 := dressed_count f g
    have h3 := f.count_le
    rw [hR] at h2
    omega
theorem specDress_law (f g : Fm) (v u : Value) (w : World) (hv : InV (· < w.heap.size) w f v) (hu : InV (· < w.heap.size) w g u) (hsz : f.sz ≤ 1048576) (hszg : g.sz ≤ 1048576) (ok : Bool) (R : Fm) (hok : dressB f g = ok) (hR : dressedF f g = R) :
    Calls Try.prog 37 #[v, u] w fun e w' => ∃ sa scap a cap, e = .returned (.tuple #[.agg #[.int .i64 R.kind, .string R.name, .int .i64 R.n, .slice sa R.scopes.length scap, .slice a R.kids.length cap], .bool ok]) ∧ InV (fun k => w.heap.size ≤ k ∧ k < w'.heap.size) w' R (.agg #[.int .i64 R.kind, .string R.name, .int .i64 R.n, .slice sa R.scopes.length scap, .slice a R.kids.length cap]) ∧ Below w.heap.size w w' := by
  refine (specDress_any w.heap.size f g v u w (Nat.le_refl _) hv hu hsz hszg ok R hok (dressed_eq hok hR)).mono ?_
  rintro e w' ⟨u, rfl, hu, hb⟩
  obtain ⟨sa, scap, a, cap, rfl⟩ := hu.form
  exact ⟨sa, scap, a, cap, rfl, hu, hb⟩
theorem implSameName_law (f g : Fm) (v u : Value) (w : World) (hv : InV (· < w.heap.size) w f v) (hu : InV (· < w.heap.size) w g u) (ok : Bool) (hok : sameNameB f g = ok) :
    Calls Try.prog 33 #[v, u] w fun e w' => e = .returned (.bool ok) ∧ Below w.heap.size w w' := by
  rw [← hok]
  exact implSameName_any w.heap.size f g v u w (Nat.le_refl _) hv hu
theorem specSameName_law (f g : Fm) (v u : Value) (w : World) (hv : InV (· < w.heap.size) w f v) (hu : InV (· < w.heap.size) w g u) (hf : f.sz ≤ 1048576) (hg : g.sz ≤ 1048576) (ok : Bool) (hok : sameNameB f g = ok) :
    Calls Try.prog 34 #[v, u] w fun e w' => e = .returned (.bool ok) ∧ Below w.heap.size w w' := by
  rw [← hok]
  have h1 := f.count_le
  have h2 := g.count_le
  exact specSameName_any w.heap.size f g v u w (Nat.le_refl _) hv hu (by omega) (by omega)
theorem sameName_eq {f g : Fm} (h : sameNameB f g = true) : f = g ∧ formB f = true ∧ f.kind = 1 := by
  unfold sameNameB isNameB at h
  simp only [Bool.and_eq_true, beq_iff_eq] at h
  exact ⟨sameB_eq h.2, h.1.2, h.1.1⟩
theorem sameName_self {f : Fm} (h : formB f = true) (hk : f.kind = 1) : sameNameB f f = true := by
  unfold sameNameB isNameB
  rw [h, hk, sameB_refl]; rfl
theorem sameName_comm (f g : Fm) : sameNameB g f = sameNameB f g := by
  rw [Bool.eq_iff_iff]
  constructor
  · intro h
    obtain ⟨e, h1, h2⟩ := sameName_eq h
    rw [e] at h1 h2 ⊢
    exact sameName_self h1 h2
  · intro h
    obtain ⟨e, h1, h2⟩ := sameName_eq h
    rw [e] at h1 h2 ⊢
    exact sameName_self h1 h2
theorem insL_length (n : Int) : ∀ l : List Int, (insL n l).length = l.length + 1
  | [] => rfl
  | x :: r => by
    unfold insL
    split
    · rfl
    · simp [insL_length n r]
theorem putL_length (l : List Int) (n : Int) : (putL l n).length ≤ l.length + 1 := by
  rw [putL_eq]
  split
  · omega
  · rw [insL_length]; exact Nat.le_refl _
theorem name_kids {g : Fm} (h : formB g = true) (hk : g.kind = 1) : g.kids = [] := by
  cases g with
  | mk k nm n sc ks =>
    have h1 := formB_isB h
    simp only [Fm.kind] at hk
    subst hk
    unfold isB at h1
    rw [if_pos rfl] at h1
    simp only [Bool.and_eq_true] at h1
    show ks = []
    simpa using h1.2
/-- a name with few scopes can have one more -/
theorem add_name {f : Fm} {n : Int} (h : formB f = true) (hk : f.kind = 1) (hn : 1 ≤ n ∧ n ≤ 99) (hl : f.scopes.length ≤ 23) : okF2 0 n f = true := by
  refine doneB_of h hn ?_
  rw [formB_chg (steady_W 0 n) h]
  intro g hg
  rw [pre_eq, name_kids h hk] at hg
  simp only [preAll, List.mem_singleton] at hg
  subst hg
  have hs := (valid_pre h (g := g) (by rw [pre_eq]; simp)).1
  rw [hk, addW]
  refine scopesB_of (putL_asc (ascL_of_scopesB hs) n) (fun x hx => ?_) (by have := putL_length g.scopes n; omega)
  rcases (mem_putL _ _ _).1 hx with rfl | hx
  · exact hn
  · exact scopesB_mem hs x hx
theorem steady_dress (ns : List Int) : Steady (dressW ns) := fun k sc h => by unfold dressW; rw [if_neg h]
theorem dressW_one (ns sc : List Int) : dressW ns 1 sc = putsL sc ns := by unfold dressW; rw [if_pos rfl]
theorem dressB_parts {f g : Fm} (h : dressB f g = true) : formB f = true ∧ formB g = true ∧ g.kind = 1 ∧ formB (f.chg (dressW g.scopes)) = true := by
  unfold dressB at h
  simp only [Bool.and_eq_true, beq_iff_eq] at h
  exact ⟨h.1, h.2.1, h.2.2.1, h.2.2.2⟩
theorem dressB_of {f g : Fm} (h1 : formB f = true) (h2 : formB g = true) (h3 : g.kind = 1) (h4 : formB (f.chg (dressW g.scopes)) = true) : dressB f g = true := by
  unfold dressB
  rw [h1, h2, h3, h4]; rfl
/-- dressing is final -/
theorem dress_again {f g R : Fm} (h : dressB f g = true) (hR : dressedF f g = R) : dressB R g = true ∧ dressedF R g = R ∧ formB R = true := by
  obtain ⟨h1, h2, h3, h4⟩ := dressB_parts h
  have e : R = f.chg (dressW g.scopes) := by rw [← hR]; unfold dressedF; rw [if_pos h]
  have e2 : R.chg (dressW g.scopes) = R := by
    rw [e, chg_chg]
    refine same_to (steady_dress g.scopes) ((steady_dress g.scopes).comp (steady_dress g.scopes)) (steady_dress g.scopes) h1 h4 fun sc a _ => ?_
    rw [dressW_one, dressW_one]
    exact ascL_ext (putsL_asc _ (putsL_asc _ (ascL_of_scopesB a))) (putsL_asc _ (ascL_of_scopesB a)) fun x => by
      rw [mem_putsL, mem_putsL]
      constructor
      · rintro (h | h)
        · exact h
        · exact .inr h
      · rintro h; exact .inl h
  have ok : dressB R g = true := dressB_of (by rw [e]; exact h4) h2 h3 (by rw [e2, e]; exact h4)
  exact ⟨ok, by unfold dressedF; rw [if_pos ok]; exact e2, by rw [e]; exact h4⟩
/-- a name that is dressed like itself -/
theorem dress_own {f g : Fm} (h : dressB f g = true) : dressB g g = true ∧ dressedF g g = g ∧ sameNameB g g = true := by
  obtain ⟨h1, h2, h3, h4⟩ := dressB_parts h
  have hk := name_kids h2 h3
  have e : g.chg (dressW g.scopes) = g := by
    have h5 : g.chg (dressW g.scopes) = g.chg fun _ sc => sc := by
      refine chg_on g fun x hx => ?_
      rw [pre_eq, hk] at hx
      simp only [preAll, List.mem_singleton] at hx
      subst hx
      rw [h3, dressW_one]
      exact ascL_ext (putsL_asc _ (ascL_of_scopesB (name_scopes h2))) (ascL_of_scopesB (name_scopes h2)) fun y => by
        rw [mem_putsL]; simp
    rw [h5, chg_id]
  have ok : dressB g g = true := dressB_of h2 h2 h3 (by rw [e]; exact h2)
  refine ⟨ok, by unfold dressedF; rw [if_pos ok]; exact e, ?_⟩
  unfold sameNameB isNameB
  rw [h3, h2, sameB_refl]; rfl
end Go.Proofs.Ytmakaoomdnlebaa
