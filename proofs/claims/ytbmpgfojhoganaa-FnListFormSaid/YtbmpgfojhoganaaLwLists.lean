/- Lists of forms, as laws read them. -/
import Derived.Test.YtbmpgfojhoganaaLwParts
import Derived.Test.YtbmpgfojhoganaaListForm
import Derived.Test.YtbmpgfojhoganaaDrawList
namespace Go.Proofs.Ytbmpgfojhoganaa
open Go.RowKit
set_option linter.unusedVariables false
set_option linter.unusedSimpArgs false
theorem forms_up {ks : List Fm} {a : Option Addr} {cap : Nat} {w w' : World} (h : FormsIn (· < w.heap.size) w a cap ks) (hb : Below w.heap.size w w') : FormsIn (· < w'.heap.size) w' a cap ks := by
  refine ⟨h.1, h.2.1, ?_⟩
  rcases h.2.2 with h | ⟨b, off, e1, e2, h⟩
  · exact .inl h
  · exact .inr ⟨b, off, e1, Nat.lt_of_lt_of_le e2 hb.size, RowIn.mono (fun k hk => Nat.lt_of_lt_of_le hk hb.size) b off ks (h.later (same_below hb) b e2)⟩
theorem list_cells {ks : List Fm} {a : Option Addr} {cap : Nat} {w : World} (h : FormsIn (· < w.heap.size) w a cap ks) (j : Nat) (hj : j < ks.length) :
    ∃ b o ka kb kc kd, a = some ⟨b, o, none⟩ ∧ ks.length ≤ cap ∧ KidBox w b (o + j * 5) ks[j] ka kb kc kd ∧ InV (· < w.heap.size) w ks[j] (.agg #[.int .i64 ks[j].kind, .string ks[j].name, .int .i64 ks[j].n, .slice ka ks[j].scopes.length kb, .slice kc ks[j].kids.length kd]) := by
  rcases h.2.2 with h3 | ⟨b, o, rfl, hb, h3⟩
  · rw [h3] at hj; simp at hj
  · obtain ⟨ka, kb, kc, kd, c0, c1, c2, c3, c4, hin⟩ := RowIn.at' h3 j hj
    exact ⟨b, o, ka, kb, kc, kd, rfl, h.1, ⟨c0, c1, c2, c3, c4⟩, hin⟩
theorem listFm_count {ks : List Fm} {ok : Bool} {R : Fm} (hR : (if ok = true then listFm ks else zeroForm) = R) : R.count ≤ countAll ks + 1 := by
  rw [← hR]
  split
  · simp [listFm, Fm.count]
  · simp [zeroForm, Fm.count, countAll]
theorem countAll_sz : ∀ ks : List Fm, countAll ks ≤ 2 * szAll ks + ks.length
  | [] => by simp [countAll]
  | f :: r => by
    have h1 := countAll_sz r
    have h2 := f.count_le
    simp only [countAll, szAll, List.length_cons]
    cases f with
    | mk k nm n sc ks =>
      simp only [Fm.sz, Fm.count] at *
      omega
theorem implListForm_law (ks : List Fm) (pa : Option Addr) (pc : Nat) (w : World) (hv : FormsIn (· < w.heap.size) w pa pc ks) (hsz : szAll ks ≤ 1048576) (hc : countAll ks ≤ 1048576) (ok : Bool) (R : Fm) (hok : formB (listFm ks) = ok) (hR : (if ok = true then listFm ks else zeroForm) = R) :
    Calls Try.prog 22 #[.slice pa ks.length pc] w fun e w' => ∃ sa scap a cap, e = .returned (.tuple #[.agg #[.int .i64 R.kind, .string R.name, .int .i64 R.n, .slice sa R.scopes.length scap, .slice a R.kids.length cap], .bool ok]) ∧ InV (fun k => w.heap.size ≤ k ∧ k < w'.heap.size) w' R (.agg #[.int .i64 R.kind, .string R.name, .int .i64 R.n, .slice sa R.scopes.length scap, .slice a R.kids.length cap]) ∧ EndlessAt (.agg #[.int .i64 R.kind, .string R.name, .int .i64 R.n, .slice sa R.scopes.length scap, .slice a R.kids.length cap]) w' ∧ Below w.heap.size w w' := by
  have hcR := listFm_count hR
  refine (implListForm_any w.heap.size ks pa pc w (Nat.le_refl _) hv hsz ok R hok hR).mono ?_
  rintro e w' ⟨sa, scap, a, cap, bs, rfl, hown, hnew, hpl, hb⟩
  exact ⟨sa, scap, a, cap, rfl, OwnV.inV _ _ bs (fun c hm => hnew.2 c hm) hown, endlessAt_own _ _ bs w' hown hnew.1 (fun c hm => (hnew.2 c hm).2) hpl (by omega), hb⟩
theorem specListForm_law (ks : List Fm) (pa : Option Addr) (pc : Nat) (w : World) (hv : FormsIn (· < w.heap.size) w pa pc ks) (hsz : szAll ks ≤ 1048576) (ok : Bool) (R : Fm) (hok : formB (listFm ks) = ok) (hR : (if ok = true then listFm ks else zeroForm) = R) :
    Calls Try.prog 23 #[.slice pa ks.length pc] w fun e w' => ∃ sa scap a cap, e = .returned (.tuple #[.agg #[.int .i64 R.kind, .string R.name, .int .i64 R.n, .slice sa R.scopes.length scap, .slice a R.kids.length cap], .bool ok]) ∧ InV (fun k => w.heap.size ≤ k ∧ k < w'.heap.size) w' R (.agg #[.int .i64 R.kind, .string R.name, .int .i64 R.n, .slice sa R.scopes.length scap, .slice a R.kids.length cap]) ∧ Below w.heap.size w w' := by
  refine (specListForm_any w.heap.size ks pa pc w (Nat.le_refl _) hv hsz ok R hok hR).mono ?_
  rintro e w' ⟨v, rfl, hin, hb⟩
  obtain ⟨sa, scap, a, cap, rfl⟩ := hin.form
  exact ⟨sa, scap, a, cap, rfl, hin, hb⟩
/-- the drawn list is small -/
theorem list_small {ks : List Fm} (hl : ks.length ≤ 3) (hs : ∀ g ∈ ks, Slim 121 13 4 g) : szAll ks ≤ 1048576 ∧ countAll ks ≤ 363 := by
  match ks, hl, hs with
  | [], _, _ => exact ⟨by simp [szAll], by simp [countAll]⟩
  | [a], _, hs =>
    have h1 := (hs a (by simp)).sz
    have h2 := (hs a (by simp)).1
    exact ⟨by simp [szAll]; omega, by simp [countAll]; omega⟩
  | [a, b], _, hs =>
    have h1 := (hs a (by simp)).sz
    have h2 := (hs a (by simp)).1
    have h3 := (hs b (by simp)).sz
    have h4 := (hs b (by simp)).1
    exact ⟨by simp [szAll]; omega, by simp [countAll]; omega⟩
  | [a, b, c], _, hs =>
    have h1 := (hs a (by simp)).sz
    have h2 := (hs a (by simp)).1
    have h3 := (hs b (by simp)).sz
    have h4 := (hs b (by simp)).1
    have h5 := (hs c (by simp)).sz
    have h6 := (hs c (by simp)).1
    exact ⟨by simp [szAll]; omega, by simp [countAll]; omega⟩
  | _ :: _ :: _ :: _ :: _, hl, _ => simp at hl
theorem list_kid {ks : List Fm} (h : formB (listFm ks) = true) {y : Fm} (hy : y ∈ ks) : formB y = true := kid_valid h hy
end Go.Proofs.Ytbmpgfojhoganaa
