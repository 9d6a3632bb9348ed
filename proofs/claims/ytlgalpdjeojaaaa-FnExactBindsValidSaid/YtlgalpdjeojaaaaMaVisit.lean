/- Plain facts on the visit of all forms in a form, by a stack. Nothing of the program is used. -/
import Derived.Test.YtlgalpdjeojaaaaMaWork
namespace Go.Proofs.Ytlgalpdjeojaaaa
open Go.RowKit
mutual
/-- a form and the forms in it, in the order of the text -/
def Fm.pre : Fm → List Fm
  | .mk k nm n sc ks => .mk k nm n sc ks :: preAll ks
def preAll : List Fm → List Fm
  | [] => []
  | f :: r => f.pre ++ preAll r
end
theorem pre_eq (f : Fm) : f.pre = f :: preAll f.kids := by cases f; simp [Fm.pre, Fm.kids]
mutual
theorem pre_length : ∀ f : Fm, f.pre.length = f.count
  | .mk k nm n sc ks => by simp only [Fm.pre, Fm.count, List.length_cons, preAll_length ks]
theorem preAll_length : ∀ ks : List Fm, (preAll ks).length = countAll ks
  | [] => rfl
  | f :: r => by simp only [preAll, countAll, List.length_append, pre_length f, preAll_length r]
end
/-- a form as it lies: what its value says of its memory -/
structure Item where
  f : Fm
  sa : Option Addr
  scap : Nat
  a : Option Addr
  cap : Nat
def Item.val (x : Item) : Value := .agg #[.int .i64 x.f.kind, .string x.f.name, .int .i64 x.f.n, .slice x.sa x.f.scopes.length x.scap, .slice x.a x.f.kids.length x.cap]
def Item.cells (x : Item) : List Value := [.int .i64 x.f.kind, .string x.f.name, .int .i64 x.f.n, .slice x.sa x.f.scopes.length x.scap, .slice x.a x.f.kids.length x.cap]
def rowOf (st : List Item) : List Value := st.flatMap Item.cells
theorem rowOf_length (st : List Item) : (rowOf st).length = st.length * 5 := by
  induction st with
  | nil => rfl
  | cons x r ih => simp only [rowOf, List.flatMap_cons, List.length_append, List.length_cons] at *; rw [ih]; simp [Item.cells]; omega
theorem rowOf_snoc (st : List Item) (x : Item) : rowOf (st ++ [x]) = rowOf st ++ x.cells := by simp [rowOf]
/-- what is still to be visited: the stack's top comes first -/
def preS (st : List Item) : List Fm := st.reverse.flatMap fun x => x.f.pre
theorem preS_snoc (st : List Item) (x : Item) : preS (st ++ [x]) = x.f.pre ++ preS st := by simp [preS]
theorem preS_kids (st its : List Item) : preS (st ++ its.reverse) = its.flatMap (fun x => x.f.pre) ++ preS st := by simp [preS]
theorem preAll_items : ∀ (its : List Item), preAll (its.map (·.f)) = its.flatMap fun x => x.f.pre
  | [] => rfl
  | x :: r => by simp only [List.map_cons, preAll, List.flatMap_cons, preAll_items r]
def countS (st : List Item) : Nat := (preS st).length
theorem countS_snoc (st : List Item) (x : Item) : countS (st ++ [x]) = x.f.count + countS st := by unfold countS; rw [preS_snoc, List.length_append, pre_length]
theorem length_countS : ∀ st : List Item, st.length ≤ countS st := by
  intro st
  unfold countS preS
  rw [← List.length_reverse]
  generalize st.reverse = l
  induction l with
  | nil => simp
  | cons x r ih =>
    rw [List.flatMap_cons, List.length_append, pre_length, List.length_cons]
    have : 1 ≤ x.f.count := by cases x.f; unfold Fm.count; omega
    omega
/-- the places of a list, from its end on -/
def downF (n : Nat) : List (Fin n) := (List.finRange n).reverse
theorem downF_length (n : Nat) : (downF n).length = n := by simp [downF]
theorem downF_take (n k : Nat) (h : k < n) : (downF n).take (k + 1) = (downF n).take k ++ [⟨n - 1 - k, by omega⟩] := by
  rw [List.take_succ_eq_append_getElem (by rw [downF_length]; exact h)]
  congr 1
  simp [downF, List.getElem_reverse]
theorem downF_all (n : Nat) : (downF n).take n = downF n := List.take_of_length_le (by rw [downF_length]; omega)
/-- the kids of a form that reads, as they lie -/
theorem kid_items {B : Nat} {w : World} {x : Item} (h : InV (· < B) w x.f x.val) : ∃ its : Fin x.f.kids.length → Item, (∀ i, (its i).f = x.f.kids[i.val] ∧ InV (· < B) w (its i).f (its i).val) ∧
    (0 < x.f.kids.length → ∃ b off, x.a = some ⟨b, off, none⟩ ∧ b < B ∧ ∀ i : Fin x.f.kids.length, w.cell? ⟨b, off + i.val * 5, none⟩ = some (.int .i64 (its i).f.kind) ∧ w.cell? ⟨b, off + i.val * 5 + 1, none⟩ = some (.string (its i).f.name) ∧
      w.cell? ⟨b, off + i.val * 5 + 2, none⟩ = some (.int .i64 (its i).f.n) ∧ w.cell? ⟨b, off + i.val * 5 + 3, none⟩ = some (.slice (its i).sa (its i).f.scopes.length (its i).scap) ∧ w.cell? ⟨b, off + i.val * 5 + 4, none⟩ = some (.slice (its i).a (its i).f.kids.length (its i).cap)) ∧
    x.f.kids.length ≤ x.cap ∧ x.cap ≤ maxLen := by
  cases x with
  | mk f sa scap a cap =>
    cases f with
    | mk k nm n sc ks =>
      unfold InV Item.val at h
      obtain ⟨vs, a', cap', e, _, _, _, hsc, hcap, hmax, hks⟩ := h
      simp only [Fm.kind, Fm.name, Fm.n, Fm.scopes, Fm.kids] at e ⊢
      injection e with e
      injection e with e
      simp only [List.cons.injEq, and_true, true_and, Value.slice.injEq] at e
      obtain ⟨rfl, rfl, rfl⟩ := e
      rcases hks with rfl | ⟨b, off, rfl, hb, hrow⟩
      · exact ⟨fun i => i.elim0, fun i => i.elim0, fun h => by simp at h, hcap, hmax⟩
      · have key : ∀ i : Fin ks.length, ∃ it : Item, it.f = ks[i.val] ∧ InV (· < B) w it.f it.val ∧ w.cell? ⟨b, off + i.val * 5, none⟩ = some (.int .i64 it.f.kind) ∧ w.cell? ⟨b, off + i.val * 5 + 1, none⟩ = some (.string it.f.name) ∧
            w.cell? ⟨b, off + i.val * 5 + 2, none⟩ = some (.int .i64 it.f.n) ∧ w.cell? ⟨b, off + i.val * 5 + 3, none⟩ = some (.slice it.sa it.f.scopes.length it.scap) ∧ w.cell? ⟨b, off + i.val * 5 + 4, none⟩ = some (.slice it.a it.f.kids.length it.cap) := fun i => by
          obtain ⟨ga, gcap, ka, kcap, p0, p1, p2, p3, p4, hin⟩ := hrow.at' i.val i.isLt
          exact ⟨⟨ks[i.val], ga, gcap, ka, kcap⟩, rfl, hin, p0, p1, p2, p3, p4⟩
        obtain ⟨its, hits⟩ := Classical.skolem.1 key
        exact ⟨its, fun i => ⟨(hits i).1, (hits i).2.1⟩, fun _ => ⟨b, off, rfl, hb, fun i => (hits i).2.2⟩, hcap, hmax⟩
theorem items_all {B : Nat} {w : World} {x : Item} {its : Fin x.f.kids.length → Item} (h : ∀ i, (its i).f = x.f.kids[i.val] ∧ InV (· < B) w (its i).f (its i).val) : ((List.finRange x.f.kids.length).map its).map (·.f) = x.f.kids := by
  apply List.ext_getElem
  · simp
  · intro i h1 h2
    simp [(h _).1]
end Go.Proofs.Ytlgalpdjeojaaaa
