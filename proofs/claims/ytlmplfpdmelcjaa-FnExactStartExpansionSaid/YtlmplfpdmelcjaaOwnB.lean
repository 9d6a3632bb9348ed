/- Bindings whose memory is their own. -/
import Derived.Test.YtlmplfpdmelcjaaData
import Derived.Test.YtlmplfpdmelcjaaBdDat
namespace Go.Proofs.Ytlmplfpdmelcjaa
open Go.RowKit
set_option linter.unusedVariables false
/-- the cells of a binding, its scopes in the blocks 'bs' -/
def BdOwn (w : World) (b o : Nat) (x : Bd) (bs : List Nat) : Prop :=
  ∃ sa scap, w.cell? ⟨b, o, none⟩ = some (.string x.name) ∧ w.cell? ⟨b, o + 1, none⟩ = some (.slice sa x.scopes.length scap) ∧ w.cell? ⟨b, o + 2, none⟩ = some (.int .i64 x.id) ∧
    (∀ j, j < 3 → w.frozen? ⟨b, o + j, none⟩ = false) ∧ IntOwn w (.slice sa x.scopes.length scap) x.scopes bs
def BdRowOwn (w : World) (b : Nat) : Nat → List Bd → List Nat → Prop
  | _, [], bs => bs = []
  | off, x :: r, bs => ∃ bs1 bs2, bs = bs1 ++ bs2 ∧ BdOwn w b off x bs1 ∧ BdRowOwn w b (off + 3) r bs2
/-- what a binding's numbers keep -/
def Bd.wf (x : Bd) : Prop := x.name.size ≤ maxLen ∧ -9223372036854775808 ≤ x.id ∧ x.id ≤ 9223372036854775807
def BdsOwn (w : World) (l : List Bd) (v : Value) (bs : List Nat) : Prop :=
  ∃ a cap, v = .slice a l.length cap ∧ l.length ≤ cap ∧ cap ≤ maxLen ∧ (∀ x ∈ l, x.wf) ∧ ((l = [] ∧ bs = []) ∨ ∃ b off bs3, a = some ⟨b, off, none⟩ ∧ bs = b :: bs3 ∧ BdRowOwn w b off l bs3)
theorem BdOwn.upto {w w' : World} {b o : Nat} {x : Bd} {bs : List Nat} (hs : SameOn bs w w') (hc : ∀ j, j < 3 → w'.cell? ⟨b, o + j, none⟩ = w.cell? ⟨b, o + j, none⟩ ∧ w'.frozen? ⟨b, o + j, none⟩ = w.frozen? ⟨b, o + j, none⟩) (h : BdOwn w b o x bs) : BdOwn w' b o x bs := by
  obtain ⟨sa, scap, c0, c1, c2, hf, hi⟩ := h
  exact ⟨sa, scap, ((hc 0 (by omega)).1).trans c0, ((hc 1 (by omega)).1).trans c1, ((hc 2 (by omega)).1).trans c2, fun j hj => ((hc j hj).2).trans (hf j hj), hi.later hs⟩
theorem BdRowOwn.upto {w w' : World} {b : Nat} : ∀ {l : List Bd} {off : Nat} {bs : List Nat}, SameOn bs w w' →
    (∀ i, off ≤ i → i < off + l.length * 3 → w'.cell? ⟨b, i, none⟩ = w.cell? ⟨b, i, none⟩ ∧ w'.frozen? ⟨b, i, none⟩ = w.frozen? ⟨b, i, none⟩) → BdRowOwn w b off l bs → BdRowOwn w' b off l bs
  | [], _, _, _, _, h => h
  | x :: r, off, bs, hs, hc, h => by
    obtain ⟨bs1, bs2, rfl, h1, h2⟩ := h
    have hl : (x :: r).length = r.length + 1 := rfl
    exact ⟨bs1, bs2, rfl, h1.upto hs.left (fun j hj => hc _ (by omega) (by omega)), BdRowOwn.upto hs.right (fun i h1 h2 => hc i (by omega) (by omega)) h2⟩
theorem BdRowOwn.later {w w' : World} {b : Nat} {l : List Bd} {off : Nat} {bs : List Nat} (hs : SameOn (b :: bs) w w') (h : BdRowOwn w b off l bs) : BdRowOwn w' b off l bs :=
  h.upto (fun x hx => hs x (List.mem_cons_of_mem _ hx)) (fun i _ _ => ⟨hs.cell (by simp), hs.frozen (by simp)⟩)
theorem BdsOwn.later {w w' : World} {l : List Bd} {v : Value} {bs : List Nat} (hs : SameOn bs w w') (h : BdsOwn w l v bs) : BdsOwn w' l v bs := by
  obtain ⟨a, cap, h1, h2, h3, h4, h5⟩ := h
  refine ⟨a, cap, h1, h2, h3, h4, ?_⟩
  rcases h5 with h5 | ⟨b, off, bs3, ha, rfl, h6⟩
  · exact .inl h5
  · exact .inr ⟨b, off, bs3, ha, rfl, h6.later hs⟩
theorem BdRowOwn.snoc {w : World} {b : Nat} : ∀ {l : List Bd} {off : Nat} {bs : List Nat} {x : Bd} {bs' : List Nat}, BdRowOwn w b off l bs → BdOwn w b (off + l.length * 3) x bs' → BdRowOwn w b off (l ++ [x]) (bs ++ bs')
  | [], off, bs, x, bs', h, h' => by
    have h : bs = [] := h
    subst h
    exact ⟨bs', [], by simp, by simpa using h', rfl⟩
  | y :: r, off, bs, x, bs', h, h' => by
    obtain ⟨bs1, bs2, rfl, h1, h2⟩ := h
    refine ⟨bs1, bs2 ++ bs', by rw [List.append_assoc], h1, BdRowOwn.snoc h2 ?_⟩
    have e : off + (y :: r).length * 3 = off + 3 + r.length * 3 := by rw [List.length_cons]; omega
    rw [e] at h'
    exact h'
theorem BdRowOwn.at' {w : World} {b : Nat} : ∀ {l : List Bd} {off : Nat} {bs : List Nat}, BdRowOwn w b off l bs → ∀ i, (h : i < l.length) → ∃ bs', (∀ c ∈ bs', c ∈ bs) ∧ BdOwn w b (off + i * 3) l[i] bs'
  | [], _, _, _, i, h => by simp at h
  | x :: r, off, bs, h, i, hi => by
    obtain ⟨bs1, bs2, rfl, h1, h2⟩ := h
    cases i with
    | zero => exact ⟨bs1, fun c hc => List.mem_append_left _ hc, by simpa using h1⟩
    | succ i =>
      obtain ⟨bs', h3, h4⟩ := BdRowOwn.at' h2 i (by simpa using hi)
      refine ⟨bs', fun c hc => List.mem_append_right _ (h3 c hc), ?_⟩
      rw [show off + (i + 1) * 3 = off + 3 + i * 3 from by omega]
      exact h4
theorem BdsOwn.inRow {φ : Nat → Prop} {w : World} {l : List Bd} {v : Value} {bs : List Nat} (hp : ∀ b ∈ bs, φ b) (h : BdsOwn w l v bs) : BdRow φ w v l := by
  obtain ⟨a, cap, h1, h2, h3, h4, h5⟩ := h
  refine ⟨a, cap, h1, h2, h3, h4, ?_⟩
  rcases h5 with h5 | ⟨b, off, bs3, ha, rfl, h6⟩
  · exact .inl h5.1
  · refine .inr ⟨b, off, ha, hp b (by simp), fun i hi => ?_⟩
    obtain ⟨bs', h7, sa, scap, c0, c1, c2, _, hi⟩ := h6.at' i hi
    exact ⟨sa, scap, c0, c1, c2, hi.inRow (fun c hc => hp c (List.mem_cons_of_mem _ (h7 c hc)))⟩
/-- three cells written -/
def set3 (w : World) (b o : Nat) (c0 c1 c2 : Value) : World := ((w.setCell ⟨b, o, none⟩ c0).setCell ⟨b, o + 1, none⟩ c1).setCell ⟨b, o + 2, none⟩ c2
theorem set3_size (w : World) (b o : Nat) (c0 c1 c2 : Value) : (set3 w b o c0 c1 c2).heap.size = w.heap.size := by simp [set3, World.setCell]
theorem set3_block (w : World) (b o : Nat) (c0 c1 c2 : Value) {k : Nat} (hk : k ≠ b) : (set3 w b o c0 c1 c2).heap[k]? = w.heap[k]? := by
  unfold set3
  iterate 3 rw [Below.heap_setCell _ _ _ _ hk]
theorem set3_frozen (w : World) (b o : Nat) (c0 c1 c2 : Value) (a : Addr) : (set3 w b o c0 c1 c2).frozen? a = w.frozen? a := by
  unfold set3
  iterate 3 rw [World.frozen?_setCell]
theorem set3_out (w : World) (b o : Nat) (c0 c1 c2 : Value) (i : Nat) (h : i < o ∨ o + 3 ≤ i) : (set3 w b o c0 c1 c2).cell? ⟨b, i, none⟩ = w.cell? ⟨b, i, none⟩ := by
  unfold set3
  rw [World.cell?_setCell_other _ _ _ _ (addr_ne (by omega)), World.cell?_setCell_other _ _ _ _ (addr_ne (by omega)), World.cell?_setCell_other _ _ _ _ (addr_ne (by omega))]
theorem set3_in (w : World) (b o : Nat) (c0 c1 c2 : Value) (h : ∀ j, j < 3 → ∃ v, w.cell? ⟨b, o + j, none⟩ = some v) :
    (set3 w b o c0 c1 c2).cell? ⟨b, o, none⟩ = some c0 ∧ (set3 w b o c0 c1 c2).cell? ⟨b, o + 1, none⟩ = some c1 ∧ (set3 w b o c0 c1 c2).cell? ⟨b, o + 2, none⟩ = some c2 := by
  obtain ⟨v0, h0⟩ := h 0 (by omega)
  obtain ⟨v1, h1⟩ := h 1 (by omega)
  obtain ⟨v2, h2⟩ := h 2 (by omega)
  rw [Nat.add_zero] at h0
  unfold set3
  refine ⟨?_, ?_, ?_⟩
  · rw [World.cell?_setCell_other _ _ _ _ (addr_ne (by omega)), World.cell?_setCell_other _ _ _ _ (addr_ne (by omega)), World.cell?_setCell_same _ _ _ h0]
  · rw [World.cell?_setCell_other _ _ _ _ (addr_ne (by omega))]
    exact World.cell?_setCell_same _ _ _ (u := v1) (by rw [World.cell?_setCell_other _ _ _ _ (addr_ne (by omega))]; exact h1)
  · exact World.cell?_setCell_same _ _ _ (u := v2) (by rw [World.cell?_setCell_other _ _ _ _ (addr_ne (by omega)), World.cell?_setCell_other _ _ _ _ (addr_ne (by omega))]; exact h2)
theorem set3_below {B : Nat} {w w' : World} (h : Below B w w') {b : Nat} (hb : B ≤ b) (o : Nat) (c0 c1 c2 : Value) : Below B w (set3 w' b o c0 c1 c2) :=
  ((h.setCell (p := ⟨b, o, none⟩) hb c0).setCell (p := ⟨b, o + 1, none⟩) hb c1).setCell (p := ⟨b, o + 2, none⟩) hb c2
theorem Plain.set3 {w : World} {c : Nat} (h : Plain w c) (b o : Nat) (c0 c1 c2 : Value) : Plain (set3 w b o c0 c1 c2) c := ((h.setCell _ _ _).setCell _ _ _).setCell _ _ _
end Go.Proofs.Ytlmplfpdmelcjaa
