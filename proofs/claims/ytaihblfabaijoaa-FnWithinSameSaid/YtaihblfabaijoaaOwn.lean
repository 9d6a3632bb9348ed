/- Forms whose memory is their own: each slice in a block that nothing else of the form lies in. -/
import Derived.Test.YtaihblfabaijoaaFirst
import Derived.Laws.OwnMore
namespace Go.Proofs.Ytaihblfabaijoaa
open Go.RowKit
/-- a slice of numbers in blocks of its own -/
def IntOwn (w : World) (v : Value) (l : List Int) (bs : List Nat) : Prop :=
  ∃ a cap, v = .slice a l.length cap ∧ l.length ≤ cap ∧ cap ≤ maxLen ∧ (∀ n ∈ l, -9223372036854775808 ≤ n ∧ n ≤ 9223372036854775807) ∧
    ((l = [] ∧ bs = []) ∨ ∃ b off, a = some ⟨b, off, none⟩ ∧ bs = [b] ∧ ∀ i, (h : i < l.length) → w.cell? ⟨b, off + i, none⟩ = some (.int .i64 l[i]) ∧ w.frozen? ⟨b, off + i, none⟩ = false)
mutual
/-- a value that reads as a form, its slices in the blocks 'bs' -/
def OwnV (w : World) : Fm → Value → List Nat → Prop
  | .mk k nm n sc ks, v, bs => ∃ vs a cap bs1 bs2, v = .agg #[.int .i64 k, .string nm, .int .i64 n, vs, .slice a ks.length cap] ∧
      (-9223372036854775808 ≤ k ∧ k ≤ 9223372036854775807) ∧ (-9223372036854775808 ≤ n ∧ n ≤ 9223372036854775807) ∧
      nm.size ≤ maxLen ∧ IntOwn w vs sc bs1 ∧ ks.length ≤ cap ∧ cap ≤ maxLen ∧ bs = bs1 ++ bs2 ∧
      ((ks = [] ∧ bs2 = []) ∨ ∃ b off bs3, a = some ⟨b, off, none⟩ ∧ bs2 = b :: bs3 ∧ RowOwn w b off ks bs3)
def RowOwn (w : World) (b off : Nat) : List Fm → List Nat → Prop
  | [], bs => bs = []
  | f :: r, bs => ∃ bs1 bs2, bs = bs1 ++ bs2 ∧ (∃ c0 c1 c2 c3 c4, w.cell? ⟨b, off, none⟩ = some c0 ∧ w.cell? ⟨b, off + 1, none⟩ = some c1 ∧ w.cell? ⟨b, off + 2, none⟩ = some c2 ∧
      w.cell? ⟨b, off + 3, none⟩ = some c3 ∧ w.cell? ⟨b, off + 4, none⟩ = some c4 ∧ (∀ j, j < 5 → w.frozen? ⟨b, off + j, none⟩ = false) ∧ OwnV w f (.agg #[c0, c1, c2, c3, c4]) bs1) ∧ RowOwn w b (off + 5) r bs2
end
/-- the blocks of the list are the same in both worlds -/
def SameOn (bs : List Nat) (w w' : World) : Prop := ∀ b ∈ bs, w'.heap[b]? = w.heap[b]?
theorem SameOn.cell {bs : List Nat} {w w' : World} {b o : Nat} (h : SameOn bs w w') (hb : b ∈ bs) : w'.cell? ⟨b, o, none⟩ = w.cell? ⟨b, o, none⟩ :=
  World.cell?_of_block (w := w) (a := ⟨b, o, none⟩) (h b hb)
theorem SameOn.frozen {bs : List Nat} {w w' : World} {b o : Nat} (h : SameOn bs w w') (hb : b ∈ bs) : w'.frozen? ⟨b, o, none⟩ = w.frozen? ⟨b, o, none⟩ :=
  World.frozen?_of_block (w := w) (a := ⟨b, o, none⟩) (h b hb)
theorem SameOn.left {bs cs : List Nat} {w w' : World} (h : SameOn (bs ++ cs) w w') : SameOn bs w w' := fun b hb => h b (List.mem_append_left _ hb)
theorem SameOn.right {bs cs : List Nat} {w w' : World} (h : SameOn (bs ++ cs) w w') : SameOn cs w w' := fun b hb => h b (List.mem_append_right _ hb)
theorem SameOn.of_below {bs : List Nat} {B : Nat} {w w' : World} (h : Below B w w') (hb : ∀ b ∈ bs, b < B) : SameOn bs w w' := fun b hm => h.block b (hb b hm)
theorem IntOwn.later {w w' : World} {v : Value} {l : List Int} {bs : List Nat} (hs : SameOn bs w w') (h : IntOwn w v l bs) : IntOwn w' v l bs := by
  obtain ⟨a, cap, h1, h2, h3, h4, h5⟩ := h
  refine ⟨a, cap, h1, h2, h3, h4, ?_⟩
  rcases h5 with h5 | ⟨b, off, ha, rfl, h6⟩
  · exact .inl h5
  · exact .inr ⟨b, off, ha, rfl, fun i hi => by rw [hs.cell (by simp), hs.frozen (by simp)]; exact h6 i hi⟩
mutual
theorem OwnV.later {w w' : World} : ∀ (f : Fm) (v : Value) (bs : List Nat), SameOn bs w w' → OwnV w f v bs → OwnV w' f v bs
  | .mk k nm n sc ks, v, bs, hs, h => by
    unfold OwnV at h ⊢
    obtain ⟨vs, a, cap, bs1, bs2, h1, hk, hn, h2, h3, h4, h5, rfl, h6⟩ := h
    refine ⟨vs, a, cap, bs1, bs2, h1, hk, hn, h2, h3.later hs.left, h4, h5, rfl, ?_⟩
    rcases h6 with h6 | ⟨b, off, bs3, h6, rfl, h7⟩
    · exact .inl h6
    · exact .inr ⟨b, off, bs3, h6, rfl, RowOwn.later b off ks bs3 (fun x hx => by
        rcases List.mem_cons.1 hx with rfl | hx
        · exact hs _ (List.mem_append_right _ (List.mem_cons_self))
        · exact hs x (List.mem_append_right _ (List.mem_cons_of_mem _ hx))) h7⟩
theorem RowOwn.later {w w' : World} (b : Nat) : ∀ (off : Nat) (ks : List Fm) (bs : List Nat), SameOn (b :: bs) w w' → RowOwn w b off ks bs → RowOwn w' b off ks bs
  | _, [], bs, _, h => by unfold RowOwn at h ⊢; exact h
  | off, f :: r, bs, hs, h => by
    unfold RowOwn at h ⊢
    obtain ⟨bs1, bs2, rfl, ⟨c0, c1, c2, c3, c4, h0, h1, h2, h3, h4, hf, h5⟩, h6⟩ := h
    have hb : b ∈ b :: (bs1 ++ bs2) := List.mem_cons_self
    refine ⟨bs1, bs2, rfl, ⟨c0, c1, c2, c3, c4, by rw [hs.cell hb]; exact h0, by rw [hs.cell hb]; exact h1, by rw [hs.cell hb]; exact h2, by rw [hs.cell hb]; exact h3, by rw [hs.cell hb]; exact h4,
      fun j hj => by rw [hs.frozen hb]; exact hf j hj, OwnV.later f _ bs1 (fun x hx => hs x (List.mem_cons_of_mem _ (List.mem_append_left _ hx))) h5⟩, RowOwn.later b (off + 5) r bs2 (fun x hx => by
        rcases List.mem_cons.1 hx with rfl | hx
        · exact hs _ hb
        · exact hs x (List.mem_cons_of_mem _ (List.mem_append_right _ hx))) h6⟩
end
/-- the row itself need be the same only at its own places -/
theorem RowOwn.upto {w w' : World} {b : Nat} : ∀ {ks : List Fm} {off : Nat} {bs : List Nat}, SameOn bs w w' →
    (∀ i, off ≤ i → i < off + ks.length * 5 → w'.cell? ⟨b, i, none⟩ = w.cell? ⟨b, i, none⟩ ∧ w'.frozen? ⟨b, i, none⟩ = w.frozen? ⟨b, i, none⟩) → RowOwn w b off ks bs → RowOwn w' b off ks bs
  | [], _, _, _, _, h => by unfold RowOwn at h ⊢; exact h
  | f :: r, off, bs, hs, hc, h => by
    unfold RowOwn at h ⊢
    obtain ⟨bs1, bs2, rfl, ⟨c0, c1, c2, c3, c4, h0, h1, h2, h3, h4, hf, h5⟩, h6⟩ := h
    have hl : (f :: r).length = r.length + 1 := rfl
    refine ⟨bs1, bs2, rfl, ⟨c0, c1, c2, c3, c4, by rw [(hc off (by omega) (by omega)).1]; exact h0, by rw [(hc (off + 1) (by omega) (by omega)).1]; exact h1, by rw [(hc (off + 2) (by omega) (by omega)).1]; exact h2,
      by rw [(hc (off + 3) (by omega) (by omega)).1]; exact h3, by rw [(hc (off + 4) (by omega) (by omega)).1]; exact h4, fun j hj => by rw [(hc (off + j) (by omega) (by omega)).2]; exact hf j hj,
      OwnV.later f _ bs1 hs.left h5⟩, RowOwn.upto hs.right (fun i h1 h2 => hc i (by omega) (by omega)) h6⟩
theorem size_alloc' (w : World) (o : Obj) : (w.alloc o).heap.size = w.heap.size + 1 := by simp
theorem a2_cell0 (w : World) (A : Array Value) (O : Obj) (t : TypeId) (j : Nat) : ((w.alloc (.cells A t)).alloc O).cell? ⟨w.heap.size, j, none⟩ = A[j]? := by
  rw [World.cell?_alloc_past _ _ _ (by rw [size_alloc']; omega), World.cell?_alloc_at _ _ _ _ rfl]
theorem a3_cell0 (w : World) (A : Array Value) (O O' : Obj) (t : TypeId) (j : Nat) : (((w.alloc (.cells A t)).alloc O).alloc O').cell? ⟨w.heap.size, j, none⟩ = A[j]? := by
  rw [World.cell?_alloc_past _ _ _ (by rw [size_alloc', size_alloc']; omega), a2_cell0]
theorem a3_cell1 (w : World) (A : Array Value) (O O' : Obj) (t : TypeId) (j : Nat) : (((w.alloc O).alloc (.cells A t)).alloc O').cell? ⟨w.heap.size + 1, j, none⟩ = A[j]? := by
  rw [World.cell?_alloc_past _ _ _ (by rw [size_alloc', size_alloc']; omega), World.cell?_alloc_at _ _ _ _ (by rw [size_alloc'])]
theorem a3_cell2 (w : World) (A : Array Value) (O O' : Obj) (t : TypeId) (j : Nat) : (((w.alloc O).alloc O').alloc (.cells A t)).cell? ⟨w.heap.size + 1 + 1, j, none⟩ = A[j]? := by
  rw [World.cell?_alloc_at _ _ _ _ (by rw [size_alloc', size_alloc'])]
theorem a3_free1 (w : World) (A : Array Value) (O O' : Obj) (t : TypeId) (j : Nat) : (((w.alloc O).alloc (.cells A t)).alloc O').frozen? ⟨w.heap.size + 1, j, none⟩ = false := by
  rw [World.frozen?_alloc_past _ _ _ (by rw [size_alloc', size_alloc']; omega), World.frozen?_alloc_at _ _ _ _ (by rw [size_alloc'])]
theorem a3_free2 (w : World) (A : Array Value) (O O' : Obj) (t : TypeId) (j : Nat) : (((w.alloc O).alloc O').alloc (.cells A t)).frozen? ⟨w.heap.size + 1 + 1, j, none⟩ = false := by
  rw [World.frozen?_alloc_at _ _ _ _ (by rw [size_alloc', size_alloc'])]
/-- five cells stored -/
def set5 (w : World) (b o : Nat) (c0 c1 c2 c3 c4 : Value) : World :=
  ((((w.setCell ⟨b, o, none⟩ c0).setCell ⟨b, o + 1, none⟩ c1).setCell ⟨b, o + 2, none⟩ c2).setCell ⟨b, o + 3, none⟩ c3).setCell ⟨b, o + 4, none⟩ c4
theorem set5_size (w : World) (b o : Nat) (c0 c1 c2 c3 c4 : Value) : (set5 w b o c0 c1 c2 c3 c4).heap.size = w.heap.size := by simp [set5, World.setCell]
theorem set5_block (w : World) (b o : Nat) (c0 c1 c2 c3 c4 : Value) {k : Nat} (hk : k ≠ b) : (set5 w b o c0 c1 c2 c3 c4).heap[k]? = w.heap[k]? := by
  unfold set5
  iterate 5 rw [Below.heap_setCell _ _ _ _ hk]
theorem set5_frozen (w : World) (b o : Nat) (c0 c1 c2 c3 c4 : Value) (a : Addr) : (set5 w b o c0 c1 c2 c3 c4).frozen? a = w.frozen? a := by
  unfold set5
  iterate 5 rw [World.frozen?_setCell]
theorem addr_ne {b o i : Nat} (h : o ≠ i) : (⟨b, o, none⟩ : Addr) ≠ ⟨b, i, none⟩ := by intro e; injection e with _ e2; exact h e2
theorem set5_out (w : World) (b o : Nat) (c0 c1 c2 c3 c4 : Value) (i : Nat) (h : i < o ∨ o + 5 ≤ i) : (set5 w b o c0 c1 c2 c3 c4).cell? ⟨b, i, none⟩ = w.cell? ⟨b, i, none⟩ := by
  unfold set5
  rw [World.cell?_setCell_other _ _ _ _ (addr_ne (by omega)), World.cell?_setCell_other _ _ _ _ (addr_ne (by omega)), World.cell?_setCell_other _ _ _ _ (addr_ne (by omega)),
    World.cell?_setCell_other _ _ _ _ (addr_ne (by omega)), World.cell?_setCell_other _ _ _ _ (addr_ne (by omega))]
theorem set5_in (w : World) (b o : Nat) (c0 c1 c2 c3 c4 : Value) (h : ∀ j, j < 5 → ∃ v, w.cell? ⟨b, o + j, none⟩ = some v) :
    (set5 w b o c0 c1 c2 c3 c4).cell? ⟨b, o, none⟩ = some c0 ∧ (set5 w b o c0 c1 c2 c3 c4).cell? ⟨b, o + 1, none⟩ = some c1 ∧ (set5 w b o c0 c1 c2 c3 c4).cell? ⟨b, o + 2, none⟩ = some c2 ∧
      (set5 w b o c0 c1 c2 c3 c4).cell? ⟨b, o + 3, none⟩ = some c3 ∧ (set5 w b o c0 c1 c2 c3 c4).cell? ⟨b, o + 4, none⟩ = some c4 := by
  obtain ⟨v0, h0⟩ := h 0 (by omega)
  obtain ⟨v1, h1⟩ := h 1 (by omega)
  obtain ⟨v2, h2⟩ := h 2 (by omega)
  obtain ⟨v3, h3⟩ := h 3 (by omega)
  obtain ⟨v4, h4⟩ := h 4 (by omega)
  rw [Nat.add_zero] at h0
  unfold set5
  refine ⟨?_, ?_, ?_, ?_, ?_⟩
  · rw [World.cell?_setCell_other _ _ _ _ (addr_ne (by omega)), World.cell?_setCell_other _ _ _ _ (addr_ne (by omega)), World.cell?_setCell_other _ _ _ _ (addr_ne (by omega)),
      World.cell?_setCell_other _ _ _ _ (addr_ne (by omega)), World.cell?_setCell_same _ _ _ h0]
  · rw [World.cell?_setCell_other _ _ _ _ (addr_ne (by omega)), World.cell?_setCell_other _ _ _ _ (addr_ne (by omega)), World.cell?_setCell_other _ _ _ _ (addr_ne (by omega))]
    exact World.cell?_setCell_same _ _ _ (u := v1) (by rw [World.cell?_setCell_other _ _ _ _ (addr_ne (by omega))]; exact h1)
  · rw [World.cell?_setCell_other _ _ _ _ (addr_ne (by omega)), World.cell?_setCell_other _ _ _ _ (addr_ne (by omega))]
    exact World.cell?_setCell_same _ _ _ (u := v2) (by rw [World.cell?_setCell_other _ _ _ _ (addr_ne (by omega)), World.cell?_setCell_other _ _ _ _ (addr_ne (by omega))]; exact h2)
  · rw [World.cell?_setCell_other _ _ _ _ (addr_ne (by omega))]
    exact World.cell?_setCell_same _ _ _ (u := v3) (by rw [World.cell?_setCell_other _ _ _ _ (addr_ne (by omega)), World.cell?_setCell_other _ _ _ _ (addr_ne (by omega)), World.cell?_setCell_other _ _ _ _ (addr_ne (by omega))]; exact h3)
  · exact World.cell?_setCell_same _ _ _ (u := v4) (by rw [World.cell?_setCell_other _ _ _ _ (addr_ne (by omega)), World.cell?_setCell_other _ _ _ _ (addr_ne (by omega)), World.cell?_setCell_other _ _ _ _ (addr_ne (by omega)), World.cell?_setCell_other _ _ _ _ (addr_ne (by omega))]; exact h4)
theorem set5_below {B : Nat} {w w' : World} (h : Below B w w') {b : Nat} (hb : B ≤ b) (o : Nat) (c0 c1 c2 c3 c4 : Value) : Below B w (set5 w' b o c0 c1 c2 c3 c4) :=
  ((((h.setCell (p := ⟨b, o, none⟩) hb c0).setCell (p := ⟨b, o + 1, none⟩) hb c1).setCell (p := ⟨b, o + 2, none⟩) hb c2).setCell (p := ⟨b, o + 3, none⟩) hb c3).setCell (p := ⟨b, o + 4, none⟩) hb c4
theorem IntOwn.inRow {φ : Nat → Prop} {w : World} {v : Value} {l : List Int} {bs : List Nat} (hp : ∀ b ∈ bs, φ b) (h : IntOwn w v l bs) : IntRow φ w v l := by
  obtain ⟨a, cap, h1, h2, h3, h4, h5⟩ := h
  refine ⟨a, cap, h1, h2, h3, h4, ?_⟩
  rcases h5 with h5 | ⟨b, off, ha, rfl, h6⟩
  · exact .inl h5.1
  · exact .inr ⟨b, off, ha, hp b (by simp), fun i hi => (h6 i hi).1⟩
mutual
theorem OwnV.inV {φ : Nat → Prop} {w : World} : ∀ (f : Fm) (v : Value) (bs : List Nat), (∀ b ∈ bs, φ b) → OwnV w f v bs → InV φ w f v
  | .mk k nm n sc ks, v, bs, hp, h => by
    unfold OwnV at h
    unfold InV
    obtain ⟨vs, a, cap, bs1, bs2, h1, hk, hn, h2, h3, h4, h5, rfl, h6⟩ := h
    refine ⟨vs, a, cap, h1, hk, hn, h2, h3.inRow (fun b hb => hp b (List.mem_append_left _ hb)), h4, h5, ?_⟩
    rcases h6 with h6 | ⟨b, off, bs3, h6, rfl, h7⟩
    · exact .inl h6.1
    · exact .inr ⟨b, off, h6, hp b (List.mem_append_right _ List.mem_cons_self), RowOwn.inRow b off ks bs3 (fun x hx => hp x (List.mem_append_right _ (List.mem_cons_of_mem _ hx))) h7⟩
theorem RowOwn.inRow {φ : Nat → Prop} {w : World} (b : Nat) : ∀ (off : Nat) (ks : List Fm) (bs : List Nat), (∀ x ∈ bs, φ x) → RowOwn w b off ks bs → RowIn φ w b off ks
  | _, [], _, _, _ => by unfold RowIn; trivial
  | off, f :: r, bs, hp, h => by
    unfold RowOwn at h
    unfold RowIn
    obtain ⟨bs1, bs2, rfl, ⟨c0, c1, c2, c3, c4, h0, h1, h2, h3, h4, _, h5⟩, h6⟩ := h
    exact ⟨⟨c0, c1, c2, c3, c4, h0, h1, h2, h3, h4, OwnV.inV f _ bs1 (fun x hx => hp x (List.mem_append_left _ hx)) h5⟩, RowOwn.inRow b (off + 5) r bs2 (fun x hx => hp x (List.mem_append_right _ hx)) h6⟩
end
/-- one element more -/
theorem RowOwn.snoc {w : World} {b : Nat} : ∀ {ks : List Fm} {off : Nat} {bs bs' : List Nat} {f : Fm} {c0 c1 c2 c3 c4 : Value}, RowOwn w b off ks bs →
    w.cell? ⟨b, off + ks.length * 5, none⟩ = some c0 → w.cell? ⟨b, off + ks.length * 5 + 1, none⟩ = some c1 → w.cell? ⟨b, off + ks.length * 5 + 2, none⟩ = some c2 →
    w.cell? ⟨b, off + ks.length * 5 + 3, none⟩ = some c3 → w.cell? ⟨b, off + ks.length * 5 + 4, none⟩ = some c4 → (∀ j, j < 5 → w.frozen? ⟨b, off + ks.length * 5 + j, none⟩ = false) →
    OwnV w f (.agg #[c0, c1, c2, c3, c4]) bs' → RowOwn w b off (ks ++ [f]) (bs ++ bs')
  | [], off, bs, bs', f, c0, c1, c2, c3, c4, h, h0, h1, h2, h3, h4, hf, h5 => by
    unfold RowOwn at h
    subst h
    show RowOwn w b off (f :: []) ([] ++ bs')
    unfold RowOwn
    refine ⟨bs', [], by simp, ⟨c0, c1, c2, c3, c4, by simpa using h0, by simpa using h1, by simpa using h2, by simpa using h3, by simpa using h4, by simpa using hf, h5⟩, ?_⟩
    unfold RowOwn
    rfl
  | g :: r, off, bs, bs', f, c0, c1, c2, c3, c4, h, h0, h1, h2, h3, h4, hf, h5 => by
    unfold RowOwn at h
    obtain ⟨bs1, bs2, rfl, hg, hr⟩ := h
    have e : off + (g :: r).length * 5 = off + 5 + r.length * 5 := by simp; omega
    rw [e] at h0 h1 h2 h3 h4 hf
    have := RowOwn.snoc hr h0 h1 h2 h3 h4 hf h5
    show RowOwn w b off (g :: (r ++ [f])) (bs1 ++ bs2 ++ bs')
    unfold RowOwn
    exact ⟨bs1, bs2 ++ bs', by simp, hg, this⟩
/-- new blocks: distinct, laid between two sizes -/
def NewBs (bs : List Nat) (lo hi : Nat) : Prop := bs.Nodup ∧ ∀ b ∈ bs, lo ≤ b ∧ b < hi
theorem NewBs.nil (lo hi : Nat) : NewBs [] lo hi := ⟨List.nodup_nil, by simp⟩
theorem NewBs.mono {bs : List Nat} {lo hi lo' hi' : Nat} (h : NewBs bs lo hi) (h1 : lo' ≤ lo) (h2 : hi ≤ hi') : NewBs bs lo' hi' :=
  ⟨h.1, fun b hb => by have := h.2 b hb; omega⟩
theorem NewBs.append {cs0 bs : List Nat} {lo mid hi : Nat} (h : NewBs cs0 lo mid) (g : NewBs bs mid hi) (h1 : lo ≤ mid) (h2 : mid ≤ hi) : NewBs (cs0 ++ bs) lo hi := by
  refine ⟨List.nodup_append.2 ⟨h.1, g.1, fun a ha b hb e => ?_⟩, fun b hb => ?_⟩
  · have := h.2 a ha; have := g.2 b hb; omega
  · rcases List.mem_append.1 hb with hb | hb
    · have := h.2 b hb; omega
    · have := g.2 b hb; omega
theorem NewBs.cons {bs : List Nat} {b lo hi : Nat} (h : NewBs bs (b + 1) hi) (h1 : lo ≤ b) (h2 : b < hi) : NewBs (b :: bs) lo hi := by
  refine ⟨List.nodup_cons.2 ⟨fun hm => ?_, h.1⟩, fun x hx => ?_⟩
  · have := h.2 b hm; omega
  · rcases List.mem_cons.1 hx with rfl | hx
    · omega
    · have := h.2 x hx; omega
/-- a block of cells with no frozen part -/
def Plain (w : World) (b : Nat) : Prop := ∃ c t, w.heap[b]? = some (.cells c t (0, 0))
def AllPlain (w : World) (bs : List Nat) : Prop := ∀ b ∈ bs, Plain w b
theorem Plain.frozen {w : World} {b : Nat} (h : Plain w b) (i : Nat) : w.frozen? ⟨b, i, none⟩ = false := by
  obtain ⟨c, t, h⟩ := h
  exact frozen_of_row w b i c t h
theorem Plain.fresh (w : World) (c : Array Value) (t : TypeId) : Plain (w.alloc (.cells c t)) w.heap.size := ⟨c, t, heap_alloc_new w _⟩
theorem Plain.lt {w : World} {b : Nat} (h : Plain w b) : b < w.heap.size := by
  obtain ⟨c, t, h⟩ := h
  exact (Array.getElem?_eq_some_iff.1 h).1
theorem Plain.same {w w' : World} {b : Nat} (h : Plain w b) (hs : w'.heap[b]? = w.heap[b]?) : Plain w' b := by
  obtain ⟨c, t, h⟩ := h
  exact ⟨c, t, hs.trans h⟩
theorem Plain.later {w w' : World} {b : Nat} (h : Plain w b) (hb : Below w.heap.size w w') : Plain w' b := h.same (hb.block b h.lt)
theorem Plain.setCell {w : World} {b : Nat} (h : Plain w b) (c o : Nat) (v : Value) : Plain (w.setCell ⟨c, o, none⟩ v) b := by
  by_cases e : b = c
  · subst e
    obtain ⟨cur, t, h⟩ := h
    exact ⟨_, t, heap_setCell_same w b o cur t v h⟩
  · exact h.same (Below.heap_setCell _ _ _ _ e)
theorem Plain.set5 {w : World} {b : Nat} (h : Plain w b) (c o : Nat) (c0 c1 c2 c3 c4 : Value) : Plain (set5 w c o c0 c1 c2 c3 c4) b :=
  ((((h.setCell _ _ _).setCell _ _ _).setCell _ _ _).setCell _ _ _).setCell _ _ _
theorem AllPlain.same {w w' : World} {bs : List Nat} (h : AllPlain w bs) (hs : SameOn bs w w') : AllPlain w' bs := fun b hb => (h b hb).same (hs b hb)
theorem AllPlain.later {w w' : World} {bs : List Nat} (h : AllPlain w bs) (hb : Below w.heap.size w w') : AllPlain w' bs := fun b hm => (h b hm).later hb
theorem AllPlain.append {w : World} {cs0 bs : List Nat} (h : AllPlain w cs0) (g : AllPlain w bs) : AllPlain w (cs0 ++ bs) := fun b hb => by
  rcases List.mem_append.1 hb with hb | hb
  · exact h b hb
  · exact g b hb
theorem AllPlain.left {w : World} {cs0 bs : List Nat} (h : AllPlain w (cs0 ++ bs)) : AllPlain w cs0 := fun b hb => h b (List.mem_append_left _ hb)
theorem AllPlain.right {w : World} {cs0 bs : List Nat} (h : AllPlain w (cs0 ++ bs)) : AllPlain w bs := fun b hb => h b (List.mem_append_right _ hb)
theorem AllPlain.cons {w : World} {b : Nat} {bs : List Nat} (h : Plain w b) (g : AllPlain w bs) : AllPlain w (b :: bs) := fun c hc => by
  rcases List.mem_cons.1 hc with rfl | hc
  · exact h
  · exact g c hc
theorem AllPlain.nil (w : World) : AllPlain w [] := fun b hb => by cases hb
end Go.Proofs.Ytaihblfabaijoaa
