/- Core programs in blocks of their own. -/
import Derived.Test.YtbclgmabidjegaaCoreData
import Derived.Test.YtbclgmabidjegaaSets
namespace Go.Proofs.Ytbclgmabidjegaa
open Go.RowKit
set_option linter.unusedVariables false
mutual
/-- a value that reads as a core program, its slices in the blocks 'bs' -/
def OwnC (w : World) : Ck → Value → List Nat → Prop
  | .mk k id nm n ids d ks, v, bs => ∃ i1 j1 s1 t1 k1 l1 a cap b1 b2 b3, v = .agg #[.int .i64 k, .int .i64 id, .string nm, .int .i64 n, .slice i1 ids.length j1, .int .i64 d.kind, .string d.name, .int .i64 d.n, .slice s1 d.scopes.length t1, .slice k1 d.kids.length l1, .slice a ks.length cap] ∧
      (-9223372036854775808 ≤ k ∧ k ≤ 9223372036854775807) ∧ (-9223372036854775808 ≤ id ∧ id ≤ 9223372036854775807) ∧ (-9223372036854775808 ≤ n ∧ n ≤ 9223372036854775807) ∧ nm.size ≤ maxLen ∧ IntOwn w (.slice i1 ids.length j1) ids b1 ∧ OwnV w d (.agg #[.int .i64 d.kind, .string d.name, .int .i64 d.n, .slice s1 d.scopes.length t1, .slice k1 d.kids.length l1]) b2 ∧ ks.length ≤ cap ∧ cap ≤ maxLen ∧ bs = b1 ++ b2 ++ b3 ∧
      ((ks = [] ∧ b3 = []) ∨ ∃ b off bs3, a = some ⟨b, off, none⟩ ∧ b3 = b :: bs3 ∧ RowOwnC w b off ks bs3)
def RowOwnC (w : World) (b off : Nat) : List Ck → List Nat → Prop
  | [], bs => bs = []
  | x :: r, bs => ∃ bs1 bs2, bs = bs1 ++ bs2 ∧ (∃ c0 c1 c2 c3 c4 c5 c6 c7 c8 c9 c10,  w.cell? ⟨b, off, none⟩ = some c0 ∧ w.cell? ⟨b, off + 1, none⟩ = some c1 ∧ w.cell? ⟨b, off + 2, none⟩ = some c2 ∧ w.cell? ⟨b, off + 3, none⟩ = some c3 ∧ w.cell? ⟨b, off + 4, none⟩ = some c4 ∧ w.cell? ⟨b, off + 5, none⟩ = some c5 ∧ w.cell? ⟨b, off + 6, none⟩ = some c6 ∧ w.cell? ⟨b, off + 7, none⟩ = some c7 ∧ w.cell? ⟨b, off + 8, none⟩ = some c8 ∧ w.cell? ⟨b, off + 9, none⟩ = some c9 ∧ w.cell? ⟨b, off + 10, none⟩ = some c10 ∧ (∀ j, j < 11 → w.frozen? ⟨b, off + j, none⟩ = false) ∧ OwnC w x (.agg #[c0, c1, c2, c3, c4, c5, c6, c7, c8, c9, c10]) bs1) ∧ RowOwnC w b (off + 11) r bs2
end
mutual
theorem OwnC.later {w w' : World} : ∀ (x : Ck) (v : Value) (bs : List Nat), SameOn bs w w' → OwnC w x v bs → OwnC w' x v bs
  | .mk k id nm n ids d ks, v, bs, hs, h => by
    unfold OwnC at h ⊢
    obtain ⟨i1, j1, s1, t1, k1, l1, a, cap, b1, b2, b3, h1, hk, hi, hn, hm, hr, hd, h4, h5, rfl, h6⟩ := h
    refine ⟨i1, j1, s1, t1, k1, l1, a, cap, b1, b2, b3, h1, hk, hi, hn, hm, hr.later hs.left.left, hd.later _ _ _ hs.left.right, h4, h5, rfl, ?_⟩
    rcases h6 with h6 | ⟨b, off, bs3, h6, rfl, h7⟩
    · exact .inl h6
    · exact .inr ⟨b, off, bs3, h6, rfl, RowOwnC.later b off ks bs3 hs.right h7⟩
theorem RowOwnC.later {w w' : World} (b : Nat) : ∀ (off : Nat) (l : List Ck) (bs : List Nat), SameOn (b :: bs) w w' → RowOwnC w b off l bs → RowOwnC w' b off l bs
  | _, [], bs, _, h => by unfold RowOwnC at h ⊢; exact h
  | off, x :: r, bs, hs, h => by
    unfold RowOwnC at h ⊢
    obtain ⟨bs1, bs2, rfl, ⟨c0, c1, c2, c3, c4, c5, c6, c7, c8, c9, c10, h0, h1, h2, h3, h4, h5, h6, h7, h8, h9, h10, hf, h12⟩, h13⟩ := h
    have hb : b ∈ b :: (bs1 ++ bs2) := List.mem_cons_self
    refine ⟨bs1, bs2, rfl, ⟨c0, c1, c2, c3, c4, c5, c6, c7, c8, c9, c10, by rw [hs.cell hb]; exact h0, by rw [hs.cell hb]; exact h1, by rw [hs.cell hb]; exact h2, by rw [hs.cell hb]; exact h3, by rw [hs.cell hb]; exact h4, by rw [hs.cell hb]; exact h5, by rw [hs.cell hb]; exact h6, by rw [hs.cell hb]; exact h7, by rw [hs.cell hb]; exact h8, by rw [hs.cell hb]; exact h9, by rw [hs.cell hb]; exact h10, fun j hj => by rw [hs.frozen hb]; exact hf j hj, OwnC.later x _ bs1 (fun x hx => hs x (List.mem_cons_of_mem _ (List.mem_append_left _ hx))) h12⟩, RowOwnC.later b (off + 11) r bs2 (fun x hx => by
        rcases List.mem_cons.1 hx with rfl | hx
        · exact hs _ hb
        · exact hs x (List.mem_cons_of_mem _ (List.mem_append_right _ hx))) h13⟩
end
theorem RowOwnC.upto {w w' : World} {b : Nat} : ∀ {l : List Ck} {off : Nat} {bs : List Nat}, SameOn bs w w' →
    (∀ i, off ≤ i → i < off + l.length * 11 → w'.cell? ⟨b, i, none⟩ = w.cell? ⟨b, i, none⟩ ∧ w'.frozen? ⟨b, i, none⟩ = w.frozen? ⟨b, i, none⟩) → RowOwnC w b off l bs → RowOwnC w' b off l bs
  | [], _, _, _, _, h => by unfold RowOwnC at h ⊢; exact h
  | x :: r, off, bs, hs, hc, h => by
    unfold RowOwnC at h ⊢
    obtain ⟨bs1, bs2, rfl, ⟨c0, c1, c2, c3, c4, c5, c6, c7, c8, c9, c10, h0, h1, h2, h3, h4, h5, h6, h7, h8, h9, h10, hf, h12⟩, h13⟩ := h
    have hl : (x :: r).length = r.length + 1 := rfl
    refine ⟨bs1, bs2, rfl, ⟨c0, c1, c2, c3, c4, c5, c6, c7, c8, c9, c10, by rw [(hc (off) (by omega) (by omega)).1]; exact h0, by rw [(hc (off + 1) (by omega) (by omega)).1]; exact h1, by rw [(hc (off + 2) (by omega) (by omega)).1]; exact h2, by rw [(hc (off + 3) (by omega) (by omega)).1]; exact h3, by rw [(hc (off + 4) (by omega) (by omega)).1]; exact h4, by rw [(hc (off + 5) (by omega) (by omega)).1]; exact h5, by rw [(hc (off + 6) (by omega) (by omega)).1]; exact h6, by rw [(hc (off + 7) (by omega) (by omega)).1]; exact h7, by rw [(hc (off + 8) (by omega) (by omega)).1]; exact h8, by rw [(hc (off + 9) (by omega) (by omega)).1]; exact h9, by rw [(hc (off + 10) (by omega) (by omega)).1]; exact h10, fun j hj => by rw [(hc (off + j) (by omega) (by omega)).2]; exact hf j hj,
      OwnC.later x _ bs1 hs.left h12⟩, RowOwnC.upto hs.right (fun i h1 h2 => hc i (by omega) (by omega)) h13⟩
mutual
theorem OwnC.inC {φ : Nat → Prop} {w : World} : ∀ (x : Ck) (v : Value) (bs : List Nat), (∀ b ∈ bs, φ b) → OwnC w x v bs → InC φ w x v
  | .mk k id nm n ids d ks, v, bs, hp, h => by
    unfold OwnC at h
    unfold InC
    obtain ⟨i1, j1, s1, t1, k1, l1, a, cap, b1, b2, b3, h1, hk, hi, hn, hm, hr, hd, h4, h5, rfl, h6⟩ := h
    refine ⟨i1, j1, s1, t1, k1, l1, a, cap, h1, hk, hi, hn, hm, IntOwn.inRow (fun b hb => hp b (by simp [hb])) hr, OwnV.inV d _ b2 (fun b hb => hp b (by simp [hb])) hd, h4, h5, ?_⟩
    rcases h6 with h6 | ⟨b, off, bs3, h6, rfl, h7⟩
    · exact .inl h6.1
    · exact .inr ⟨b, off, h6, hp b (by simp), RowOwnC.inRow b off ks bs3 (fun x hx => hp x (by simp [hx])) h7⟩
theorem RowOwnC.inRow {φ : Nat → Prop} {w : World} (b : Nat) : ∀ (off : Nat) (l : List Ck) (bs : List Nat), (∀ x ∈ bs, φ x) → RowOwnC w b off l bs → RowC φ w b off l
  | _, [], _, _, _ => by unfold RowC; trivial
  | off, x :: r, bs, hp, h => by
    unfold RowOwnC at h
    unfold RowC
    obtain ⟨bs1, bs2, rfl, ⟨c0, c1, c2, c3, c4, c5, c6, c7, c8, c9, c10, h0, h1, h2, h3, h4, h5, h6, h7, h8, h9, h10, _, h12⟩, h13⟩ := h
    exact ⟨⟨c0, c1, c2, c3, c4, c5, c6, c7, c8, c9, c10, h0, h1, h2, h3, h4, h5, h6, h7, h8, h9, h10, OwnC.inC x _ bs1 (fun x hx => hp x (List.mem_append_left _ hx)) h12⟩, RowOwnC.inRow b (off + 11) r bs2 (fun x hx => hp x (List.mem_append_right _ hx)) h13⟩
end
theorem RowOwnC.snoc {w : World} {b : Nat} : ∀ {l : List Ck} {off : Nat} {bs bs' : List Nat} {x : Ck} {c0 c1 c2 c3 c4 c5 c6 c7 c8 c9 c10 : Value}, RowOwnC w b off l bs →
    (w.cell? ⟨b, off + l.length * 11, none⟩ = some c0 ∧ w.cell? ⟨b, off + l.length * 11 + 1, none⟩ = some c1 ∧ w.cell? ⟨b, off + l.length * 11 + 2, none⟩ = some c2 ∧ w.cell? ⟨b, off + l.length * 11 + 3, none⟩ = some c3 ∧ w.cell? ⟨b, off + l.length * 11 + 4, none⟩ = some c4 ∧ w.cell? ⟨b, off + l.length * 11 + 5, none⟩ = some c5 ∧ w.cell? ⟨b, off + l.length * 11 + 6, none⟩ = some c6 ∧ w.cell? ⟨b, off + l.length * 11 + 7, none⟩ = some c7 ∧ w.cell? ⟨b, off + l.length * 11 + 8, none⟩ = some c8 ∧ w.cell? ⟨b, off + l.length * 11 + 9, none⟩ = some c9 ∧ w.cell? ⟨b, off + l.length * 11 + 10, none⟩ = some c10) → (∀ j, j < 11 → w.frozen? ⟨b, off + l.length * 11 + j, none⟩ = false) →
    OwnC w x (.agg #[c0, c1, c2, c3, c4, c5, c6, c7, c8, c9, c10]) bs' → RowOwnC w b off (l ++ [x]) (bs ++ bs')
  | [], off, bs, bs', x, c0, c1, c2, c3, c4, c5, c6, c7, c8, c9, c10, h, ⟨h0, h1, h2, h3, h4, h5, h6, h7, h8, h9, h10⟩, hf, h12 => by
    unfold RowOwnC at h
    subst h
    show RowOwnC w b off (x :: []) ([] ++ bs')
    unfold RowOwnC
    refine ⟨bs', [], by simp, ⟨c0, c1, c2, c3, c4, c5, c6, c7, c8, c9, c10, by simpa using h0, by simpa using h1, by simpa using h2, by simpa using h3, by simpa using h4, by simpa using h5, by simpa using h6, by simpa using h7, by simpa using h8, by simpa using h9, by simpa using h10, by simpa using hf, h12⟩, ?_⟩
    unfold RowOwnC
    rfl
  | g :: r, off, bs, bs', x, c0, c1, c2, c3, c4, c5, c6, c7, c8, c9, c10, h, hc, hf, h12 => by
    unfold RowOwnC at h
    obtain ⟨bs1, bs2, rfl, hg, hr⟩ := h
    have e : off + (g :: r).length * 11 = off + 11 + r.length * 11 := by simp; omega
    rw [e] at hc hf
    have := RowOwnC.snoc hr hc hf h12
    show RowOwnC w b off (g :: (r ++ [x])) (bs1 ++ bs2 ++ bs')
    unfold RowOwnC
    exact ⟨bs1, bs2 ++ bs', by simp, hg, this⟩
/-- a list of core programs in blocks of its own -/
def CoresOwn (w : World) (a : Option Addr) (cap : Nat) (l : List Ck) (bs : List Nat) : Prop :=
  l.length ≤ cap ∧ cap ≤ maxLen ∧ ((l = [] ∧ bs = []) ∨ ∃ b off bs3, a = some ⟨b, off, none⟩ ∧ bs = b :: bs3 ∧ RowOwnC w b off l bs3)
theorem CoresOwn.later {w w' : World} {a : Option Addr} {cap : Nat} {l : List Ck} {bs : List Nat} (hs : SameOn bs w w') (h : CoresOwn w a cap l bs) : CoresOwn w' a cap l bs := by
  obtain ⟨h1, h2, h3⟩ := h
  refine ⟨h1, h2, ?_⟩
  rcases h3 with h3 | ⟨b, off, bs3, h3, rfl, h4⟩
  · exact .inl h3
  · exact .inr ⟨b, off, bs3, h3, rfl, RowOwnC.later b off l bs3 hs h4⟩
theorem CoresOwn.reads {φ : Nat → Prop} {w : World} {a : Option Addr} {cap : Nat} {l : List Ck} {bs : List Nat} (h : CoresOwn w a cap l bs) (hp : ∀ b ∈ bs, φ b) : CoresIn φ w a cap l := by
  refine ⟨h.1, h.2.1, ?_⟩
  rcases h.2.2 with h3 | ⟨b, off, bs3, e1, rfl, h3⟩
  · exact .inl h3.1
  · exact .inr ⟨b, off, e1, hp b (by simp), RowOwnC.inRow b off l bs3 (fun x hx => hp x (by simp [hx])) h3⟩
/-- the block that a list is copied into: the first 'j' are done -/
structure FillC (w wr : World) (ks : List Ck) (j : Nat) (bs : List Nat) : Prop where
  below : Below w.heap.size w wr
  size : w.heap.size < wr.heap.size
  row : RowOwnC wr w.heap.size 0 (ks.take j) bs
  news : NewBs bs (w.heap.size + 1) wr.heap.size
  there : ∀ i, i < ks.length * 11 → ∃ v, wr.cell? ⟨w.heap.size, i, none⟩ = some v
  free : ∀ i, wr.frozen? ⟨w.heap.size, i, none⟩ = false
  plain : Plain wr w.heap.size
  plains : AllPlain wr bs
theorem FillC.step {w wr w3 : World} {ks : List Ck} {j : Nat} {bs bs' : List Nat} {c0 c1 c2 c3 c4 c5 c6 c7 c8 c9 c10 : Value} (h : FillC w wr ks j bs) (hj : j < ks.length) (hb : Below wr.heap.size wr w3)
    (ho : OwnC w3 ks[j] (.agg #[c0, c1, c2, c3, c4, c5, c6, c7, c8, c9, c10]) bs') (hn : NewBs bs' wr.heap.size w3.heap.size) (hp : AllPlain w3 bs') : FillC w (sets w3 w.heap.size (j * 11) [c0, c1, c2, c3, c4, c5, c6, c7, c8, c9, c10]) ks (j + 1) (bs ++ bs') := by
  have hsz := h.size
  have hsz3 := hb.size
  have hth : ∀ i, i < ks.length * 11 → ∃ v, w3.cell? ⟨w.heap.size, i, none⟩ = some v := fun i hi => by
    obtain ⟨v, hv⟩ := h.there i hi
    exact ⟨v, cell_later' hb hv⟩
  have hin := sets_in w.heap.size [c0, c1, c2, c3, c4, c5, c6, c7, c8, c9, c10] w3 (j * 11) (fun i hi => hth (j * 11 + i) (by simp only [List.length_cons, List.length_nil] at hi; omega))
  obtain ⟨L, hL⟩ : ∃ L, L = [c0, c1, c2, c3, c4, c5, c6, c7, c8, c9, c10] := ⟨_, rfl⟩
  have hl11 : L.length = 11 := by rw [hL]; rfl
  rw [← hL] at hin ⊢
  have hfr : ∀ i, (sets w3 w.heap.size (j * 11) L).frozen? ⟨w.heap.size, i, none⟩ = false := fun i => by
    rw [sets_frozen, hb.frozen (p := ⟨w.heap.size, i, none⟩) hsz]; exact h.free i
  refine ⟨sets_below (Nat.le_refl _) _ _ (h.below.trans (hb.mono (by omega))), by rw [sets_size]; omega, ?_, ?_, fun i hi => ?_, hfr, (h.plain.later hb).sets _ _ _, ((h.plains.later hb).append hp).same (fun x hx => ?_)⟩
  rotate_left 3
  · rcases List.mem_append.1 hx with hx | hx
    · have := h.news.2 x hx; exact sets_block _ _ _ _ (by omega)
    · have := hn.2 x hx; exact sets_block _ _ _ _ (by omega)
  · rw [List.take_succ_eq_append_getElem hj]
    have hl : (ks.take j).length = j := by simp; omega
    have hrow : RowOwnC (sets w3 w.heap.size (j * 11) L) w.heap.size 0 (ks.take j) bs := by
      refine RowOwnC.upto (w := wr) (fun x hx => ?_) (fun i _ hi => ?_) h.row
      · have := h.news.2 x hx
        rw [sets_block _ _ _ _ (by omega)]
        exact hb.block x (by omega)
      · rw [hl] at hi
        exact ⟨by rw [sets_out _ _ _ _ _ (by omega)]; exact hb.cell (p := ⟨w.heap.size, i, none⟩) hsz, by rw [sets_frozen]; exact hb.frozen (p := ⟨w.heap.size, i, none⟩) hsz⟩
    have e : 0 + (ks.take j).length * 11 = j * 11 := by rw [hl]; omega
    refine RowOwnC.snoc hrow ?_ (fun i _ => hfr _) (OwnC.later _ _ _ (fun x hx => ?_) ho)
    · rw [e]
      subst hL
      exact ⟨hin 0 (by simp), hin 1 (by simp), hin 2 (by simp), hin 3 (by simp), hin 4 (by simp), hin 5 (by simp), hin 6 (by simp), hin 7 (by simp), hin 8 (by simp), hin 9 (by simp), hin 10 (by simp)⟩
    · have := hn.2 x hx
      exact sets_block _ _ _ _ (by omega)
  · rw [sets_size]
    exact h.news.append hn (by omega) (by omega)
  · by_cases hi2 : i < j * 11 ∨ j * 11 + 11 ≤ i
    · rw [sets_out _ _ _ _ _ (by rw [hl11]; exact hi2)]; exact hth i hi
    · obtain ⟨k, rfl⟩ : ∃ k, i = j * 11 + k := ⟨i - j * 11, by omega⟩
      exact ⟨_, hin k (by omega)⟩
end Go.Proofs.Ytbclgmabidjegaa
