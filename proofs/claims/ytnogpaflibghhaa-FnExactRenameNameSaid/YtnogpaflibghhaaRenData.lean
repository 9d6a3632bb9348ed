/- A form with its names changed, node by node: the state between two rounds. -/
import Derived.Test.YtnogpaflibghhaaMids
namespace Go.Proofs.Ytnogpaflibghhaa
section
open Go.RowKit
set_option linter.unusedVariables false
set_option linter.unusedSimpArgs false
section
variable (nf : ByteArray → ByteArray)
mutual
/-- a form with the name of each of its nodes changed -/
def Fm.rn : Fm → Fm
  | .mk k nm n sc ks => .mk k (nf nm) n sc (rnAll ks)
def rnAll : List Fm → List Fm
  | [] => []
  | f :: r => f.rn :: rnAll r
end
end
variable {nf : ByteArray → ByteArray}
theorem rnAll_length (ks : List Fm) : (rnAll nf ks).length = ks.length := by
  induction ks with
  | nil => simp [rnAll]
  | cons f r ih => simp [rnAll, ih]
theorem rn_eq (f : Fm) : f.rn nf = .mk f.kind (nf f.name) f.n f.scopes (rnAll nf f.kids) := by cases f; simp [Fm.rn, Fm.kind, Fm.name, Fm.n, Fm.scopes, Fm.kids]
/-- a node that is done: its five cells, and the form of its own that they are -/
def FinR (nf : ByteArray → ByteArray) (w : World) (x : Addr × Fm) (bs : List Nat) : Prop :=
  ∃ b o, x.1 = ⟨b, o, none⟩ ∧ ∃ sa scap a cap, w.cell? ⟨b, o, none⟩ = some (.int .i64 x.2.kind) ∧ w.cell? ⟨b, o + 1, none⟩ = some (.string (nf x.2.name)) ∧ w.cell? ⟨b, o + 2, none⟩ = some (.int .i64 x.2.n) ∧
    w.cell? ⟨b, o + 3, none⟩ = some (.slice sa x.2.scopes.length scap) ∧ w.cell? ⟨b, o + 4, none⟩ = some (.slice a x.2.kids.length cap) ∧ (∀ j, j < 5 → w.frozen? ⟨b, o + j, none⟩ = false) ∧
    OwnV w (x.2.rn nf) (.agg #[.int .i64 x.2.kind, .string (nf x.2.name), .int .i64 x.2.n, .slice sa x.2.scopes.length scap, .slice a x.2.kids.length cap]) bs
/-- each of the forms is done, in blocks of its own -/
def FinsR (nf : ByteArray → ByteArray) (w : World) : List (Addr × Fm) → List (List Nat) → Prop
  | [], [] => True
  | x :: l, bs :: bl => FinR nf w x bs ∧ FinsR nf w l bl
  | _, _ => False
theorem FinsR.append {w : World} : ∀ {l m : List (Addr × Fm)} {bl : List (List Nat)}, FinsR nf w (l ++ m) bl → ∃ b1 b2, bl = b1 ++ b2 ∧ FinsR nf w l b1 ∧ FinsR nf w m b2
  | [], m, bl, h => ⟨[], bl, rfl, trivial, h⟩
  | x :: l, m, [], h => by simp [FinsR] at h
  | x :: l, m, b :: bl, h => by
    obtain ⟨h1, h2⟩ := h
    obtain ⟨b1, b2, rfl, h3, h4⟩ := FinsR.append h2
    exact ⟨b :: b1, b2, rfl, ⟨h1, h3⟩, h4⟩
theorem FinsR.snoc {w : World} : ∀ {l : List (Addr × Fm)} {bl : List (List Nat)} {x : Addr × Fm} {bs : List Nat}, FinsR nf w l bl → FinR nf w x bs → FinsR nf w (l ++ [x]) (bl ++ [bs])
  | [], [], x, bs, _, h => ⟨h, trivial⟩
  | [], _ :: _, _, _, h, _ => by simp [FinsR] at h
  | _ :: _, [], _, _, h, _ => by simp [FinsR] at h
  | y :: l, b :: bl, x, bs, h, g => ⟨h.1, FinsR.snoc h.2 g⟩
theorem FinsR.row {w : World} (b : Nat) : ∀ (ks : List Fm) (off : Nat) (bl : List (List Nat)), FinsR nf w (itemsOf b off ks) bl → RowOwn w b off (rnAll nf ks) bl.flatten
  | [], off, [], _ => by simp [rnAll, RowOwn]
  | [], off, _ :: _, h => by simp [itemsOf, FinsR] at h
  | f :: r, off, [], h => by simp [itemsOf, FinsR] at h
  | f :: r, off, bs :: bl, h => by
    obtain ⟨⟨b', o', e, sa, scap, a, cap, c0, c1, c2, c3, c4, hf, hown⟩, h2⟩ := h
    injection e with e1 e2
    subst e1 e2
    have := FinsR.row b r (off + 5) bl h2
    simp only [rnAll, List.flatten_cons]
    unfold RowOwn
    exact ⟨bs, bl.flatten, rfl, ⟨_, _, _, _, _, c0, c1, c2, c3, c4, hf, hown⟩, this⟩
/-- the state between two rounds -/
structure RnMid (nf : ByteArray → ByteArray) (base : Nat) (w0 wr : World) (root : Addr × Fm) (l : List (Addr × Fm)) (D : Nat → Nat → Prop) (E : List Nat) : Prop where
  below : Below base w0 wr
  size : base ≤ wr.heap.size
  todo : ∀ x ∈ l, Todo (· < base) w0 wr x ∧ base ≤ x.1.block ∧ x.1.block < wr.heap.size
  apart : l.Pairwise ApartI
  free : ∀ x ∈ l, ∀ j, j < 5 → ¬ D x.1.block (x.1.off + j)
  dlt : ∀ b o, D b o → b < wr.heap.size
  wand : ∀ (w' : World) (bl : List (List Nat)), (∀ b o, D b o → w'.cell? ⟨b, o, none⟩ = wr.cell? ⟨b, o, none⟩ ∧ w'.frozen? ⟨b, o, none⟩ = wr.frozen? ⟨b, o, none⟩) → FinsR nf w' l bl →
    ∃ bs, FinR nf w' root bs ∧ bs.Perm (E ++ bl.flatten)
  enew : E.Nodup ∧ (∀ c ∈ E, base ≤ c ∧ c < wr.heap.size) ∧ AllPlain wr E
theorem RnMid.start {base : Nat} {w0 wr : World} {root : Addr × Fm} (hb : Below base w0 wr) (hs : base ≤ wr.heap.size) (ht : Todo (· < base) w0 wr root) (h1 : base ≤ root.1.block) (h2 : root.1.block < wr.heap.size) :
    RnMid nf base w0 wr root [root] (fun _ _ => False) [] :=
  ⟨hb, hs, fun x hx => by rw [List.mem_singleton] at hx; subst hx; exact ⟨ht, h1, h2⟩, by simp, fun x _ j _ h => h, fun _ _ h => h.elim, fun w' bl _ hf => by
    match bl, hf with
    | [bs], hf => exact ⟨bs, hf.1, by simp⟩
    | [], hf => simp [FinsR] at hf
    | _ :: _ :: _, hf => simp [FinsR] at hf, List.nodup_nil, fun c hc => (by cases hc), AllPlain.nil _⟩
theorem RnMid.ends {base : Nat} {w0 wr : World} {root : Addr × Fm} {D : Nat → Nat → Prop} {E : List Nat} (h : RnMid nf base w0 wr root [] D E) :
    ∃ bs, FinR nf wr root bs ∧ NewBs bs base wr.heap.size ∧ AllPlain wr bs ∧ ∀ c ∈ bs, c ∈ E := by
  obtain ⟨bs, h1, h2⟩ := h.wand wr [] (fun _ _ _ => ⟨rfl, rfl⟩) trivial
  simp only [List.flatten_nil, List.append_nil] at h2
  exact ⟨bs, h1, ⟨h2.nodup_iff.2 h.enew.1, fun c hc => h.enew.2.1 c (h2.mem_iff.1 hc)⟩, fun c hc => h.enew.2.2 c (h2.mem_iff.1 hc), fun c hc => h2.mem_iff.1 hc⟩
/-- the world turns, but for new blocks, outside all that matters -/
theorem RnMid.later {base : Nat} {w0 wr w' : World} {root : Addr × Fm} {l : List (Addr × Fm)} {D : Nat → Nat → Prop} {E : List Nat} (h : RnMid nf base w0 wr root l D E) (hb : Below base wr w') (hz : wr.heap.size ≤ w'.heap.size)
    (hk : ∀ k, (∃ x ∈ l, x.1.block = k) ∨ (∃ o, D k o) ∨ k ∈ E → w'.heap[k]? = wr.heap[k]?) : RnMid nf base w0 w' root l D E := by
  refine ⟨h.below.trans hb, Nat.le_trans h.size hz, fun x hx => ?_, h.apart, h.free, fun b o hd => Nat.lt_of_lt_of_le (h.dlt b o hd) hz, fun w2 bl ha hf => ?_, h.enew.1, fun c hc => ⟨(h.enew.2.1 c hc).1, Nat.lt_of_lt_of_le (h.enew.2.1 c hc).2 hz⟩, fun c hc => (h.enew.2.2 c hc).same (hk c (.inr (.inr hc)))⟩
  · obtain ⟨⟨b, o, e, sa, scap, a, cap, c0, c1, c2, c3, c4, hf, hin⟩, h1, h2⟩ := h.todo x hx
    have hs := hk x.1.block (.inl ⟨x, hx, rfl⟩)
    rw [e] at hs h1 h2
    refine ⟨⟨b, o, e, sa, scap, a, cap, ?_, ?_, ?_, ?_, ?_, fun j hj => ?_, hin⟩, by rw [e]; exact h1, by rw [e]; exact Nat.lt_of_lt_of_le h2 hz⟩
    · rw [World.cell?_of_block (a := ⟨b, o, none⟩) hs]; exact c0
    · rw [World.cell?_of_block (a := ⟨b, o + 1, none⟩) hs]; exact c1
    · rw [World.cell?_of_block (a := ⟨b, o + 2, none⟩) hs]; exact c2
    · rw [World.cell?_of_block (a := ⟨b, o + 3, none⟩) hs]; exact c3
    · rw [World.cell?_of_block (a := ⟨b, o + 4, none⟩) hs]; exact c4
    · rw [World.frozen?_of_block (a := ⟨b, o + j, none⟩) hs]; exact hf j hj
  · refine h.wand w2 bl (fun b o hd => ?_) hf
    have hs := hk b (.inr (.inl ⟨o, hd⟩))
    obtain ⟨g1, g2⟩ := ha b o hd
    exact ⟨g1.trans (World.cell?_of_block (a := ⟨b, o, none⟩) hs), g2.trans (World.frozen?_of_block (a := ⟨b, o, none⟩) hs)⟩
theorem RnMid.step {base : Nat} {w0 wr w5 : World} {root : Addr × Fm} {l0 : List (Addr × Fm)} {b o : Nat} {f : Fm} {D : Nat → Nat → Prop} {E : List Nat}
    (h : RnMid nf base w0 wr root (l0 ++ [(⟨b, o, none⟩, f)]) D E) (hb : Below base wr w5) (hz : wr.heap.size ≤ w5.heap.size)
    (hk : ∀ k, RelB l0 D E k → k ≠ b → w5.heap[k]? = wr.heap[k]?) (hkf : ∀ i, w5.frozen? ⟨b, i, none⟩ = wr.frozen? ⟨b, i, none⟩) (hkc : ∀ i, i ≠ o + 3 → i ≠ o + 4 → i ≠ o + 1 → w5.cell? ⟨b, i, none⟩ = wr.cell? ⟨b, i, none⟩) (h1 : w5.cell? ⟨b, o + 1, none⟩ = some (.string (nf f.name)))
    (hpb : Plain wr b → Plain w5 b) {sa a : Option Addr} {scap cap : Nat} {bs1 kbs : List Nat} {kb : Nat}
    (h3 : w5.cell? ⟨b, o + 3, none⟩ = some (.slice sa f.scopes.length scap)) (hI : IntOwn w5 (.slice sa f.scopes.length scap) f.scopes bs1)
    (hN : NewBs (bs1 ++ kbs) wr.heap.size w5.heap.size) (hP : AllPlain w5 (bs1 ++ kbs))
    (h4 : w5.cell? ⟨b, o + 4, none⟩ = some (.slice a f.kids.length cap)) (hcap : f.kids.length ≤ cap) (hmax : cap ≤ maxLen)
    (hkids : (f.kids = [] ∧ kbs = []) ∨ (a = some ⟨kb, 0, none⟩ ∧ kbs = [kb])) (htk : ∀ x ∈ itemsOf kb 0 f.kids, Todo (· < base) w0 w5 x)
    (hfk : -9223372036854775808 ≤ f.kind ∧ f.kind ≤ 9223372036854775807) (hfn : -9223372036854775808 ≤ f.n ∧ f.n ≤ 9223372036854775807) (hnm : (nf f.name).size ≤ maxLen) :
    RnMid nf base w0 w5 root (l0 ++ itemsOf kb 0 f.kids) (fun c i => D c i ∨ (c = b ∧ o ≤ i ∧ i < o + 5) ∨ c ∈ bs1) (E ++ (bs1 ++ kbs)) := by
  obtain ⟨⟨b', o', e, sa0, scap0, a0, cap0, c0, c1, c2, c3, c4, hf, hin⟩, hbb, hbl⟩ := h.todo (⟨b, o, none⟩, f) (by simp)
  injection e with e1 e2
  subst e1 e2
  simp only at hbb hbl c0 c1 c2
  have hfree := h.free (⟨b, o, none⟩, f) (by simp)
  simp only at hfree
  have hDx : ∀ i, D b i → i < o ∨ o + 5 ≤ i := fun i hd => by
    by_cases h1 : o ≤ i ∧ i < o + 5
    · exfalso
      refine hfree (i - o) (by omega) ?_
      rw [show o + (i - o) = i from by omega]
      exact hd
    · omega
  have hap : ∀ y ∈ l0, ApartI y (⟨b, o, none⟩, f) := fun y hy => (List.pairwise_append.1 h.apart).2.2 y hy _ (by simp)
  have hkbn : f.kids ≠ [] → kb ∈ kbs ∧ a = some ⟨kb, 0, none⟩ := fun hn => by
    rcases hkids with ⟨h1, _⟩ | ⟨h1, h2⟩
    · exact absurd h1 hn
    · exact ⟨by rw [h2]; simp, h1⟩
  have hkmem : ∀ x ∈ itemsOf kb 0 f.kids, x.1.block = kb ∧ kb ∈ kbs := fun x hx => by
    obtain ⟨i, hi, e⟩ := itemsOf_mem kb f.kids 0 x hx
    exact ⟨by rw [e], (hkbn (by intro h0; rw [h0] at hi; simp at hi)).1⟩
  have hnew : ∀ c ∈ bs1 ++ kbs, wr.heap.size ≤ c ∧ c < w5.heap.size := hN.2
  have hn1 : ∀ c ∈ bs1, wr.heap.size ≤ c ∧ c < w5.heap.size := fun c hc => hnew c (List.mem_append_left _ hc)
  have hn2 : ∀ c ∈ kbs, wr.heap.size ≤ c ∧ c < w5.heap.size := fun c hc => hnew c (List.mem_append_right _ hc)
  obtain ⟨nd1, nd2, nd3⟩ := List.nodup_append.1 hN.1
  have hl0 : ∀ y ∈ l0, Todo (· < base) w0 wr y ∧ base ≤ y.1.block ∧ y.1.block < wr.heap.size := fun y hy => h.todo y (List.mem_append_left _ hy)
  -- cells that stay
  have hcell : ∀ c i, RelB l0 D E c → (c = b → i ≠ o + 3 ∧ i ≠ o + 4 ∧ i ≠ o + 1) → w5.cell? ⟨c, i, none⟩ = wr.cell? ⟨c, i, none⟩ := fun c i hr hne => by
    by_cases e : c = b
    · subst e; exact hkc i (hne rfl).1 (hne rfl).2.1 (hne rfl).2.2
    · exact World.cell?_of_block (a := ⟨c, i, none⟩) (hk c hr e)
  have hfroz : ∀ c i, RelB l0 D E c → w5.frozen? ⟨c, i, none⟩ = wr.frozen? ⟨c, i, none⟩ := fun c i hr => by
    by_cases e : c = b
    · subst e; exact hkf i
    · exact World.frozen?_of_block (a := ⟨c, i, none⟩) (hk c hr e)
  refine ⟨h.below.trans hb, Nat.le_trans h.size hz, fun y hy => ?_, ?_, fun y hy j hj hd => ?_, fun c i hd => ?_, fun w' bl ha hfin => ?_, ?_, fun c hc => ?_, fun c hc => ?_⟩
  · rcases List.mem_append.1 hy with hy | hy
    · obtain ⟨⟨c, i, e, sa', scap', a', cap', d0, d1, d2, d3, d4, df, din⟩, g1, g2⟩ := hl0 y hy
      have hr : RelB l0 D E c := .inl ⟨y, hy, by rw [e]⟩
      have hne : ∀ j, j < 5 → c = b → i + j ≠ o + 3 ∧ i + j ≠ o + 4 ∧ i + j ≠ o + 1 := fun j hj ec => by
        have := hap y hy
        unfold ApartI at this
        rw [e] at this
        simp only at this
        rcases this with h1 | h1 | h1
        · exact absurd ec h1
        · omega
        · omega
      refine ⟨⟨c, i, e, sa', scap', a', cap', ?_, ?_, ?_, ?_, ?_, fun j hj => ?_, din⟩, g1, Nat.lt_of_lt_of_le g2 hz⟩
      · rw [hcell c i hr (by simpa using hne 0 (by omega))]; exact d0
      · rw [hcell c (i + 1) hr (hne 1 (by omega))]; exact d1
      · rw [hcell c (i + 2) hr (hne 2 (by omega))]; exact d2
      · rw [hcell c (i + 3) hr (hne 3 (by omega))]; exact d3
      · rw [hcell c (i + 4) hr (hne 4 (by omega))]; exact d4
      · rw [hfroz c (i + j) hr]; exact df j hj
    · obtain ⟨g1, g2⟩ := hkmem y hy
      have := hn2 kb g2
      exact ⟨htk y hy, by rw [g1]; exact Nat.le_trans h.size this.1, by rw [g1]; exact this.2⟩
  · refine List.pairwise_append.2 ⟨(List.pairwise_append.1 h.apart).1, itemsOf_apart _ _ _, fun y hy z hz' => .inl ?_⟩
    obtain ⟨g1, g2⟩ := hkmem z hz'
    have := (hl0 y hy).2.2
    have := hn2 kb g2
    omega
  · rcases List.mem_append.1 hy with hy | hy
    · rcases hd with hd | ⟨e, h1, h2⟩ | hd
      · exact h.free y (List.mem_append_left _ hy) j hj hd
      · have := hap y hy
        unfold ApartI at this
        simp only at this
        omega
      · have := (hl0 y hy).2.2
        have := hn1 _ hd
        omega
    · obtain ⟨g1, g2⟩ := hkmem y hy
      have g3 := hn2 kb g2
      rw [g1] at hd
      rcases hd with hd | ⟨e, _, _⟩ | hd
      · have := h.dlt _ _ hd; omega
      · omega
      · exact nd3 kb hd kb g2 rfl
  · rcases hd with hd | ⟨e, _, _⟩ | hd
    · exact Nat.lt_of_lt_of_le (h.dlt c i hd) hz
    · rw [e]; omega
    · exact (hn1 c hd).2
  · obtain ⟨b1, b2, rfl, f1, f2⟩ := hfin.append
    -- the node itself is done
    have hx : FinR nf w' (⟨b, o, none⟩, f) (bs1 ++ (kbs ++ b2.flatten)) := by
      have hcx : ∀ j, j < 5 → w'.cell? ⟨b, o + j, none⟩ = w5.cell? ⟨b, o + j, none⟩ ∧ w'.frozen? ⟨b, o + j, none⟩ = w5.frozen? ⟨b, o + j, none⟩ := fun j hj => ha b (o + j) (.inr (.inl ⟨rfl, by omega, by omega⟩))
      have q0 := (hcx 0 (by omega)).1.trans ((hkc (o + 0) (by omega) (by omega) (by omega)).trans c0)
      have q1 := (hcx 1 (by omega)).1.trans h1
      have q2 := (hcx 2 (by omega)).1.trans ((hkc (o + 2) (by omega) (by omega) (by omega)).trans c2)
      have q3 := (hcx 3 (by omega)).1.trans h3
      have q4 := (hcx 4 (by omega)).1.trans h4
      refine ⟨b, o, rfl, sa, scap, a, cap, q0, q1, q2, q3, q4, fun j hj => (hcx j hj).2.trans ((hkf (o + j)).trans (hf j hj)), ?_⟩
      have hIw : IntOwn w' (.slice sa f.scopes.length scap) f.scopes bs1 := by
        obtain ⟨ai, ci, g1, g2, g3, g4, g5⟩ := hI
        refine ⟨ai, ci, g1, g2, g3, g4, ?_⟩
        rcases g5 with g5 | ⟨bi, oi, g5, g6, g7⟩
        · exact .inl g5
        · refine .inr ⟨bi, oi, g5, g6, fun i hi => ?_⟩
          obtain ⟨k1, k2⟩ := ha bi (oi + i) (.inr (.inr (by rw [g6]; simp)))
          exact ⟨k1.trans (g7 i hi).1, k2.trans (g7 i hi).2⟩
      have hK : KidsOwn w' a cap (rnAll nf f.kids) (kbs ++ b2.flatten) := by
        refine ⟨by rw [rnAll_length]; exact hcap, hmax, ?_⟩
        rcases hkids with ⟨g1, g2⟩ | ⟨g1, g2⟩
        · left
          rw [g1] at f2
          match b2, f2 with
          | [], _ => exact ⟨by rw [g1]; simp [rnAll], by rw [g2]; rfl⟩
          | _ :: _, f2 => simp [itemsOf, FinsR] at f2
        · exact .inr ⟨kb, 0, b2.flatten, g1, by rw [g2]; rfl, f2.row kb f.kids 0 b2⟩
      have := OwnV.mk (w := w') (f := f.rn nf) (sa := sa) (a := a) (scap := scap) (cap := cap) (bs1 := bs1) (bs2 := kbs ++ b2.flatten) (by rw [rn_eq]; exact hfk) (by rw [rn_eq]; exact hfn) (by rw [rn_eq]; exact hnm)
        (by rw [rn_eq]; exact hIw) (by rw [rn_eq]; exact hK)
      rw [rn_eq] at this ⊢
      simp only [Fm.kind, Fm.name, Fm.n, Fm.scopes, Fm.kids, rnAll_length] at this ⊢
      exact this
    have hag : ∀ c i, D c i → w'.cell? ⟨c, i, none⟩ = wr.cell? ⟨c, i, none⟩ ∧ w'.frozen? ⟨c, i, none⟩ = wr.frozen? ⟨c, i, none⟩ := fun c i hd => by
      obtain ⟨k1, k2⟩ := ha c i (.inl hd)
      have hr : RelB l0 D E c := .inr (.inl ⟨i, hd⟩)
      refine ⟨k1.trans (hcell c i hr fun e => ?_), k2.trans (hfroz c i hr)⟩
      subst e
      have := hDx i hd
      omega
    obtain ⟨bs, g1, g2⟩ := h.wand w' (b1 ++ [bs1 ++ (kbs ++ b2.flatten)]) hag (f1.snoc hx)
    refine ⟨bs, g1, g2.trans ?_⟩
    rw [List.flatten_append, List.flatten_append, List.flatten_cons, List.flatten_nil, List.append_nil]
    have e1 : E ++ (bs1 ++ kbs) ++ (b1.flatten ++ b2.flatten) = E ++ ((bs1 ++ kbs) ++ (b1.flatten ++ b2.flatten)) := by simp
    rw [e1]
    refine List.Perm.append_left E ?_
    have e2 : b1.flatten ++ (bs1 ++ (kbs ++ b2.flatten)) = (b1.flatten ++ (bs1 ++ kbs)) ++ b2.flatten := by simp
    have e3 : (bs1 ++ kbs) ++ (b1.flatten ++ b2.flatten) = ((bs1 ++ kbs) ++ b1.flatten) ++ b2.flatten := by simp
    rw [e2, e3]
    exact List.Perm.append_right _ List.perm_append_comm
  · refine List.nodup_append.2 ⟨h.enew.1, hN.1, fun c hc d hd e => ?_⟩
    have := (h.enew.2.1 c hc).2
    have := (hnew d hd).1
    omega
  · rcases List.mem_append.1 hc with hc | hc
    · exact ⟨(h.enew.2.1 c hc).1, Nat.lt_of_lt_of_le (h.enew.2.1 c hc).2 hz⟩
    · exact ⟨Nat.le_trans h.size (hnew c hc).1, (hnew c hc).2⟩
  · rcases List.mem_append.1 hc with hc | hc
    · by_cases e : c = b
      · subst e; exact hpb (h.enew.2.2 c hc)
      · exact (h.enew.2.2 c hc).same (hk c (.inr (.inr hc)) e)
    · exact hP c hc
theorem RnMid.relLt {base : Nat} {w0 wr : World} {root : Addr × Fm} {l : List (Addr × Fm)} {D : Nat → Nat → Prop} {E : List Nat} (h : RnMid nf base w0 wr root l D E) {k : Nat} (hk : RelB l D E k) : k < wr.heap.size := by
  rcases hk with ⟨x, hx, rfl⟩ | ⟨o, hd⟩ | hk
  · exact (h.todo x hx).2.2
  · exact h.dlt k o hd
  · exact (h.enew.2.1 k hk).2
/-- what the change of one node leaves -/
structure ChangedR (nm : ByteArray) (new : List Int) (b o : Nat) (w w' : World) : Prop where
  only : Only [b] w w'
  sc : ∃ sa scap bs, w'.cell? ⟨b, o + 3, none⟩ = some (.slice sa new.length scap) ∧ IntOwn w' (.slice sa new.length scap) new bs ∧ NewBs bs w.heap.size w'.heap.size ∧ AllPlain w' bs
  nm : w'.cell? ⟨b, o + 1, none⟩ = some (.string nm)
  cell : ∀ i, i ≠ o + 3 → i ≠ o + 1 → w'.cell? ⟨b, i, none⟩ = w.cell? ⟨b, i, none⟩
  frozen : ∀ i, w'.frozen? ⟨b, i, none⟩ = w.frozen? ⟨b, i, none⟩
  plain : Plain w b → Plain w' b
theorem rnStep_nil {nf : ByteArray → ByteArray} {base : Nat} {w0 w2 w3 : World} {root : Addr × Fm} {l0 : List (Addr × Fm)} {b o : Nat} {f : Fm} {D : Nat → Nat → Prop} {E : List Nat}
    (h : RnMid nf base w0 w2 root (l0 ++ [(⟨b, o, none⟩, f)]) D E) (hc : ChangedR (nf f.name) f.scopes b o w2 w3) (hnf : (nf f.name).size ≤ maxLen) {u : Value} (h4 : w3.cell? ⟨b, o + 4, none⟩ = some u) (hk : f.kids = []) :
    ∃ D' E', RnMid nf base w0 (w3.setCell ⟨b, o + 4, none⟩ (.slice none 0 0)) root l0 D' E' ∧ RelGrows (l0 ++ [(⟨b, o, none⟩, f)]) l0 D D' E E' w2.heap.size := by
  obtain ⟨⟨b', o', e, _, _, _, _, _, _, _, _, _, _, hin⟩, hbb, hbl⟩ := h.todo (⟨b, o, none⟩, f) (by simp)
  injection e with e1 e2
  subst e1 e2
  simp only at hbb hbl
  obtain ⟨hfk, hfn, hnm⟩ := hin.bounds
  obtain ⟨sa, scap, bs, s1, s2, s3, s4⟩ := hc.sc
  have hne : ∀ c ∈ bs, c ≠ b := fun c hm => by have := (s3.2 c hm).1; omega
  have hsz : w2.heap.size ≤ w3.heap.size := hc.only.size
  have hset : (w3.setCell ⟨b, o + 4, none⟩ (.slice none 0 0)).heap.size = w3.heap.size := by simp [World.setCell]
  have := h.step (w5 := w3.setCell ⟨b, o + 4, none⟩ (.slice none 0 0)) (sa := sa) (a := none) (scap := scap) (cap := 0) (bs1 := bs) (kbs := []) (kb := 0)
    (((hc.only.below (fun c hm => by rw [List.mem_singleton] at hm; subst hm; exact hbb) (h.size))).setCell (by simpa using hbb) _) (by rw [hset]; exact hsz)
    (fun k hr hn => by rw [Below.heap_setCell _ _ _ _ hn]; exact hc.only.block k (h.relLt hr.left) (by simpa using hn))
    (fun i => by rw [World.frozen?_setCell]; exact hc.frozen i) (fun i h1 h2 h3 => by rw [World.cell?_setCell_other _ _ _ _ (addr_ne (by omega))]; exact hc.cell i h1 h3) (by rw [World.cell?_setCell_other _ _ _ _ (addr_ne (by omega))]; exact hc.nm)
    (fun hp => (hc.plain hp).setCell _ _ _) (by rw [World.cell?_setCell_other _ _ _ _ (addr_ne (by omega))]; exact s1)
    (s2.later fun c hm => Below.heap_setCell _ _ _ _ (hne c hm)) (by rw [List.append_nil, hset]; exact s3) (by rw [List.append_nil]; exact s4.same fun c hm => Below.heap_setCell _ _ _ _ (hne c hm))
    (by rw [hk]; exact World.cell?_setCell_same _ _ _ h4) (by rw [hk]; exact Nat.le_refl _) (Nat.zero_le _) (.inl ⟨hk, rfl⟩) (by rw [hk]; intro x hx; cases hx) hfk hfn hnf
  rw [hk, show itemsOf 0 0 [] = [] from rfl, List.append_nil] at this
  refine ⟨_, _, this, fun k hr => ?_⟩
  rcases hr with ⟨x, hx, e⟩ | ⟨i, hd | ⟨e, _⟩ | hd⟩ | hm
  · exact .inl (.inl ⟨x, List.mem_append_left _ hx, e⟩)
  · exact .inl (.inr (.inl ⟨i, hd⟩))
  · exact .inl (.inl ⟨_, List.mem_append_right _ (List.mem_singleton.2 rfl), e.symm⟩)
  · exact .inr (s3.2 k hd).1
  · rcases List.mem_append.1 hm with hm | hm
    · exact .inl (.inr (.inr hm))
    · rw [List.append_nil] at hm
      exact .inr (s3.2 k hm).1
theorem rnStep_kids {nf : ByteArray → ByteArray} {base : Nat} {w0 w2 w3 w4 : World} {root : Addr × Fm} {l0 : List (Addr × Fm)} {b o : Nat} {f : Fm} {D : Nat → Nat → Prop} {E : List Nat}
    (h : RnMid nf base w0 w2 root (l0 ++ [(⟨b, o, none⟩, f)]) D E) (hc : ChangedR (nf f.name) f.scopes b o w2 w3) (hnf : (nf f.name).size ≤ maxLen) {u : Value} (h4 : w3.cell? ⟨b, o + 4, none⟩ = some u)
    {xb xo qcap : Nat} {T : TypeId} (hrow : RowIn (· < base) w0 xb xo f.kids) (hxb : xb < base) (hgrow : w3.grownBy w4 none)
    (hown : w4.ownsRow base T 5 (.slice (some ⟨w3.heap.size, 0, none⟩) f.kids.length qcap) f.kids.length (rowCells w3 xb xo (f.kids.length * 5))) :
    ∃ D' E', RnMid nf base w0 (w4.setCell ⟨b, o + 4, none⟩ (.slice (some ⟨w3.heap.size, 0, none⟩) f.kids.length qcap)) root (l0 ++ itemsOf w3.heap.size 0 f.kids) D' E' ∧
      RelGrows (l0 ++ [(⟨b, o, none⟩, f)]) (l0 ++ itemsOf w3.heap.size 0 f.kids) D D' E E' w2.heap.size ∧ RelB (l0 ++ itemsOf w3.heap.size 0 f.kids) D' E' b := by
  obtain ⟨⟨b', o', e, _, _, _, _, _, _, _, _, _, _, hin⟩, hbb, hbl⟩ := h.todo (⟨b, o, none⟩, f) (by simp)
  injection e with e1 e2
  subst e1 e2
  simp only at hbb hbl
  obtain ⟨hfk, hfn, hnm⟩ := hin.bounds
  obtain ⟨sa, scap, bs, s1, s2, s3, s4⟩ := hc.sc
  have hsz : w2.heap.size ≤ w3.heap.size := hc.only.size
  have hsz4 : w3.heap.size < w4.heap.size := (hown.lt _ rfl).2
  have hs34 : ∀ k, k < w3.heap.size → w4.heap[k]? = w3.heap[k]? := fun k hk => hgrow.block k hk (by simp)
  have hne : ∀ c ∈ bs, c ≠ b ∧ c < w3.heap.size := fun c hm => ⟨by have := (s3.2 c hm).1; omega, (s3.2 c hm).2⟩
  have hset : (w4.setCell ⟨b, o + 4, none⟩ (.slice (some ⟨w3.heap.size, 0, none⟩) f.kids.length qcap)).heap.size = w4.heap.size := by simp [World.setCell]
  have hbl3 : b < w3.heap.size := by omega
  have hb4 := hs34 b hbl3
  have h44 : w4.cell? ⟨b, o + 4, none⟩ = some u := (World.cell?_of_block (a := ⟨b, o + 4, none⟩) hb4).trans h4
  obtain ⟨_, _, _, hcap, hmax⟩ := ownsRow_at hown
  have hb24 : Below base w2 w4 := (hc.only.below (fun c hm => by rw [List.mem_singleton] at hm; subst hm; exact hbb) h.size).trans
    ⟨hgrow.os, hgrow.tape, hgrow.output, hgrow.size, fun k hk => hs34 k (by have := h.size; omega)⟩
  have hown5 : (w4.setCell ⟨b, o + 4, none⟩ (.slice (some ⟨w3.heap.size, 0, none⟩) f.kids.length qcap)).ownsRow base T 5 (.slice (some ⟨w3.heap.size, 0, none⟩) f.kids.length qcap) f.kids.length (rowCells w3 xb xo (f.kids.length * 5)) :=
    ownsRow_setFar hown (by omega)
  have hb03 : Below base w0 w3 := h.below.trans (hc.only.below (fun c hm => by rw [List.mem_singleton] at hm; subst hm; exact hbb) h.size)
  have := h.step (w5 := w4.setCell ⟨b, o + 4, none⟩ (.slice (some ⟨w3.heap.size, 0, none⟩) f.kids.length qcap)) (sa := sa) (a := some ⟨w3.heap.size, 0, none⟩) (scap := scap) (cap := qcap) (bs1 := bs) (kbs := [w3.heap.size]) (kb := w3.heap.size)
    (hb24.setCell (by simpa using hbb) _) (by rw [hset]; omega)
    (fun k hr hn => by
      have hk2 := h.relLt hr.left
      rw [Below.heap_setCell _ _ _ _ hn, hs34 k (by omega)]
      exact hc.only.block k hk2 (by simpa using hn))
    (fun i => by rw [World.frozen?_setCell, World.frozen?_of_block (a := ⟨b, i, none⟩) hb4]; exact hc.frozen i)
    (fun i h1 h2 h3 => by rw [World.cell?_setCell_other _ _ _ _ (addr_ne (by omega)), World.cell?_of_block (a := ⟨b, i, none⟩) hb4]; exact hc.cell i h1 h3) (by rw [World.cell?_setCell_other _ _ _ _ (addr_ne (by omega)), World.cell?_of_block (a := ⟨b, o + 1, none⟩) hb4]; exact hc.nm)
    (fun hp => ((hc.plain hp).same hb4).setCell _ _ _)
    (by rw [World.cell?_setCell_other _ _ _ _ (addr_ne (by omega)), World.cell?_of_block (a := ⟨b, o + 3, none⟩) hb4]; exact s1)
    (s2.later fun c hm => by rw [Below.heap_setCell _ _ _ _ (hne c hm).1]; exact hs34 c (hne c hm).2)
    (by rw [hset]; exact s3.append ((NewBs.nil (w3.heap.size + 1) w4.heap.size).cons (Nat.le_refl _) hsz4) hsz (Nat.le_of_lt hsz4))
    ((s4.same fun c hm => by rw [Below.heap_setCell _ _ _ _ (hne c hm).1]; exact hs34 c (hne c hm).2).append ((AllPlain.nil _).cons (ownsRow_plain hown5)))
    (World.cell?_setCell_same _ _ _ h44) hcap hmax (.inr ⟨rfl, rfl⟩)
    (RowIn.copied (w := w0) (k := 0) (by simpa using hrow) fun i hi => by
      rw [Nat.zero_add] at hi
      refine ⟨?_, hown5.frozenAt i⟩
      rw [hown5.cellAt i hi, rowCells_get _ _ _ _ _ hi]
      obtain ⟨v, hv, _⟩ := hrow.there i hi
      rw [hb03.cell (p := ⟨xb, xo + i, none⟩) hxb, hv]
      rfl) hfk hfn hnf
  refine ⟨_, _, this, fun k hr => ?_, .inr (.inl ⟨o, .inr (.inl ⟨rfl, Nat.le_refl _, by omega⟩)⟩)⟩
  rcases hr with ⟨x, hx, e⟩ | ⟨i, hd | ⟨e, _⟩ | hd⟩ | hm
  · rcases List.mem_append.1 hx with hx | hx
    · exact .inl (.inl ⟨x, List.mem_append_left _ hx, e⟩)
    · obtain ⟨i, _, e'⟩ := itemsOf_mem _ _ _ _ hx
      rw [e'] at e
      exact .inr (by rw [← e]; exact hsz)
  · exact .inl (.inr (.inl ⟨i, hd⟩))
  · exact .inl (.inl ⟨_, List.mem_append_right _ (List.mem_singleton.2 rfl), e.symm⟩)
  · exact .inr (s3.2 k hd).1
  · rcases List.mem_append.1 hm with hm | hm
    · exact .inl (.inr (.inr hm))
    · rcases List.mem_append.1 hm with hm | hm
      · exact .inr (s3.2 k hm).1
      · rw [List.mem_singleton] at hm
        exact .inr (by omega)
end
end Go.Proofs.Ytnogpaflibghhaa
