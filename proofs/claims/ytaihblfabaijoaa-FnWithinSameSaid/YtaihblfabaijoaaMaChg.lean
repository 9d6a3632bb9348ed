/- What the change of a form, node by node, keeps. Nothing of the program's code is used. -/
import Derived.Test.YtaihblfabaijoaaMaMark
import Derived.Test.YtaihblfabaijoaaMaWork
namespace Go.Proofs.Ytaihblfabaijoaa
open Go.RowKit
set_option linter.unusedVariables false
section
variable (chg : Int → List Int → List Int)
mutual
/-- a form with the scopes of each of its nodes changed -/
def Fm.chg : Fm → Fm
  | .mk k nm n sc ks => .mk k nm n (chg k sc) (chgAll ks)
def chgAll : List Fm → List Fm
  | [] => []
  | f :: r => f.chg :: chgAll r
end
end
variable {chg : Int → List Int → List Int}
theorem chgAll_length (ks : List Fm) : (chgAll chg ks).length = ks.length := by
  induction ks with
  | nil => simp [chgAll]
  | cons f r ih => simp [chgAll, ih]
theorem chg_eq (f : Fm) : f.chg chg = .mk f.kind f.name f.n (chg f.kind f.scopes) (chgAll chg f.kids) := by cases f; simp [Fm.chg, Fm.kind, Fm.name, Fm.n, Fm.scopes, Fm.kids]
/-- a node that is done: its five cells, and the form of its own that they are -/
def Fin (chg : Int → List Int → List Int) (w : World) (x : Addr × Fm) (bs : List Nat) : Prop :=
  ∃ b o, x.1 = ⟨b, o, none⟩ ∧ ∃ sa scap a cap, w.cell? ⟨b, o, none⟩ = some (.int .i64 x.2.kind) ∧ w.cell? ⟨b, o + 1, none⟩ = some (.string x.2.name) ∧ w.cell? ⟨b, o + 2, none⟩ = some (.int .i64 x.2.n) ∧
    w.cell? ⟨b, o + 3, none⟩ = some (.slice sa (chg x.2.kind x.2.scopes).length scap) ∧ w.cell? ⟨b, o + 4, none⟩ = some (.slice a x.2.kids.length cap) ∧ (∀ j, j < 5 → w.frozen? ⟨b, o + j, none⟩ = false) ∧
    OwnV w (x.2.chg chg) (.agg #[.int .i64 x.2.kind, .string x.2.name, .int .i64 x.2.n, .slice sa (chg x.2.kind x.2.scopes).length scap, .slice a x.2.kids.length cap]) bs
/-- each of the forms is done, in blocks of its own -/
def Fins (chg : Int → List Int → List Int) (w : World) : List (Addr × Fm) → List (List Nat) → Prop
  | [], [] => True
  | x :: l, bs :: bl => Fin chg w x bs ∧ Fins chg w l bl
  | _, _ => False
theorem Fins.append {w : World} : ∀ {l m : List (Addr × Fm)} {bl : List (List Nat)}, Fins chg w (l ++ m) bl → ∃ b1 b2, bl = b1 ++ b2 ∧ Fins chg w l b1 ∧ Fins chg w m b2
  | [], m, bl, h => ⟨[], bl, rfl, trivial, h⟩
  | x :: l, m, [], h => by simp [Fins] at h
  | x :: l, m, b :: bl, h => by
    obtain ⟨h1, h2⟩ := h
    obtain ⟨b1, b2, rfl, h3, h4⟩ := Fins.append h2
    exact ⟨b :: b1, b2, rfl, ⟨h1, h3⟩, h4⟩
theorem Fins.snoc {w : World} : ∀ {l : List (Addr × Fm)} {bl : List (List Nat)} {x : Addr × Fm} {bs : List Nat}, Fins chg w l bl → Fin chg w x bs → Fins chg w (l ++ [x]) (bl ++ [bs])
  | [], [], x, bs, _, h => ⟨h, trivial⟩
  | [], _ :: _, _, _, h, _ => by simp [Fins] at h
  | _ :: _, [], _, _, h, _ => by simp [Fins] at h
  | y :: l, b :: bl, x, bs, h, g => ⟨h.1, Fins.snoc h.2 g⟩
/-- the nodes of a row -/
def itemsOf (b : Nat) : Nat → List Fm → List (Addr × Fm)
  | _, [] => []
  | off, f :: r => (⟨b, off, none⟩, f) :: itemsOf b (off + 5) r
theorem itemsOf_length (b : Nat) : ∀ (ks : List Fm) (off : Nat), (itemsOf b off ks).length = ks.length
  | [], _ => rfl
  | f :: r, off => by simp [itemsOf, itemsOf_length b r (off + 5)]
theorem itemsOf_take_succ (b : Nat) : ∀ (ks : List Fm) (off j : Nat) (h : j < ks.length), itemsOf b off (ks.take (j + 1)) = itemsOf b off (ks.take j) ++ [(⟨b, off + j * 5, none⟩, ks[j])]
  | f :: r, off, 0, _ => by simp [itemsOf]
  | f :: r, off, j + 1, h => by
    have := itemsOf_take_succ b r (off + 5) j (by simpa using h)
    simp only [List.take_succ_cons, itemsOf, this, List.cons_append, List.getElem_cons_succ]
    rw [show off + 5 + j * 5 = off + (j + 1) * 5 from by omega]
theorem itemsOf_mem (b : Nat) : ∀ (ks : List Fm) (off : Nat) (x : Addr × Fm), x ∈ itemsOf b off ks → ∃ i, i < ks.length ∧ x.1 = ⟨b, off + i * 5, none⟩
  | f :: r, off, x, h => by
    rcases List.mem_cons.1 h with rfl | h
    · exact ⟨0, by simp, rfl⟩
    · obtain ⟨i, hi, e⟩ := itemsOf_mem b r (off + 5) x h
      exact ⟨i + 1, by simpa using hi, by rw [e]; congr 1; omega⟩
theorem Fins.row {w : World} (b : Nat) : ∀ (ks : List Fm) (off : Nat) (bl : List (List Nat)), Fins chg w (itemsOf b off ks) bl → RowOwn w b off (chgAll chg ks) bl.flatten
  | [], off, [], _ => by simp [chgAll, RowOwn]
  | [], off, _ :: _, h => by simp [itemsOf, Fins] at h
  | f :: r, off, [], h => by simp [itemsOf, Fins] at h
  | f :: r, off, bs :: bl, h => by
    obtain ⟨⟨b', o', e, sa, scap, a, cap, c0, c1, c2, c3, c4, hf, hown⟩, h2⟩ := h
    injection e with e1 e2
    subst e1 e2
    have := Fins.row b r (off + 5) bl h2
    simp only [chgAll, List.flatten_cons]
    unfold RowOwn
    exact ⟨bs, bl.flatten, rfl, ⟨_, _, _, _, _, c0, c1, c2, c3, c4, hf, hown⟩, this⟩
/-- a cell of the one is none of the other's -/
def ApartI (x y : Addr × Fm) : Prop := x.1.block ≠ y.1.block ∨ x.1.off + 5 ≤ y.1.off ∨ y.1.off + 5 ≤ x.1.off
theorem itemsOf_apart (b : Nat) : ∀ (ks : List Fm) (off : Nat), (itemsOf b off ks).Pairwise ApartI
  | [], _ => List.Pairwise.nil
  | f :: r, off => by
    refine List.Pairwise.cons (fun y hy => ?_) (itemsOf_apart b r (off + 5))
    obtain ⟨i, _, e⟩ := itemsOf_mem b r (off + 5) y hy
    unfold ApartI
    rw [e]
    exact .inr (.inl (by show off + 5 ≤ off + 5 + i * 5; omega))
/-- a node that is not done: as it was in the form that came in -/
def Todo (φ : Nat → Prop) (w0 w : World) (x : Addr × Fm) : Prop :=
  ∃ b o, x.1 = ⟨b, o, none⟩ ∧ ∃ sa scap a cap, w.cell? ⟨b, o, none⟩ = some (.int .i64 x.2.kind) ∧ w.cell? ⟨b, o + 1, none⟩ = some (.string x.2.name) ∧ w.cell? ⟨b, o + 2, none⟩ = some (.int .i64 x.2.n) ∧
    w.cell? ⟨b, o + 3, none⟩ = some (.slice sa x.2.scopes.length scap) ∧ w.cell? ⟨b, o + 4, none⟩ = some (.slice a x.2.kids.length cap) ∧ (∀ j, j < 5 → w.frozen? ⟨b, o + j, none⟩ = false) ∧
    InV φ w0 x.2 (.agg #[.int .i64 x.2.kind, .string x.2.name, .int .i64 x.2.n, .slice sa x.2.scopes.length scap, .slice a x.2.kids.length cap])
/-- the state between two rounds -/
structure ChgMid (chg : Int → List Int → List Int) (base : Nat) (w0 wr : World) (root : Addr × Fm) (l : List (Addr × Fm)) (D : Nat → Nat → Prop) (E : List Nat) : Prop where
  below : Below base w0 wr
  size : base ≤ wr.heap.size
  todo : ∀ x ∈ l, Todo (· < base) w0 wr x ∧ base ≤ x.1.block ∧ x.1.block < wr.heap.size
  apart : l.Pairwise ApartI
  free : ∀ x ∈ l, ∀ j, j < 5 → ¬ D x.1.block (x.1.off + j)
  dlt : ∀ b o, D b o → b < wr.heap.size
  wand : ∀ (w' : World) (bl : List (List Nat)), (∀ b o, D b o → w'.cell? ⟨b, o, none⟩ = wr.cell? ⟨b, o, none⟩ ∧ w'.frozen? ⟨b, o, none⟩ = wr.frozen? ⟨b, o, none⟩) → Fins chg w' l bl →
    ∃ bs, Fin chg w' root bs ∧ bs.Perm (E ++ bl.flatten)
  enew : E.Nodup ∧ (∀ c ∈ E, base ≤ c ∧ c < wr.heap.size) ∧ AllPlain wr E
theorem ChgMid.start {base : Nat} {w0 wr : World} {root : Addr × Fm} (hb : Below base w0 wr) (hs : base ≤ wr.heap.size) (ht : Todo (· < base) w0 wr root) (h1 : base ≤ root.1.block) (h2 : root.1.block < wr.heap.size) :
    ChgMid chg base w0 wr root [root] (fun _ _ => False) [] :=
  ⟨hb, hs, fun x hx => by rw [List.mem_singleton] at hx; subst hx; exact ⟨ht, h1, h2⟩, by simp, fun x _ j _ h => h, fun _ _ h => h.elim, fun w' bl _ hf => by
    match bl, hf with
    | [bs], hf => exact ⟨bs, hf.1, by simp⟩
    | [], hf => simp [Fins] at hf
    | _ :: _ :: _, hf => simp [Fins] at hf, List.nodup_nil, fun c hc => (by cases hc), AllPlain.nil _⟩
theorem ChgMid.ends {base : Nat} {w0 wr : World} {root : Addr × Fm} {D : Nat → Nat → Prop} {E : List Nat} (h : ChgMid chg base w0 wr root [] D E) :
    ∃ bs, Fin chg wr root bs ∧ NewBs bs base wr.heap.size ∧ AllPlain wr bs ∧ ∀ c ∈ bs, c ∈ E := by
  obtain ⟨bs, h1, h2⟩ := h.wand wr [] (fun _ _ _ => ⟨rfl, rfl⟩) trivial
  simp only [List.flatten_nil, List.append_nil] at h2
  exact ⟨bs, h1, ⟨h2.nodup_iff.2 h.enew.1, fun c hc => h.enew.2.1 c (h2.mem_iff.1 hc)⟩, fun c hc => h.enew.2.2 c (h2.mem_iff.1 hc), fun c hc => h2.mem_iff.1 hc⟩
/-- the world turns, but for new blocks, outside all that matters -/
theorem ChgMid.later {base : Nat} {w0 wr w' : World} {root : Addr × Fm} {l : List (Addr × Fm)} {D : Nat → Nat → Prop} {E : List Nat} (h : ChgMid chg base w0 wr root l D E) (hb : Below base wr w') (hz : wr.heap.size ≤ w'.heap.size)
    (hk : ∀ k, (∃ x ∈ l, x.1.block = k) ∨ (∃ o, D k o) ∨ k ∈ E → w'.heap[k]? = wr.heap[k]?) : ChgMid chg base w0 w' root l D E := by
  refine ⟨h.below.trans hb, Nat.le_trans h.size hz, fun x hx => ?_, h.apart, h.free, fun b o hd => Nat.lt_of_lt_of_le (h.dlt b o hd) hz, fun w2 bl ha hf => ?_, h.enew.1, fun c hc => ⟨(h.enew.2.1 c hc).1, Nat.lt_of_lt_of_le (h.enew.2.1 c hc).2 hz⟩, fun c hc => (h.enew.2.2 c hc).same (hk c (.inr (.inr hc)))⟩
  · obtain ⟨⟨b, o, e, sa, scap, a, cap, c0, c1, c2, c3, c4, hf, hin⟩, h1, h2⟩ := h.todo x hx
    have hs := hk x.1.block (.inl ⟨x, hx, rfl⟩)
    rw [e] at hs h1 h2
    refine ⟨⟨b, o, e, sa, scap, a, cap, ?_, ?_, ?_, ?_, ?_, fun j hj => ?_, hin⟩, by rw [e]; exact h1, by rw [e]; exact Nat.lt_of_lt_of_le h2 hz⟩
    · rw [World.cell?_of_block (a := ⟨b, o, none⟩) hs]; exact c0
    · rw [World.cell?_of_block (a := ⟨b, o + 1, none⟩) hs]; exact c1
    · rw [World.cell?_of_block (a := ⟨b, o + 2, none⟩) hs]; exact c2
    · rw [World.cell?_of_block (a := ⟨b, o + 3, none⟩) hs]; exact c3
    · rw [World.cell?_of_block (a := ⟨b, o + 4, none⟩) hs]; exact c4
    · rw [World.frozen?_of_block (a := ⟨b, o + j, none⟩) hs]; exact hf j hj
  · refine h.wand w2 bl (fun b o hd => ?_) hf
    have hs := hk b (.inr (.inl ⟨o, hd⟩))
    obtain ⟨g1, g2⟩ := ha b o hd
    exact ⟨g1.trans (World.cell?_of_block (a := ⟨b, o, none⟩) hs), g2.trans (World.frozen?_of_block (a := ⟨b, o, none⟩) hs)⟩
/-- the blocks that matter -/
def RelB (l : List (Addr × Fm)) (D : Nat → Nat → Prop) (E : List Nat) (k : Nat) : Prop := (∃ x ∈ l, x.1.block = k) ∨ (∃ o, D k o) ∨ k ∈ E
theorem ChgMid.step {base : Nat} {w0 wr w5 : World} {root : Addr × Fm} {l0 : List (Addr × Fm)} {b o : Nat} {f : Fm} {D : Nat → Nat → Prop} {E : List Nat}
    (h : ChgMid chg base w0 wr root (l0 ++ [(⟨b, o, none⟩, f)]) D E) (hb : Below base wr w5) (hz : wr.heap.size ≤ w5.heap.size)
    (hk : ∀ k, RelB l0 D E k → k ≠ b → w5.heap[k]? = wr.heap[k]?) (hkf : ∀ i, w5.frozen? ⟨b, i, none⟩ = wr.frozen? ⟨b, i, none⟩) (hkc : ∀ i, i ≠ o + 3 → i ≠ o + 4 → w5.cell? ⟨b, i, none⟩ = wr.cell? ⟨b, i, none⟩)
    (hpb : Plain wr b → Plain w5 b) {sa a : Option Addr} {scap cap : Nat} {bs1 kbs : List Nat} {kb : Nat}
    (h3 : w5.cell? ⟨b, o + 3, none⟩ = some (.slice sa (chg f.kind f.scopes).length scap)) (hI : IntOwn w5 (.slice sa (chg f.kind f.scopes).length scap) (chg f.kind f.scopes) bs1)
    (hN : NewBs (bs1 ++ kbs) wr.heap.size w5.heap.size) (hP : AllPlain w5 (bs1 ++ kbs))
    (h4 : w5.cell? ⟨b, o + 4, none⟩ = some (.slice a f.kids.length cap)) (hcap : f.kids.length ≤ cap) (hmax : cap ≤ maxLen)
    (hkids : (f.kids = [] ∧ kbs = []) ∨ (a = some ⟨kb, 0, none⟩ ∧ kbs = [kb])) (htk : ∀ x ∈ itemsOf kb 0 f.kids, Todo (· < base) w0 w5 x)
    (hfk : -9223372036854775808 ≤ f.kind ∧ f.kind ≤ 9223372036854775807) (hfn : -9223372036854775808 ≤ f.n ∧ f.n ≤ 9223372036854775807) (hnm : f.name.size ≤ maxLen) :
    ChgMid chg base w0 w5 root (l0 ++ itemsOf kb 0 f.kids) (fun c i => D c i ∨ (c = b ∧ o ≤ i ∧ i < o + 5) ∨ c ∈ bs1) (E ++ (bs1 ++ kbs)) := by
  obtain ⟨⟨b', o', e, sa0, scap0, a0, cap0, c0, c1, c2, c3, c4, hf, hin⟩, hbb, hbl⟩ := h.todo (⟨b, o, none⟩, f) (by simp)
  injection e with e1 e2
  subst e1 e2
  simp only at hbb hbl c0 c1 c2
  have hfree := h.free (⟨b, o, none⟩, f) (by simp)
  simp only at hfree
  have hDx : ∀ i, D b i → i < o ∨ o + 5 ≤ i := fun i hd => by
    by_cases h1 : o ≤ i ∧ i < o + 5
    · exfalso
      refine hfree (i - o) (by omega) ?_
      rw [show o + (i - o) = i from by omega]
      exact hd
    · omega
  have hap : ∀ y ∈ l0, ApartI y (⟨b, o, none⟩, f) := fun y hy => (List.pairwise_append.1 h.apart).2.2 y hy _ (by simp)
  have hkbn : f.kids ≠ [] → kb ∈ kbs ∧ a = some ⟨kb, 0, none⟩ := fun hn => by
    rcases hkids with ⟨h1, _⟩ | ⟨h1, h2⟩
    · exact absurd h1 hn
    · exact ⟨by rw [h2]; simp, h1⟩
  have hkmem : ∀ x ∈ itemsOf kb 0 f.kids, x.1.block = kb ∧ kb ∈ kbs := fun x hx => by
    obtain ⟨i, hi, e⟩ := itemsOf_mem kb f.kids 0 x hx
    exact ⟨by rw [e], (hkbn (by intro h0; rw [h0] at hi; simp at hi)).1⟩
  have hnew : ∀ c ∈ bs1 ++ kbs, wr.heap.size ≤ c ∧ c < w5.heap.size := hN.2
  have hn1 : ∀ c ∈ bs1, wr.heap.size ≤ c ∧ c < w5.heap.size := fun c hc => hnew c (List.mem_append_left _ hc)
  have hn2 : ∀ c ∈ kbs, wr.heap.size ≤ c ∧ c < w5.heap.size := fun c hc => hnew c (List.mem_append_right _ hc)
  obtain ⟨nd1, nd2, nd3⟩ := List.nodup_append.1 hN.1
  have hl0 : ∀ y ∈ l0, Todo (· < base) w0 wr y ∧ base ≤ y.1.block ∧ y.1.block < wr.heap.size := fun y hy => h.todo y (List.mem_append_left _ hy)
  -- cells that stay
  have hcell : ∀ c i, RelB l0 D E c → (c = b → i ≠ o + 3 ∧ i ≠ o + 4) → w5.cell? ⟨c, i, none⟩ = wr.cell? ⟨c, i, none⟩ := fun c i hr hne => by
    by_cases e : c = b
    · subst e; exact hkc i (hne rfl).1 (hne rfl).2
    · exact World.cell?_of_block (a := ⟨c, i, none⟩) (hk c hr e)
  have hfroz : ∀ c i, RelB l0 D E c → w5.frozen? ⟨c, i, none⟩ = wr.frozen? ⟨c, i, none⟩ := fun c i hr => by
    by_cases e : c = b
    · subst e; exact hkf i
    · exact World.frozen?_of_block (a := ⟨c, i, none⟩) (hk c hr e)
  refine ⟨h.below.trans hb, Nat.le_trans h.size hz, fun y hy => ?_, ?_, fun y hy j hj hd => ?_, fun c i hd => ?_, fun w' bl ha hfin => ?_, ?_, fun c hc => ?_, fun c hc => ?_⟩
  · rcases List.mem_append.1 hy with hy | hy
    · obtain ⟨⟨c, i, e, sa', scap', a', cap', d0, d1, d2, d3, d4, df, din⟩, g1, g2⟩ := hl0 y hy
      have hr : RelB l0 D E c := .inl ⟨y, hy, by rw [e]⟩
      have hne : ∀ j, j < 5 → c = b → i + j ≠ o + 3 ∧ i + j ≠ o + 4 := fun j hj ec => by
        have := hap y hy
        unfold ApartI at this
        rw [e] at this
        simp only at this
        rcases this with h1 | h1 | h1
        · exact absurd ec h1
        · omega
        · omega
      refine ⟨⟨c, i, e, sa', scap', a', cap', ?_, ?_, ?_, ?_, ?_, fun j hj => ?_, din⟩, g1, Nat.lt_of_lt_of_le g2 hz⟩
      · rw [hcell c i hr (by simpa using hne 0 (by omega))]; exact d0
      · rw [hcell c (i + 1) hr (hne 1 (by omega))]; exact d1
      · rw [hcell c (i + 2) hr (hne 2 (by omega))]; exact d2
      · rw [hcell c (i + 3) hr (hne 3 (by omega))]; exact d3
      · rw [hcell c (i + 4) hr (hne 4 (by omega))]; exact d4
      · rw [hfroz c (i + j) hr]; exact df j hj
    · obtain ⟨g1, g2⟩ := hkmem y hy
      have := hn2 kb g2
      exact ⟨htk y hy, by rw [g1]; exact Nat.le_trans h.size this.1, by rw [g1]; exact this.2⟩
  · refine List.pairwise_append.2 ⟨(List.pairwise_append.1 h.apart).1, itemsOf_apart _ _ _, fun y hy z hz' => .inl ?_⟩
    obtain ⟨g1, g2⟩ := hkmem z hz'
    have := (hl0 y hy).2.2
    have := hn2 kb g2
    omega
  · rcases List.mem_append.1 hy with hy | hy
    · rcases hd with hd | ⟨e, h1, h2⟩ | hd
      · exact h.free y (List.mem_append_left _ hy) j hj hd
      · have := hap y hy
        unfold ApartI at this
        simp only at this
        omega
      · have := (hl0 y hy).2.2
        have := hn1 _ hd
        omega
    · obtain ⟨g1, g2⟩ := hkmem y hy
      have g3 := hn2 kb g2
      rw [g1] at hd
      rcases hd with hd | ⟨e, _, _⟩ | hd
      · have := h.dlt _ _ hd; omega
      · omega
      · exact nd3 kb hd kb g2 rfl
  · rcases hd with hd | ⟨e, _, _⟩ | hd
    · exact Nat.lt_of_lt_of_le (h.dlt c i hd) hz
    · rw [e]; omega
    · exact (hn1 c hd).2
  · obtain ⟨b1, b2, rfl, f1, f2⟩ := hfin.append
    -- the node itself is done
    have hx : Fin chg w' (⟨b, o, none⟩, f) (bs1 ++ (kbs ++ b2.flatten)) := by
      have hcx : ∀ j, j < 5 → w'.cell? ⟨b, o + j, none⟩ = w5.cell? ⟨b, o + j, none⟩ ∧ w'.frozen? ⟨b, o + j, none⟩ = w5.frozen? ⟨b, o + j, none⟩ := fun j hj => ha b (o + j) (.inr (.inl ⟨rfl, by omega, by omega⟩))
      have q0 := (hcx 0 (by omega)).1.trans ((hkc (o + 0) (by omega) (by omega)).trans c0)
      have q1 := (hcx 1 (by omega)).1.trans ((hkc (o + 1) (by omega) (by omega)).trans c1)
      have q2 := (hcx 2 (by omega)).1.trans ((hkc (o + 2) (by omega) (by omega)).trans c2)
      have q3 := (hcx 3 (by omega)).1.trans h3
      have q4 := (hcx 4 (by omega)).1.trans h4
      refine ⟨b, o, rfl, sa, scap, a, cap, q0, q1, q2, q3, q4, fun j hj => (hcx j hj).2.trans ((hkf (o + j)).trans (hf j hj)), ?_⟩
      have hIw : IntOwn w' (.slice sa (chg f.kind f.scopes).length scap) (chg f.kind f.scopes) bs1 := by
        obtain ⟨ai, ci, g1, g2, g3, g4, g5⟩ := hI
        refine ⟨ai, ci, g1, g2, g3, g4, ?_⟩
        rcases g5 with g5 | ⟨bi, oi, g5, g6, g7⟩
        · exact .inl g5
        · refine .inr ⟨bi, oi, g5, g6, fun i hi => ?_⟩
          obtain ⟨k1, k2⟩ := ha bi (oi + i) (.inr (.inr (by rw [g6]; simp)))
          exact ⟨k1.trans (g7 i hi).1, k2.trans (g7 i hi).2⟩
      have hK : KidsOwn w' a cap (chgAll chg f.kids) (kbs ++ b2.flatten) := by
        refine ⟨by rw [chgAll_length]; exact hcap, hmax, ?_⟩
        rcases hkids with ⟨g1, g2⟩ | ⟨g1, g2⟩
        · left
          rw [g1] at f2
          match b2, f2 with
          | [], _ => exact ⟨by rw [g1]; simp [chgAll], by rw [g2]; rfl⟩
          | _ :: _, f2 => simp [itemsOf, Fins] at f2
        · exact .inr ⟨kb, 0, b2.flatten, g1, by rw [g2]; rfl, f2.row kb f.kids 0 b2⟩
      have := OwnV.mk (w := w') (f := f.chg chg) (sa := sa) (a := a) (scap := scap) (cap := cap) (bs1 := bs1) (bs2 := kbs ++ b2.flatten) (by rw [chg_eq]; exact hfk) (by rw [chg_eq]; exact hfn) (by rw [chg_eq]; exact hnm)
        (by rw [chg_eq]; exact hIw) (by rw [chg_eq]; exact hK)
      rw [chg_eq] at this ⊢
      simp only [Fm.kind, Fm.name, Fm.n, Fm.scopes, Fm.kids, chgAll_length] at this ⊢
      exact this
    have hag : ∀ c i, D c i → w'.cell? ⟨c, i, none⟩ = wr.cell? ⟨c, i, none⟩ ∧ w'.frozen? ⟨c, i, none⟩ = wr.frozen? ⟨c, i, none⟩ := fun c i hd => by
      obtain ⟨k1, k2⟩ := ha c i (.inl hd)
      have hr : RelB l0 D E c := .inr (.inl ⟨i, hd⟩)
      refine ⟨k1.trans (hcell c i hr fun e => ?_), k2.trans (hfroz c i hr)⟩
      subst e
      have := hDx i hd
      omega
    obtain ⟨bs, g1, g2⟩ := h.wand w' (b1 ++ [bs1 ++ (kbs ++ b2.flatten)]) hag (f1.snoc hx)
    refine ⟨bs, g1, g2.trans ?_⟩
    rw [List.flatten_append, List.flatten_append, List.flatten_cons, List.flatten_nil, List.append_nil]
    have e1 : E ++ (bs1 ++ kbs) ++ (b1.flatten ++ b2.flatten) = E ++ ((bs1 ++ kbs) ++ (b1.flatten ++ b2.flatten)) := by simp
    rw [e1]
    refine List.Perm.append_left E ?_
    have e2 : b1.flatten ++ (bs1 ++ (kbs ++ b2.flatten)) = (b1.flatten ++ (bs1 ++ kbs)) ++ b2.flatten := by simp
    have e3 : (bs1 ++ kbs) ++ (b1.flatten ++ b2.flatten) = ((bs1 ++ kbs) ++ b1.flatten) ++ b2.flatten := by simp
    rw [e2, e3]
    exact List.Perm.append_right _ List.perm_append_comm
  · refine List.nodup_append.2 ⟨h.enew.1, hN.1, fun c hc d hd e => ?_⟩
    have := (h.enew.2.1 c hc).2
    have := (hnew d hd).1
    omega
  · rcases List.mem_append.1 hc with hc | hc
    · exact ⟨(h.enew.2.1 c hc).1, Nat.lt_of_lt_of_le (h.enew.2.1 c hc).2 hz⟩
    · exact ⟨Nat.le_trans h.size (hnew c hc).1, (hnew c hc).2⟩
  · rcases List.mem_append.1 hc with hc | hc
    · by_cases e : c = b
      · subst e; exact hpb (h.enew.2.2 c hc)
      · exact (h.enew.2.2 c hc).same (hk c (.inr (.inr hc)) e)
    · exact hP c hc
/-- the values in a run of cells -/
def rowCells (w : World) (b off n : Nat) : List Value := (List.range n).map fun i => (w.cell? ⟨b, off + i, none⟩).getD (.bool false)
theorem rowCells_length (w : World) (b off n : Nat) : (rowCells w b off n).length = n := by simp [rowCells]
theorem rowCells_get (w : World) (b off n i : Nat) (hi : i < n) : (rowCells w b off n)[i]? = some ((w.cell? ⟨b, off + i, none⟩).getD (.bool false)) := by
  simp [rowCells, hi]
theorem RowIn.there {φ : Nat → Prop} {w : World} {b off : Nat} {ks : List Fm} (h : RowIn φ w b off ks) (i : Nat) (hi : i < ks.length * 5) : ∃ u, w.cell? ⟨b, off + i, none⟩ = some u ∧ u.oneCell' = true := by
  obtain ⟨j, k, hj, hk, rfl⟩ : ∃ j k, j < ks.length ∧ k < 5 ∧ i = j * 5 + k := ⟨i / 5, i % 5, by omega, by omega, by omega⟩
  obtain ⟨sa, scap, a, cap, c0, c1, c2, c3, c4, _⟩ := h.at' j hj
  rw [← Nat.add_assoc]
  match k, hk with
  | 0, _ => exact ⟨_, c0, rfl⟩
  | 1, _ => exact ⟨_, c1, rfl⟩
  | 2, _ => exact ⟨_, c2, rfl⟩
  | 3, _ => exact ⟨_, c3, rfl⟩
  | 4, _ => exact ⟨_, c4, rfl⟩
/-- the nodes of a row that was copied -/
theorem RowIn.copied {φ : Nat → Prop} {w0 w w' : World} {b off g : Nat} : ∀ {ks : List Fm} {k : Nat}, RowIn φ w0 b (off + k * 5) ks → (∀ i, i < (k + ks.length) * 5 → w'.cell? ⟨g, i, none⟩ = w0.cell? ⟨b, off + i, none⟩ ∧ w'.frozen? ⟨g, i, none⟩ = false) →
    ∀ x ∈ itemsOf g (k * 5) ks, Todo φ w0 w' x
  | f :: r, k, h, hc, x, hx => by
    have hat := h.at' 0 (by simp)
    rcases List.mem_cons.1 hx with rfl | hx
    · obtain ⟨sa, scap, a, cap, c0, c1, c2, c3, c4, hin⟩ := hat
      simp only [Nat.zero_mul, Nat.add_zero, List.getElem_cons_zero] at c0 c1 c2 c3 c4 hin
      have hl : (f :: r).length = r.length + 1 := rfl
      have q : ∀ j, j < 5 → w'.cell? ⟨g, k * 5 + j, none⟩ = w0.cell? ⟨b, off + k * 5 + j, none⟩ ∧ w'.frozen? ⟨g, k * 5 + j, none⟩ = false := fun j hj => by
        have := hc (k * 5 + j) (by omega)
        rw [← Nat.add_assoc] at this
        exact this
      exact ⟨g, k * 5, rfl, sa, scap, a, cap, (q 0 (by omega)).1.trans c0, (q 1 (by omega)).1.trans c1, (q 2 (by omega)).1.trans c2, (q 3 (by omega)).1.trans c3, (q 4 (by omega)).1.trans c4, fun j hj => (q j hj).2, hin⟩
    · unfold RowIn at h
      have h2 := h.2
      rw [show off + k * 5 + 5 = off + (k + 1) * 5 from by omega] at h2
      rw [show k * 5 + 5 = (k + 1) * 5 from by omega] at hx
      exact RowIn.copied (w := w) h2 (fun i hi => hc i (by simp only [List.length_cons]; omega)) x hx
def countI : List (Addr × Fm) → Nat
  | [] => 0
  | x :: r => x.2.count + countI r
theorem countI_append (l m : List (Addr × Fm)) : countI (l ++ m) = countI l + countI m := by
  induction l with
  | nil => simp [countI]
  | cons x r ih => simp only [List.cons_append, countI, ih]; omega
theorem countI_items (b : Nat) : ∀ (ks : List Fm) (off : Nat), countI (itemsOf b off ks) = countAll ks
  | [], _ => rfl
  | f :: r, off => by simp [itemsOf, countI, countAll, countI_items b r (off + 5)]
theorem length_countI (l : List (Addr × Fm)) : l.length ≤ countI l := by
  induction l with
  | nil => simp
  | cons x r ih => have : 1 ≤ x.2.count := by cases x.2; unfold Fm.count; omega
                   simp only [List.length_cons, countI]; omega
theorem itemsOf_snd (b : Nat) : ∀ (ks : List Fm) (off : Nat) (x : Addr × Fm), x ∈ itemsOf b off ks → x.2 ∈ ks
  | f :: r, off, x, h => by
    rcases List.mem_cons.1 h with rfl | h
    · simp
    · exact List.mem_cons_of_mem _ (itemsOf_snd b r (off + 5) x h)
theorem sz_kid {f : Fm} {g : Fm} (h : g ∈ f.kids) : g.sz ≤ f.sz := by
  cases f with
  | mk k nm n sc ks =>
    have : ∀ ks : List Fm, g ∈ ks → g.sz ≤ szAll ks := fun ks => by
      induction ks with
      | nil => intro h; cases h
      | cons x r ih =>
        intro h
        unfold szAll
        rcases List.mem_cons.1 h with rfl | h
        · omega
        · have := ih h; omega
    have := this ks h
    have e : (Fm.mk k nm n sc ks).sz = nm.size + sc.length + szAll ks := by rw [Fm.sz]
    rw [e]
    omega
theorem sz_scopes (f : Fm) : f.scopes.length ≤ f.sz ∧ f.kids.length ≤ f.sz := by
  cases f with
  | mk k nm n sc ks => have := szAll_length ks; simp only [Fm.scopes, Fm.kids]; unfold Fm.sz; omega
theorem ChgMid.relLt {base : Nat} {w0 wr : World} {root : Addr × Fm} {l : List (Addr × Fm)} {D : Nat → Nat → Prop} {E : List Nat} (h : ChgMid chg base w0 wr root l D E) {k : Nat} (hk : RelB l D E k) : k < wr.heap.size := by
  rcases hk with ⟨x, hx, rfl⟩ | ⟨o, hd⟩ | hk
  · exact (h.todo x hx).2.2
  · exact h.dlt k o hd
  · exact (h.enew.2.1 k hk).2
theorem RelB.left {l m : List (Addr × Fm)} {D : Nat → Nat → Prop} {E : List Nat} {k : Nat} (h : RelB l D E k) : RelB (l ++ m) D E k := by
  rcases h with ⟨x, hx, e⟩ | h | h
  · exact .inl ⟨x, List.mem_append_left _ hx, e⟩
  · exact .inr (.inl h)
  · exact .inr (.inr h)
/-- what must not lie where the list of work does -/
def Sep (l : List (Addr × Fm)) (D : Nat → Nat → Prop) (E : List Nat) (ro pb : Nat) (v : Value) : Prop := ∀ k, RelB l D E k ∨ k = ro → k ≠ pb ∧ v.ownBlock ≠ some k
end Go.Proofs.Ytaihblfabaijoaa
