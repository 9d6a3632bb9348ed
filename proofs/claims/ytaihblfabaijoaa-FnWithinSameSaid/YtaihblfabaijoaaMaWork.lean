/- Lists of forms still to be looked at. Nothing of the program is used. -/
import Derived.Test.YtaihblfabaijoaaMaMark
import Derived.Test.YtaihblfabaijoaaEqData
import Derived.Deep.AppendLies
namespace Go.Proofs.Ytaihblfabaijoaa
open Go.RowKit
/-- the form that lies at an address -/
def NodeAt (φ : Nat → Prop) (w : World) (p : Addr) (f : Fm) : Prop :=
  ∃ b o, p = ⟨b, o, none⟩ ∧ φ b ∧ ∃ sa scap a cap, w.cell? ⟨b, o, none⟩ = some (.int .i64 f.kind) ∧ w.cell? ⟨b, o + 1, none⟩ = some (.string f.name) ∧
      w.cell? ⟨b, o + 2, none⟩ = some (.int .i64 f.n) ∧ w.cell? ⟨b, o + 3, none⟩ = some (.slice sa f.scopes.length scap) ∧
      w.cell? ⟨b, o + 4, none⟩ = some (.slice a f.kids.length cap) ∧
      InV φ w f (.agg #[.int .i64 f.kind, .string f.name, .int .i64 f.n, .slice sa f.scopes.length scap, .slice a f.kids.length cap])
theorem NodeAt.later {φ : Nat → Prop} {w w' : World} {p : Addr} {f : Fm} (h : NodeAt φ w p f) (hs : Same φ w w') : NodeAt φ w' p f := by
  obtain ⟨b, o, rfl, hb, sa, scap, a, cap, c0, c1, c2, c3, c4, hin⟩ := h
  exact ⟨b, o, rfl, hb, sa, scap, a, cap, by rw [hs.cell hb]; exact c0, by rw [hs.cell hb]; exact c1, by rw [hs.cell hb]; exact c2, by rw [hs.cell hb]; exact c3, by rw [hs.cell hb]; exact c4, hin.later hs⟩
theorem RowIn.node {φ : Nat → Prop} {w : World} {b off : Nat} {ks : List Fm} (h : RowIn φ w b off ks) (hb : φ b) (i : Nat) (hi : i < ks.length) : NodeAt φ w ⟨b, off + i * 5, none⟩ ks[i] := by
  obtain ⟨sa, scap, a, cap, c0, c1, c2, c3, c4, hin⟩ := h.at' i hi
  exact ⟨b, _, rfl, hb, sa, scap, a, cap, c0, c1, c2, c3, c4, hin⟩
/-- where the forms of a form lie -/
theorem InV.kids {φ : Nat → Prop} {w : World} {f : Fm} {k n : Int} {nm : ByteArray} {s : Value} {a : Option Addr} {len cap : Nat} (h : InV φ w f (.agg #[.int .i64 k, .string nm, .int .i64 n, s, .slice a len cap])) :
    f.kids.length = len ∧ f.kids.length ≤ cap ∧ cap ≤ maxLen ∧ (f.kids = [] ∨ ∃ b off, a = some ⟨b, off, none⟩ ∧ φ b ∧ RowIn φ w b off f.kids) := by
  cases f with
  | mk k nm n sc ks =>
    unfold InV at h
    obtain ⟨vs, a', cap', e, _, _, _, _, h1, h2, h3⟩ := h
    injection e with e
    injection e with e
    simp only [List.cons.injEq, and_true, Value.slice.injEq] at e
    obtain ⟨_, _, _, _, rfl, rfl, rfl⟩ := e
    exact ⟨rfl, h1, h2, h3⟩
/-- pairs still to be compared -/
abbrev Pairs := List ((Addr × Fm) × (Addr × Fm))
def cellsP (l : Pairs) : List Value := l.flatMap fun x => [.pointer (some x.1.1), .pointer (some x.2.1)]
def sameP (l : Pairs) : Bool := l.all fun x => sameB x.1.2 x.2.2
def countP : Pairs → Nat
  | [] => 0
  | x :: r => x.1.2.count + countP r
theorem cellsP_append (l m : Pairs) : cellsP (l ++ m) = cellsP l ++ cellsP m := by simp [cellsP]
theorem cellsP_length (l : Pairs) : (cellsP l).length = l.length * 2 := by
  induction l with
  | nil => rfl
  | cons x r ih =>
    show ([Value.pointer (some x.1.1), Value.pointer (some x.2.1)] ++ cellsP r).length = _
    rw [List.length_append, ih]; simp; omega
theorem countP_append (l m : Pairs) : countP (l ++ m) = countP l + countP m := by
  induction l with
  | nil => simp [countP]
  | cons x r ih => simp only [List.cons_append, countP, ih]; omega
theorem length_countP (l : Pairs) : l.length ≤ countP l := by
  induction l with
  | nil => simp
  | cons x r ih => have : 1 ≤ x.1.2.count := by cases x.1.2; unfold Fm.count; omega
                   simp only [List.length_cons, countP]; omega
theorem sameP_append (l m : Pairs) : sameP (l ++ m) = (sameP l && sameP m) := by simp [sameP]
/-- the pairs of two rows -/
def kidsP (b o b' o' : Nat) : List Fm → List Fm → Pairs
  | f :: r, g :: s => ((⟨b, o, none⟩, f), (⟨b', o', none⟩, g)) :: kidsP b (o + 5) b' (o' + 5) r s
  | _, _ => []
theorem kidsP_same (b b' : Nat) : ∀ (o o' : Nat) (ks ls : List Fm), ks.length = ls.length → sameP (kidsP b o b' o' ks ls) = sameAll ks ls
  | _, _, [], [], _ => rfl
  | o, o', f :: r, g :: s, h => by
    have := kidsP_same b b' (o + 5) (o' + 5) r s (by simpa using h)
    simp only [kidsP, sameAll, sameP, List.all_cons] at this ⊢
    rw [this]
theorem kidsP_count (b b' : Nat) : ∀ (o o' : Nat) (ks ls : List Fm), ks.length = ls.length → countP (kidsP b o b' o' ks ls) = countAll ks
  | _, _, [], [], _ => rfl
  | o, o', f :: r, g :: s, h => by
    have := kidsP_count b b' (o + 5) (o' + 5) r s (by simpa using h)
    simp only [kidsP, countP, countAll, this]
theorem kidsP_take_succ (b b' : Nat) : ∀ (o o' : Nat) (ks ls : List Fm) (j : Nat) (h1 : j < ks.length) (h2 : j < ls.length),
    kidsP b o b' o' (ks.take (j + 1)) (ls.take (j + 1)) = kidsP b o b' o' (ks.take j) (ls.take j) ++ [((⟨b, o + j * 5, none⟩, ks[j]), (⟨b', o' + j * 5, none⟩, ls[j]))]
  | o, o', f :: r, g :: s, 0, _, _ => by simp [kidsP]
  | o, o', f :: r, g :: s, j + 1, h1, h2 => by
    have := kidsP_take_succ b b' (o + 5) (o' + 5) r s j (by simpa using h1) (by simpa using h2)
    simp only [List.take_succ_cons, kidsP, this, List.cons_append, List.getElem_cons_succ]
    rw [show o + 5 + j * 5 = o + (j + 1) * 5 from by omega, show o' + 5 + j * 5 = o' + (j + 1) * 5 from by omega]
theorem kidsP_length (b b' : Nat) : ∀ (o o' : Nat) (ks ls : List Fm), ks.length = ls.length → (kidsP b o b' o' ks ls).length = ks.length
  | _, _, [], [], _ => rfl
  | o, o', f :: r, g :: s, h => by
    have := kidsP_length b b' (o + 5) (o' + 5) r s (by simpa using h)
    simp only [kidsP, List.length_cons, this]
theorem take_length_eq {α : Type} {ks ls : List α} (h : ks.length = ls.length) (j : Nat) : (ks.take j).length = (ls.take j).length := by simp [List.length_take, h]
/-- the state between two rounds of the comparison -/
structure SameMid (T : TypeId) (φ : Nat → Prop) (base : Nat) (w0 wr : World) (pb : Nat) (v : Value) (l : Pairs) : Prop where
  le : base ≤ pb
  cell : wr.cell? ⟨pb, 0, none⟩ = some v
  free : wr.frozen? ⟨pb, 0, none⟩ = false
  own : wr.ownsRow base T 2 v l.length (cellsP l)
  ne : v.ownBlock ≠ some pb
  below : Below base w0 wr
  size : base ≤ wr.heap.size
  nodes : ∀ x ∈ l, NodeAt φ w0 x.1.1 x.1.2 ∧ NodeAt φ w0 x.2.1 x.2.2
theorem SameMid.pop {T : TypeId} {φ : Nat → Prop} {base : Nat} {w0 wr : World} {pb : Nat} {v : Value} {l : Pairs} {x : (Addr × Fm) × (Addr × Fm)} (h : SameMid T φ base w0 wr pb v (l ++ [x])) :
    ∃ g cap, v = .slice (some ⟨g, 0, none⟩) (l.length + 1) cap ∧ wr.ownsRow base T 2 (.slice (some ⟨g, 0, none⟩) (l.length + 1) cap) (l.length + 1) (cellsP l ++ [.pointer (some x.1.1), .pointer (some x.2.1)]) ∧ g ≠ pb ∧ base ≤ g ∧ g < wr.heap.size := by
  have ho := h.own
  rw [List.length_append, List.length_singleton] at ho
  obtain ⟨g, cap, rfl, h1, h2⟩ := ho.form (by omega)
  refine ⟨g, cap, rfl, ?_, ?_, h1, h2⟩
  · rw [cellsP_append] at ho
    exact ho
  · intro e
    exact h.ne (by simp [Value.ownBlock, e])
theorem SameMid.popped {T : TypeId} {φ : Nat → Prop} {base : Nat} {w0 wr w' : World} {pb g cap : Nat} {v : Value} {l : Pairs} {x : (Addr × Fm) × (Addr × Fm)} (h : SameMid T φ base w0 wr pb v (l ++ [x]))
    (hc : w'.cell? ⟨pb, 0, none⟩ = some (.slice (some ⟨g, 0, none⟩) l.length cap)) (hf : w'.frozen? ⟨pb, 0, none⟩ = false) (ho : w'.ownsRow base T 2 (.slice (some ⟨g, 0, none⟩) l.length cap) l.length (cellsP l)) (hne : g ≠ pb)
    (hb : Below base wr w') : SameMid T φ base w0 w' pb (.slice (some ⟨g, 0, none⟩) l.length cap) l :=
  ⟨h.le, hc, hf, ho, by simp [Value.ownBlock, hne], h.below.trans hb, Nat.le_trans h.size hb.size, fun y hy => h.nodes y (List.mem_append_left _ hy)⟩
theorem SameMid.push {T : TypeId} {φ : Nat → Prop} {base : Nat} {w0 wr w' : World} {pb g cap g' cap' : Nat} {l : Pairs} {x : (Addr × Fm) × (Addr × Fm)} (h : SameMid T φ base w0 wr pb (.slice (some ⟨g, 0, none⟩) l.length cap) l)
    (hc : w'.cell? ⟨pb, 0, none⟩ = some (.slice (some ⟨g', 0, none⟩) (l.length + 1) cap')) (hf : w'.frozen? ⟨pb, 0, none⟩ = false)
    (ho : w'.ownsRow base T 2 (.slice (some ⟨g', 0, none⟩) (l.length + 1) cap') (l.length + 1) (cellsP l ++ [.pointer (some x.1.1), .pointer (some x.2.1)])) (hne : g' ≠ pb)
    (hb : Below base wr w') (hx : NodeAt φ w0 x.1.1 x.1.2 ∧ NodeAt φ w0 x.2.1 x.2.2) : SameMid T φ base w0 w' pb (.slice (some ⟨g', 0, none⟩) (l.length + 1) cap') (l ++ [x]) :=
  ⟨h.le, hc, hf, by rw [List.length_append, List.length_singleton, cellsP_append]; exact ho, by simp [Value.ownBlock, hne], h.below.trans hb, Nat.le_trans h.size hb.size, fun y hy => by
    rcases List.mem_append.1 hy with hy | hy
    · exact h.nodes y hy
    · rw [List.mem_singleton] at hy; subst hy; exact hx⟩
theorem SameMid.move {T T' : TypeId} {φ : Nat → Prop} {base : Nat} {w0 wr : World} {pb : Nat} {v : Value} {l : Pairs} (h : SameMid T φ base w0 wr pb v l) :
    SameMid T φ base w0 (wr.alloc (.cells #[v] T')) wr.heap.size v l :=
  ⟨h.size, World.cell?_alloc_at _ _ _ _ rfl, World.frozen?_alloc_at _ _ _ _ rfl, h.own.alloc _, fun e => by have := h.own.lt _ e; omega, h.below.alloc h.size _, by have := h.size; simp; omega, h.nodes⟩
theorem ownsRow_at {w : World} {base g : Nat} {e : TypeId} {size n m cap : Nat} {xs : List Value} (h : w.ownsRow base e size (.slice (some ⟨g, 0, none⟩) n cap) m xs) :
    base ≤ g ∧ g < w.heap.size ∧ m = n ∧ n ≤ cap ∧ cap ≤ maxLen := by
  rcases h.2 with ⟨h', _⟩ | ⟨g', cap', cur, h', hb, hg, hnc, hcm, _⟩
  · simp at h'
  · simp only [Value.slice.injEq, Option.some.injEq, Addr.mk.injEq, and_true] at h'
    obtain ⟨rfl, rfl, rfl⟩ := h'
    exact ⟨hb, (Array.getElem?_eq_some_iff.1 hg).1, rfl, hnc, hcm⟩
theorem length_countAll (ks : List Fm) : ks.length ≤ countAll ks := by
  induction ks with
  | nil => simp
  | cons f r ih => have : 1 ≤ f.count := by cases f; unfold Fm.count; omega
                   simp only [List.length_cons, countAll]; omega
theorem count_eq (f : Fm) : f.count = countAll f.kids + 1 := by cases f; simp [Fm.count, Fm.kids]
end Go.Proofs.Ytaihblfabaijoaa
