/- Equality of core programs, and pairs of them still to be compared. -/
import Derived.Test.YtbclgmabidjegaaBoxC
import Derived.Test.YtbclgmabidjegaaPop2
import Derived.Test.YtbclgmabidjegaaEndDag
import Derived.Test.YtbclgmabidjegaaSame
namespace Go.Proofs.Ytbclgmabidjegaa
open Go.RowKit
set_option linter.unusedVariables false
set_option linter.unusedSimpArgs false
mutual
/-- two core programs are equal -/
def sameC : Ck → Ck → Bool
  | .mk k id nm n ids d ks, .mk k' id' nm' n' ids' d' ks' => k == k' && id == id' && (nm.data.toList == nm'.data.toList) && n == n' && ids == ids' && sameB d d' && sameCs ks ks'
def sameCs : List Ck → List Ck → Bool
  | [], [] => true
  | f :: r, g :: s => sameC f g && sameCs r s
  | _, _ => false
end
theorem sameCs_length : ∀ {ks ls : List Ck}, sameCs ks ls = true → ks.length = ls.length
  | [], [], _ => rfl
  | f :: r, g :: s, h => by
    simp only [sameCs, Bool.and_eq_true] at h
    simp [sameCs_length h.2]
  | [], _ :: _, h => by simp [sameCs] at h
  | _ :: _, [], h => by simp [sameCs] at h
theorem sameCs_take_succ : ∀ (ks ls : List Ck) (j : Nat) (h1 : j < ks.length) (h2 : j < ls.length),
    sameCs (ks.take (j + 1)) (ls.take (j + 1)) = (sameCs (ks.take j) (ls.take j) && sameC ks[j] ls[j])
  | f :: r, g :: s, 0, _, _ => by simp [sameCs]
  | f :: r, g :: s, j + 1, h1, h2 => by
    have := sameCs_take_succ r s j (by simpa using h1) (by simpa using h2)
    simp only [List.take_succ_cons, sameCs, List.getElem_cons_succ, this, Bool.and_assoc]
theorem sameCs_take : ∀ (ks ls : List Ck) (j : Nat), sameCs ks ls = true → sameCs (ks.take j) (ls.take j) = true
  | [], [], _, _ => by simp [sameCs]
  | f :: r, g :: s, 0, _ => by simp [sameCs]
  | f :: r, g :: s, j + 1, h => by
    simp only [sameCs, Bool.and_eq_true, List.take_succ_cons] at h ⊢
    exact ⟨h.1, sameCs_take r s j h.2⟩
  | [], _ :: _, _, h => by simp [sameCs] at h
  | _ :: _, [], _, h => by simp [sameCs] at h
theorem sameCs_no {ks ls : List Ck} (j : Nat) (h : sameCs (ks.take j) (ls.take j) = false) : sameCs ks ls = false := by
  cases hs : sameCs ks ls with
  | false => rfl
  | true => rw [sameCs_take ks ls j hs] at h; cases h
mutual
theorem sameC_refl : ∀ f : Ck, sameC f f = true
  | .mk k id nm n ids d ks => by simp [sameC, sameCs_refl ks, sameB_refl d]
theorem sameCs_refl : ∀ ks : List Ck, sameCs ks ks = true
  | [] => rfl
  | f :: r => by simp [sameCs, sameC_refl f, sameCs_refl r]
end
/-- equal but for what the programs within are -/
def nodeSameC (f g : Ck) : Bool := f.kind == g.kind && f.id == g.id && (f.name.data.toList == g.name.data.toList) && f.n == g.n && f.ids == g.ids && sameB f.data g.data && f.kids.length == g.kids.length
theorem sameC_node (f g : Ck) : sameC f g = (nodeSameC f g && sameCs f.kids g.kids) := by
  cases f with
  | mk k id nm n ids d ks =>
    cases g with
    | mk k' id' nm' n' ids' d' ks' =>
      simp only [sameC, nodeSameC, Ck.kind, Ck.id, Ck.name, Ck.n, Ck.ids, Ck.data, Ck.kids]
      cases hs : sameCs ks ks' with
      | false => simp
      | true => rw [sameCs_length hs]; simp
theorem Ck.kid_sz {f : Ck} {j : Nat} (h : j < f.kids.length) : (f.kids[j]).sz ≤ f.sz := by
  have h1 := f.sz_eq
  have h2 := szCs_get f.kids j h
  omega
theorem InC.pl {f : Ck} {v : Value} {w w' : World} (hb : Below w.heap.size w w') (h : InC (Pl w.heap.size w) w f v) : InC (Pl w'.heap.size w') w' f v :=
  InC.mono (fun k hk => ⟨Nat.lt_of_lt_of_le hk.1 hb.size, hk.2.same (hb.block _ hk.1)⟩) _ _ (InC.later (fun k hk => hb.block _ hk.1) _ _ h)
namespace CoreT
/-- the core program that lies at an address -/
def NodeAt (φ : Nat → Prop) (w : World) (p : Addr) (f : Ck) : Prop :=
  ∃ b o, p = ⟨b, o, none⟩ ∧ φ b ∧ f.sz ≤ 1048576 ∧ ∃ i1 j1 s1 t1 k1 l1 a cap, w.cell? ⟨b, o, none⟩ = some (.int .i64 f.kind) ∧ w.cell? ⟨b, o + 1, none⟩ = some (.int .i64 f.id) ∧ w.cell? ⟨b, o + 2, none⟩ = some (.string f.name) ∧ w.cell? ⟨b, o + 3, none⟩ = some (.int .i64 f.n) ∧ w.cell? ⟨b, o + 4, none⟩ = some (.slice i1 f.ids.length j1) ∧ w.cell? ⟨b, o + 5, none⟩ = some (.int .i64 f.data.kind) ∧ w.cell? ⟨b, o + 6, none⟩ = some (.string f.data.name) ∧ w.cell? ⟨b, o + 7, none⟩ = some (.int .i64 f.data.n) ∧ w.cell? ⟨b, o + 8, none⟩ = some (.slice s1 f.data.scopes.length t1) ∧ w.cell? ⟨b, o + 9, none⟩ = some (.slice k1 f.data.kids.length l1) ∧ w.cell? ⟨b, o + 10, none⟩ = some (.slice a f.kids.length cap) ∧ InC φ w f (.agg #[.int .i64 f.kind, .int .i64 f.id, .string f.name, .int .i64 f.n, .slice i1 f.ids.length j1, .int .i64 f.data.kind, .string f.data.name, .int .i64 f.data.n, .slice s1 f.data.scopes.length t1, .slice k1 f.data.kids.length l1, .slice a f.kids.length cap])
theorem NodeAt.later {φ : Nat → Prop} {w w' : World} {p : Addr} {f : Ck} (h : NodeAt φ w p f) (hs : Same φ w w') : NodeAt φ w' p f := by
  obtain ⟨b, o, rfl, hb, hz, i1, j1, s1, t1, k1, l1, a, cap, h0, h1, h2, h3, h4, h5, h6, h7, h8, h9, h10, hin⟩ := h
  exact ⟨b, o, rfl, hb, hz, i1, j1, s1, t1, k1, l1, a, cap, by rw [hs.cell hb]; exact h0, by rw [hs.cell hb]; exact h1, by rw [hs.cell hb]; exact h2, by rw [hs.cell hb]; exact h3, by rw [hs.cell hb]; exact h4, by rw [hs.cell hb]; exact h5, by rw [hs.cell hb]; exact h6, by rw [hs.cell hb]; exact h7, by rw [hs.cell hb]; exact h8, by rw [hs.cell hb]; exact h9, by rw [hs.cell hb]; exact h10, hin.later hs⟩
theorem _root_.Go.Proofs.Ytbclgmabidjegaa.RowC.node {φ : Nat → Prop} {w : World} {b off : Nat} {ks : List Ck} (h : RowC φ w b off ks) (hb : φ b) (i : Nat) (hi : i < ks.length) (hz : (ks[i]).sz ≤ 1048576) : NodeAt φ w ⟨b, off + i * 11, none⟩ ks[i] := by
  obtain ⟨i1, j1, s1, t1, k1, l1, a, cap, h0, h1, h2, h3, h4, h5, h6, h7, h8, h9, h10, hin⟩ := h.at' i hi
  exact ⟨b, _, rfl, hb, hz, i1, j1, s1, t1, k1, l1, a, cap, h0, h1, h2, h3, h4, h5, h6, h7, h8, h9, h10, hin⟩
/-- pairs still to be compared -/
abbrev Pairs := List ((Addr × Ck) × (Addr × Ck))
def cellsP (l : Pairs) : List Value := l.flatMap fun x => [.pointer (some x.1.1), .pointer (some x.2.1)]
def sameP (l : Pairs) : Bool := l.all fun x => sameC x.1.2 x.2.2
def countP : Pairs → Nat
  | [] => 0
  | x :: r => x.1.2.count + countP r
theorem cellsP_append (l m : Pairs) : cellsP (l ++ m) = cellsP l ++ cellsP m := by simp [cellsP]
theorem cellsP_length (l : Pairs) : (cellsP l).length = l.length * 2 := by
  induction l with
  | nil => rfl
  | cons x r ih =>
    show ([Value.pointer (some x.1.1), Value.pointer (some x.2.1)] ++ cellsP r).length = _
    rw [List.length_append, ih]; simp; omega
theorem countP_append (l m : Pairs) : countP (l ++ m) = countP l + countP m := by
  induction l with
  | nil => simp [countP]
  | cons x r ih => simp only [List.cons_append, countP, ih]; omega
theorem length_countP (l : Pairs) : l.length ≤ countP l := by
  induction l with
  | nil => simp
  | cons x r ih => have : 1 ≤ x.1.2.count := by have := x.1.2.count_eq; omega
                   simp only [List.length_cons, countP]; omega
theorem sameP_append (l m : Pairs) : sameP (l ++ m) = (sameP l && sameP m) := by simp [sameP]
/-- the pairs of two rows -/
def kidsP (b o b' o' : Nat) : List Ck → List Ck → Pairs
  | f :: r, g :: s => ((⟨b, o, none⟩, f), (⟨b', o', none⟩, g)) :: kidsP b (o + 11) b' (o' + 11) r s
  | _, _ => []
theorem kidsP_same (b b' : Nat) : ∀ (o o' : Nat) (ks ls : List Ck), ks.length = ls.length → sameP (kidsP b o b' o' ks ls) = sameCs ks ls
  | _, _, [], [], _ => rfl
  | o, o', f :: r, g :: s, h => by
    have := kidsP_same b b' (o + 11) (o' + 11) r s (by simpa using h)
    simp only [kidsP, sameCs, sameP, List.all_cons] at this ⊢
    rw [this]
theorem kidsP_count (b b' : Nat) : ∀ (o o' : Nat) (ks ls : List Ck), ks.length = ls.length → countP (kidsP b o b' o' ks ls) = countCs ks
  | _, _, [], [], _ => rfl
  | o, o', f :: r, g :: s, h => by
    have := kidsP_count b b' (o + 11) (o' + 11) r s (by simpa using h)
    simp only [kidsP, countP, countCs, this]
theorem kidsP_take_succ (b b' : Nat) : ∀ (o o' : Nat) (ks ls : List Ck) (j : Nat) (h1 : j < ks.length) (h2 : j < ls.length),
    kidsP b o b' o' (ks.take (j + 1)) (ls.take (j + 1)) = kidsP b o b' o' (ks.take j) (ls.take j) ++ [((⟨b, o + j * 11, none⟩, ks[j]), (⟨b', o' + j * 11, none⟩, ls[j]))]
  | o, o', f :: r, g :: s, 0, _, _ => by simp [kidsP]
  | o, o', f :: r, g :: s, j + 1, h1, h2 => by
    have := kidsP_take_succ b b' (o + 11) (o' + 11) r s j (by simpa using h1) (by simpa using h2)
    simp only [List.take_succ_cons, kidsP, this, List.cons_append, List.getElem_cons_succ]
    rw [show o + 11 + j * 11 = o + (j + 1) * 11 from by omega, show o' + 11 + j * 11 = o' + (j + 1) * 11 from by omega]
theorem kidsP_length (b b' : Nat) : ∀ (o o' : Nat) (ks ls : List Ck), ks.length = ls.length → (kidsP b o b' o' ks ls).length = ks.length
  | _, _, [], [], _ => rfl
  | o, o', f :: r, g :: s, h => by
    have := kidsP_length b b' (o + 11) (o' + 11) r s (by simpa using h)
    simp only [kidsP, List.length_cons, this]
/-- the state between two rounds of the comparison -/
structure SameMid (T : TypeId) (φ : Nat → Prop) (base : Nat) (w0 wr : World) (pb : Nat) (v : Value) (l : Pairs) : Prop where
  le : base ≤ pb
  cell : wr.cell? ⟨pb, 0, none⟩ = some v
  free : wr.frozen? ⟨pb, 0, none⟩ = false
  own : wr.ownsRow base T 2 v l.length (cellsP l)
  ne : v.ownBlock ≠ some pb
  below : Below base w0 wr
  size : base ≤ wr.heap.size
  nodes : ∀ x ∈ l, NodeAt φ w0 x.1.1 x.1.2 ∧ NodeAt φ w0 x.2.1 x.2.2
theorem SameMid.pop {T : TypeId} {φ : Nat → Prop} {base : Nat} {w0 wr : World} {pb : Nat} {v : Value} {l : Pairs} {x : (Addr × Ck) × (Addr × Ck)} (h : SameMid T φ base w0 wr pb v (l ++ [x])) :
    ∃ g cap, v = .slice (some ⟨g, 0, none⟩) (l.length + 1) cap ∧ wr.ownsRow base T 2 (.slice (some ⟨g, 0, none⟩) (l.length + 1) cap) (l.length + 1) (cellsP l ++ [.pointer (some x.1.1), .pointer (some x.2.1)]) ∧ g ≠ pb ∧ base ≤ g ∧ g < wr.heap.size := by
  have ho := h.own
  rw [List.length_append, List.length_singleton] at ho
  obtain ⟨g, cap, rfl, h1, h2⟩ := ho.form (by omega)
  refine ⟨g, cap, rfl, ?_, ?_, h1, h2⟩
  · rw [cellsP_append] at ho
    exact ho
  · intro e
    exact h.ne (by simp [Value.ownBlock, e])
theorem SameMid.popped {T : TypeId} {φ : Nat → Prop} {base : Nat} {w0 wr w' : World} {pb g cap : Nat} {v : Value} {l : Pairs} {x : (Addr × Ck) × (Addr × Ck)} (h : SameMid T φ base w0 wr pb v (l ++ [x]))
    (hc : w'.cell? ⟨pb, 0, none⟩ = some (.slice (some ⟨g, 0, none⟩) l.length cap)) (hf : w'.frozen? ⟨pb, 0, none⟩ = false) (ho : w'.ownsRow base T 2 (.slice (some ⟨g, 0, none⟩) l.length cap) l.length (cellsP l)) (hne : g ≠ pb)
    (hb : Below base wr w') : SameMid T φ base w0 w' pb (.slice (some ⟨g, 0, none⟩) l.length cap) l :=
  ⟨h.le, hc, hf, ho, by simp [Value.ownBlock, hne], h.below.trans hb, Nat.le_trans h.size hb.size, fun y hy => h.nodes y (List.mem_append_left _ hy)⟩
theorem SameMid.push {T : TypeId} {φ : Nat → Prop} {base : Nat} {w0 wr w' : World} {pb g cap g' cap' : Nat} {l : Pairs} {x : (Addr × Ck) × (Addr × Ck)} (h : SameMid T φ base w0 wr pb (.slice (some ⟨g, 0, none⟩) l.length cap) l)
    (hc : w'.cell? ⟨pb, 0, none⟩ = some (.slice (some ⟨g', 0, none⟩) (l.length + 1) cap')) (hf : w'.frozen? ⟨pb, 0, none⟩ = false)
    (ho : w'.ownsRow base T 2 (.slice (some ⟨g', 0, none⟩) (l.length + 1) cap') (l.length + 1) (cellsP l ++ [.pointer (some x.1.1), .pointer (some x.2.1)])) (hne : g' ≠ pb)
    (hb : Below base wr w') (hx : NodeAt φ w0 x.1.1 x.1.2 ∧ NodeAt φ w0 x.2.1 x.2.2) : SameMid T φ base w0 w' pb (.slice (some ⟨g', 0, none⟩) (l.length + 1) cap') (l ++ [x]) :=
  ⟨h.le, hc, hf, by rw [List.length_append, List.length_singleton, cellsP_append]; exact ho, by simp [Value.ownBlock, hne], h.below.trans hb, Nat.le_trans h.size hb.size, fun y hy => by
    rcases List.mem_append.1 hy with hy | hy
    · exact h.nodes y hy
    · rw [List.mem_singleton] at hy; subst hy; exact hx⟩
theorem SameMid.move {T T' : TypeId} {φ : Nat → Prop} {base : Nat} {w0 wr : World} {pb : Nat} {v : Value} {l : Pairs} (h : SameMid T φ base w0 wr pb v l) :
    SameMid T φ base w0 (wr.alloc (.cells #[v] T')) wr.heap.size v l :=
  ⟨h.size, World.cell?_alloc_at _ _ _ _ rfl, World.frozen?_alloc_at _ _ _ _ rfl, h.own.alloc _, fun e => by have := h.own.lt _ e; omega, h.below.alloc h.size _, by have := h.size; simp; omega, h.nodes⟩
set_option maxRecDepth 100000 in
set_option maxHeartbeats 1000000 in
theorem popPair_any (base pb g cap n : Nat) (xs : List Value) (p q : Addr) (w : World) (hp : w.cell? ⟨pb, 0, none⟩ = some (.slice (some ⟨g, 0, none⟩) (n + 1) cap)) (hf : w.frozen? ⟨pb, 0, none⟩ = false)
    (hown : w.ownsRow base 175 2 (.slice (some ⟨g, 0, none⟩) (n + 1) cap) (n + 1) (xs ++ [.pointer (some p), .pointer (some q)])) (hx : xs.length = n * 2) (hne : g ≠ pb) (hb : base ≤ pb) (hbw : base ≤ w.heap.size) :
    Calls Try.prog 135 #[.pointer (some ⟨pb, 0, none⟩)] w
      fun e w' => e = .returned (.agg #[.pointer (some p), .pointer (some q)]) ∧ Popped base 175 2 pb g cap n xs w w' := by
  have hc0 : w.cell? ⟨g, n * 2, none⟩ = some (.pointer (some p)) := by
    rw [hown.cellAt (n * 2) (by omega), List.getElem?_append_right (by omega), hx, show n * 2 - n * 2 = 0 from by omega]; simp
  have hc1 : w.cell? ⟨g, n * 2 + 1, none⟩ = some (.pointer (some q)) := by
    rw [hown.cellAt (n * 2 + 1) (by omega), List.getElem?_append_right (by omega), hx, show n * 2 + 1 - n * 2 = 1 from by omega]; simp
  have hcm : n + 1 ≤ cap ∧ cap ≤ maxLen := by
    rcases hown.2 with ⟨h', _⟩ | ⟨g', cap', cur, h', _, _, h1, h2, _⟩
    · simp at h'
    · simp only [Value.slice.injEq, Option.some.injEq, Addr.mk.injEq, and_true, true_and] at h'
      obtain ⟨rfl, rfl⟩ := h'
      exact ⟨h1, h2⟩
  obtain ⟨hcap, hmax⟩ := hcm
  unfold maxLen at hmax
  have hgl : g < w.heap.size := cell_lt hc0
  have hpl : pb < w.heap.size := cell_lt hp
  have hpn : w.heap.size ≠ pb := by omega
  have hpn1 : w.heap.size + 1 ≠ pb := by omega
  have HO := Lib.hid (ownsRow_cut hown (by omega))
  have HF := Lib.hid hf
  clear hown hx
  go_enter Try.func135, Try.ntmps135
  go_wp2_with fail
  refine bodyPost_ret (v := .agg #[.pointer (some p), .pointer (some q)]) (by simp [results, Try.results135, go_sem]) rfl ⟨rfl, ?_⟩
  exact (popped_set hp HF.out HO.out hne hb).later (((Below.refl _ _).alloc (Nat.le_refl _) _).alloc (by simp) _) hbw
end CoreT
end Go.Proofs.Ytbclgmabidjegaa
