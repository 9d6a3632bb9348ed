/- The marks of hits. -/
import Derived.Test.YtkfolefeehggcaaHitKit
import Derived.Test.YtkfolefeehggcaaMarkF
namespace Go.Proofs.Ytkfolefeehggcaa
section
open Go.RowKit
set_option linter.unusedVariables false
set_option linter.unusedSimpArgs false
mutual
/-- how many marks a hit bears behind its own numbers and texts -/
def Ht.marks : Ht → Nat
  | .mk nm _ one many => nm.marks + one.marks + marksHs many
def marksHs : List Ht → Nat
  | [] => 0
  | x :: r => 7 + x.marks + marksHs r
end
mutual
/-- a hit whose memory is marked from k on -/
def Ht.marked : Ht → Int → Ht
  | .mk nm d one many, k => .mk (nm.marked k) d (one.marked (k + nm.marks)) (markedHs many (k + nm.marks + one.marks))
def markedHs : List Ht → Int → List Ht
  | [], _ => []
  | .mk nm _ one many :: r, k => .mk (markedAt nm k) (k + 1 + 1 + 1 + nm.scopes.length + marksAll nm.kids) (markedAt one (k + 1 + 1 + 1 + nm.scopes.length + marksAll nm.kids + 1)) (markedHs many (k + 1 + 1 + 1 + nm.scopes.length + marksAll nm.kids + 1 + 1 + 1 + 1 + one.scopes.length + marksAll one.kids)) :: markedHs r (k + 7 + nm.marks + one.marks + marksHs many)
end
/-- one element of a marked list -/
def markedHAt (x : Ht) (k : Int) : Ht := .mk (markedAt x.name k) (k + 1 + 1 + 1 + x.name.scopes.length + marksAll x.name.kids) (markedAt x.one (k + 1 + 1 + 1 + x.name.scopes.length + marksAll x.name.kids + 1)) (markedHs x.many (k + 1 + 1 + 1 + x.name.scopes.length + marksAll x.name.kids + 1 + 1 + 1 + 1 + x.one.scopes.length + marksAll x.one.kids))
theorem Ht.marks_eq (x : Ht) : x.marks = x.name.marks + x.one.marks + marksHs x.many := by cases x; simp only [Ht.marks, Ht.name, Ht.one, Ht.many]
theorem markedHs_cons (x : Ht) (r : List Ht) (k : Int) : markedHs (x :: r) k = markedHAt x k :: markedHs r (k + 7 + x.marks) := by
  cases x with
  | mk nm d one many =>
    simp only [markedHs, markedHAt, Ht.marks, Ht.name, Ht.one, Ht.many]
    congr 2
    push_cast
    omega
theorem markedHs_length : ∀ (l : List Ht) (k : Int), (markedHs l k).length = l.length
  | [], _ => by simp [markedHs]
  | x :: r, k => by rw [markedHs_cons]; simp [markedHs_length r]
theorem marksHs_append : ∀ (l m : List Ht), marksHs (l ++ m) = marksHs l + marksHs m
  | [], m => by simp [marksHs]
  | x :: r, m => by simp only [List.cons_append, marksHs, marksHs_append r m]; omega
theorem marksHs_take_succ (l : List Ht) (j : Nat) (h : j < l.length) : marksHs (l.take (j + 1)) = marksHs (l.take j) + (7 + (l[j]).marks) := by
  rw [List.take_succ_eq_append_getElem h, marksHs_append]; simp [marksHs]
theorem marksHs_take_le (l : List Ht) (j : Nat) : marksHs (l.take j) ≤ marksHs l := by
  have := marksHs_append (l.take j) (l.drop j)
  rw [List.take_append_drop] at this
  omega
theorem markedHs_append (l m : List Ht) (k : Int) : markedHs (l ++ m) k = markedHs l k ++ markedHs m (k + marksHs l) := by
  induction l generalizing k with
  | nil => simp [markedHs, marksHs]
  | cons x r ih =>
    rw [List.cons_append, markedHs_cons, ih, markedHs_cons, List.cons_append]
    congr 2
    congr 1
    simp only [marksHs]
    omega
theorem markedHs_take_succ (l : List Ht) (k : Int) (j : Nat) (h : j < l.length) : markedHs (l.take (j + 1)) k = markedHs (l.take j) k ++ [markedHAt l[j] (k + marksHs (l.take j))] := by
  rw [List.take_succ_eq_append_getElem h, markedHs_append, markedHs_cons]
  simp [markedHs]
theorem markedHs_get (l : List Ht) (k : Int) (j : Nat) (h : j < l.length) : (markedHs l k)[j]'(by rw [markedHs_length]; exact h) = markedHAt l[j] (k + marksHs (l.take j)) := by
  induction l generalizing k j with
  | nil => simp at h
  | cons x r ih =>
    have e := markedHs_cons x r k
    cases j with
    | zero => simp only [e, List.getElem_cons_zero, List.take_zero, marksHs]; congr 1; omega
    | succ j =>
      have := ih (k + 7 + x.marks) j (by simpa using h)
      simp only [e, List.getElem_cons_succ, this, List.take_succ_cons, marksHs]
      congr 1
      omega
mutual
theorem marks_szH : ∀ f : Fm, f.marks ≤ 3 * f.sz
  | .mk _ _ _ sc ks => by
    have := marksAll_szH ks
    simp only [Fm.marks, Fm.sz] at *
    omega
theorem marksAll_szH : ∀ ks : List Fm, marksAll ks ≤ 3 * szAll ks
  | [] => by simp [marksAll, szAll]
  | f :: r => by
    have h1 := marks_szH f
    have h2 := marksAll_szH r
    cases f with
    | mk kd nm n sc ks =>
      simp only [marksAll, szAll, Fm.marks, Fm.sz] at *
      omega
end
mutual
theorem Ht.marks_sz : ∀ x : Ht, x.marks ≤ 7 * x.sz
  | .mk nm d one many => by
    have h1 := marksHs_sz many
    have h2 := marks_szH nm
    have h3 := marks_szH one
    unfold Ht.marks Ht.sz
    omega
theorem marksHs_sz : ∀ l : List Ht, marksHs l ≤ 7 * szHs l
  | [] => by simp [marksHs, szHs]
  | x :: r => by have h1 := Ht.marks_sz x; have h2 := marksHs_sz r; unfold marksHs szHs; omega
end
/-- in one element of a row: the first cells are 'L', the others are as they were; beside the row's block only 'M' has turned -/
structure MarkS (wr W : World) (b o : Nat) (L : List Value) (M : List Nat) : Prop where
  only : Only (b :: M) wr W
  low : ∀ i, i < o → W.cell? ⟨b, i, none⟩ = wr.cell? ⟨b, i, none⟩
  done : ∀ i (h : i < L.length), W.cell? ⟨b, o + i, none⟩ = some L[i]
  cells : ∀ i, L.length ≤ i → W.cell? ⟨b, o + i, none⟩ = wr.cell? ⟨b, o + i, none⟩
  frz : ∀ i, W.frozen? ⟨b, i, none⟩ = wr.frozen? ⟨b, i, none⟩
theorem MarkS.start (wr : World) (b o : Nat) : MarkS wr wr b o [] [] := ⟨Only.refl _ _, fun _ _ => rfl, fun i h => by simp at h, fun _ _ => rfl, fun _ => rfl⟩
theorem Only.setsH {bs : List Nat} {u w : World} (b : Nat) (hb : b ∈ bs) : ∀ (l : List Value) (o : Nat) {w : World}, Only bs u w → Only bs u (Go.Proofs.Ytkfolefeehggcaa.sets w b o l)
  | [], _, _, h => h
  | c :: r, o, w, h => by unfold Go.Proofs.Ytkfolefeehggcaa.sets; exact Only.setsH (w := w) b hb r (o + 1) (h.setCell b o c hb)
theorem MarkS.sets {wr W : World} {b o : Nat} {L : List Value} {M : List Nat} (h : MarkS wr W b o L M) (l : List Value) (s : Nat) (hs : s = L.length)
    (ht : ∀ j, j < l.length → ∃ v, wr.cell? ⟨b, o + s + j, none⟩ = some v) : MarkS wr (Go.Proofs.Ytkfolefeehggcaa.sets W b (o + s) l) b o (L ++ l) M := by
  refine ⟨Only.setsH (w := W) b (by simp) l _ h.only, fun i hi => (sets_out b l W (o + s) i (by omega)).trans (h.low i hi), fun i hi => ?_, fun i hi => ?_, fun i => (sets_frozen b l W _ _).trans (h.frz i)⟩
  · rw [List.length_append] at hi
    by_cases hlt : i < L.length
    · rw [List.getElem_append_left hlt, sets_out b l W (o + s) (o + i) (by omega)]
      exact h.done i hlt
    · have := sets_in b l W (o + s) (fun j hj => by
        obtain ⟨v, hv⟩ := ht j hj
        refine ⟨v, ?_⟩
        have := h.cells (s + j) (by omega)
        rw [← Nat.add_assoc] at this
        rw [this]; exact hv) (i - s) (by omega)
      rw [show o + s + (i - s) = o + i from by omega] at this
      rw [this, List.getElem_append_right (by omega)]
      simp only [hs]
  · rw [List.length_append] at hi
    exact (sets_out b l W (o + s) (o + i) (by omega)).trans (h.cells i (by omega))
theorem MarkS.keep {wr W : World} {b o : Nat} {L : List Value} {M : List Nat} (h : MarkS wr W b o L M) (v : Value) (s : Nat) (hs : s = L.length) (hv : wr.cell? ⟨b, o + s, none⟩ = some v) : MarkS wr W b o (L ++ [v]) M := by
  refine ⟨h.only, h.low, fun i hi => ?_, fun i hi => h.cells i (by simp at hi; omega), h.frz⟩
  by_cases hlt : i < L.length
  · rw [List.getElem_append_left hlt]
    exact h.done i hlt
  · simp only [List.length_append, List.length_cons, List.length_nil] at hi
    have e : i = s := by omega
    subst e
    rw [h.cells i (by omega), List.getElem_append_right (by omega)]
    simpa using hv
theorem MarkS.below {wr W W' : World} {b o : Nat} {L : List Value} {M : List Nat} (h : MarkS wr W b o L M) (hb : Below W.heap.size W W') (hl : b < W.heap.size) : MarkS wr W' b o L M :=
  ⟨h.only.trans (Only.of_below hb), fun i hi => (hb.cell (p := ⟨b, i, none⟩) hl).trans (h.low i hi), fun i hi => (hb.cell (p := ⟨b, o + i, none⟩) hl).trans (h.done i hi), fun i hi => (hb.cell (p := ⟨b, o + i, none⟩) hl).trans (h.cells i hi), fun i => (hb.frozen (p := ⟨b, i, none⟩) hl).trans (h.frz i)⟩
theorem MarkS.mark {wr W W' : World} {b o : Nat} {L : List Value} {M bs : List Nat} (h : MarkS wr W b o L M) (ho : Only bs W W') (hn : b ∉ bs) (hl : b < W.heap.size) : MarkS wr W' b o L (M ++ bs) := by
  have hk := ho.block b hl hn
  refine ⟨(h.only.mono ?_).trans (ho.mono ?_), fun i hi => (World.cell?_of_block (a := ⟨b, i, none⟩) hk).trans (h.low i hi), fun i hi => (World.cell?_of_block (a := ⟨b, o + i, none⟩) hk).trans (h.done i hi), fun i hi => (World.cell?_of_block (a := ⟨b, o + i, none⟩) hk).trans (h.cells i hi), fun i => (World.frozen?_of_block (a := ⟨b, i, none⟩) hk).trans (h.frz i)⟩
  · intro c hc
    rcases List.mem_cons.1 hc with rfl | hc
    · exact List.mem_cons_self
    · exact List.mem_cons_of_mem _ (List.mem_append_left _ hc)
  · intro c hc
    exact List.mem_cons_of_mem _ (List.mem_append_right _ hc)
theorem MarkS.same {wr W : World} {b o : Nat} {L : List Value} {M cs : List Nat} (h : MarkS wr W b o L M) (hc : ∀ c ∈ cs, c < wr.heap.size ∧ c ≠ b ∧ c ∉ M) : SameOn cs wr W :=
  h.only.sameOn fun c hm => ⟨(hc c hm).1, by simp only [List.mem_cons, not_or]; exact (hc c hm).2⟩
/-- what is behind one mark, while the others are made -/
theorem Only.after {b : Nat} {M cs bs : List Nat} {u v : World} (ho : Only (b :: M) u v) (hc : ∀ c ∈ cs, c < u.heap.size ∧ c ≠ b ∧ c ∉ M) : SameOn cs u v :=
  ho.sameOn fun c hm => ⟨(hc c hm).1, by simp only [List.mem_cons, not_or]; exact (hc c hm).2⟩
/-- the first of a row, taken apart -/
theorem RowOwnH.first {w : World} {b o : Nat} {f : Ht} {r : List Ht} {bs : List Nat} (h : RowOwnH w b o (f :: r) bs) :
    ∃ s1 t1 k1 l1 s2 t2 k2 l2 a cap, ∃ q1 q2 q3 q4 b3 c2, bs = ((q1 ++ q2) ++ (q3 ++ q4) ++ b3) ++ c2 ∧ w.cell? ⟨b, o, none⟩ = some (.int .i64 f.name.kind) ∧ w.cell? ⟨b, o + 1, none⟩ = some (.string f.name.name) ∧ w.cell? ⟨b, o + 2, none⟩ = some (.int .i64 f.name.n) ∧ w.cell? ⟨b, o + 3, none⟩ = some (.slice s1 f.name.scopes.length t1) ∧ w.cell? ⟨b, o + 4, none⟩ = some (.slice k1 f.name.kids.length l1) ∧ w.cell? ⟨b, o + 5, none⟩ = some (.int .i64 f.depth) ∧ w.cell? ⟨b, o + 6, none⟩ = some (.int .i64 f.one.kind) ∧ w.cell? ⟨b, o + 7, none⟩ = some (.string f.one.name) ∧ w.cell? ⟨b, o + 8, none⟩ = some (.int .i64 f.one.n) ∧ w.cell? ⟨b, o + 9, none⟩ = some (.slice s2 f.one.scopes.length t2) ∧ w.cell? ⟨b, o + 10, none⟩ = some (.slice k2 f.one.kids.length l2) ∧ w.cell? ⟨b, o + 11, none⟩ = some (.slice a f.many.length cap) ∧ (∀ j, j < 12 → w.frozen? ⟨b, o + j, none⟩ = false) ∧
      IntOwn w (.slice s1 f.name.scopes.length t1) f.name.scopes q1 ∧ KidsOwn w k1 l1 f.name.kids q2 ∧ IntOwn w (.slice s2 f.one.scopes.length t2) f.one.scopes q3 ∧ KidsOwn w k2 l2 f.one.kids q4 ∧ HitsOwn w a cap f.many b3 ∧ RowOwnH w b (o + 12) r c2 := by
  unfold RowOwnH at h
  obtain ⟨bs1, bs2, rfl, ⟨c0, c1, c2, c3, c4, c5, c6, c7, c8, c9, c10, c11, h0, h1, h2, h3, h4, h5, h6, h7, h8, h9, h10, h11, hf, h12⟩, h13⟩ := h
  cases f with
  | mk nm d one many =>
    unfold OwnH at h12
    obtain ⟨s1, t1, k1, l1, s2, t2, k2, l2, a, cap, b1, b2, b3, e, _, hn, ho, g1, g2, rfl, g3⟩ := h12
    obtain ⟨s1', t1', k1', l1', q1, q2, e1, _, _, _, hs1, hk1, rfl⟩ := hn.kids
    obtain ⟨s2', t2', k2', l2', q3, q4, e2, _, _, _, hs2, hk2, rfl⟩ := ho.kids
    injection e with e
    injection e with e
    simp only [List.cons.injEq, and_true] at e
    obtain ⟨rfl, rfl, rfl, rfl, rfl, rfl, rfl, rfl, rfl, rfl, rfl, rfl⟩ := e
    injection e1 with e1
    injection e1 with e1
    simp only [List.cons.injEq, and_true, Value.slice.injEq, true_and] at e1
    obtain ⟨⟨rfl, rfl⟩, rfl, rfl⟩ := e1
    injection e2 with e2
    injection e2 with e2
    simp only [List.cons.injEq, and_true, Value.slice.injEq, true_and] at e2
    obtain ⟨⟨rfl, rfl⟩, rfl, rfl⟩ := e2
    exact ⟨s1, t1, k1, l1, s2, t2, k2, l2, a, cap, q1, q2, q3, q4, b3, bs2, rfl, h0, h1, h2, h3, h4, h5, h6, h7, h8, h9, h10, h11, hf, hs1, hk1, hs2, hk2, ⟨g1, g2, g3⟩, h13⟩
/-- a marked form, as an element of a row -/
theorem ownMarkedAt {w : World} {f : Fm} {k : Int} {sa a : Option Addr} {scap cap : Nat} {bs1 bs2 : List Nat} (hk : 1 ≤ k) (hk2 : k + 2 ≤ 1099511627776)
    (hs : IntOwn w (.slice sa f.scopes.length scap) (ramp (k + 1 + 1 + 1) f.scopes.length) bs1) (hks : KidsOwn w a cap (markedAll f.kids (k + 1 + 1 + 1 + f.scopes.length)) bs2) :
    OwnV w (markedAt f k) (.agg #[.int .i64 k, .string (mtext (k + 1)), .int .i64 (k + 1 + 1), .slice sa f.scopes.length scap, .slice a f.kids.length cap]) (bs1 ++ bs2) := by
  have hm := mtext_size (k + 1)
  have hmax : (21 : Nat) ≤ maxLen := by unfold maxLen; omega
  unfold markedAt OwnV
  exact ⟨_, a, cap, bs1, bs2, by rw [markedAll_length], by omega, by omega, by omega, hs, hks.1, hks.2.1, rfl, hks.2.2⟩
theorem ownHMarkedAt {w : World} {x : Ht} {k : Int} {s1 k1 s2 k2 a : Option Addr} {t1 l1 t2 l2 cap : Nat} {q1 q2 q3 q4 b3 : List Nat} (hk : 1 ≤ k) (hk2 : k + 1 + 1 + 1 + x.name.scopes.length + marksAll x.name.kids + 1 + 1 + 1 + 1 + x.one.scopes.length + marksAll x.one.kids ≤ 1099511627776)
    (h1 : IntOwn w (.slice s1 x.name.scopes.length t1) (ramp (k + 1 + 1 + 1) x.name.scopes.length) q1) (h2 : KidsOwn w k1 l1 (markedAll x.name.kids (k + 1 + 1 + 1 + x.name.scopes.length)) q2)
    (h3 : IntOwn w (.slice s2 x.one.scopes.length t2) (ramp (k + 1 + 1 + 1 + x.name.scopes.length + marksAll x.name.kids + 1 + 1 + 1 + 1) x.one.scopes.length) q3) (h4 : KidsOwn w k2 l2 (markedAll x.one.kids (k + 1 + 1 + 1 + x.name.scopes.length + marksAll x.name.kids + 1 + 1 + 1 + 1 + x.one.scopes.length)) q4)
    (h5 : HitsOwn w a cap (markedHs x.many (k + 1 + 1 + 1 + x.name.scopes.length + marksAll x.name.kids + 1 + 1 + 1 + 1 + x.one.scopes.length + marksAll x.one.kids)) b3) :
    OwnH w (markedHAt x k) (.agg #[.int .i64 (k), .string (mtext (k + 1)), .int .i64 (k + 1 + 1), .slice s1 x.name.scopes.length t1, .slice k1 x.name.kids.length l1, .int .i64 (k + 1 + 1 + 1 + x.name.scopes.length + marksAll x.name.kids), .int .i64 (k + 1 + 1 + 1 + x.name.scopes.length + marksAll x.name.kids + 1), .string (mtext (k + 1 + 1 + 1 + x.name.scopes.length + marksAll x.name.kids + 1 + 1)), .int .i64 (k + 1 + 1 + 1 + x.name.scopes.length + marksAll x.name.kids + 1 + 1 + 1), .slice s2 x.one.scopes.length t2, .slice k2 x.one.kids.length l2, .slice a x.many.length cap]) ((q1 ++ q2) ++ (q3 ++ q4) ++ b3) := by
  obtain ⟨g1, g2, g3⟩ := h5
  unfold markedHAt OwnH
  refine ⟨s1, t1, k1, l1, s2, t2, k2, l2, a, cap, q1 ++ q2, q3 ++ q4, b3, ?_, by omega, ?_, ?_, g1, g2, rfl, g3⟩
  · rw [markedHs_length]
    unfold markedAt
    simp only [Fm.kind, Fm.name, Fm.n, Fm.scopes, Fm.kids, ramp_length, markedAll_length]
  · have := ownMarkedAt (f := x.name) hk (by omega) h1 h2
    unfold markedAt at this ⊢
    simp only [Fm.kind, Fm.name, Fm.n, Fm.scopes, Fm.kids, ramp_length, markedAll_length] at this ⊢
    exact this
  · have := ownMarkedAt (f := x.one) (k := k + 1 + 1 + 1 + x.name.scopes.length + marksAll x.name.kids + 1) (by omega) (by omega) h3 h4
    unfold markedAt at this ⊢
    simp only [Fm.kind, Fm.name, Fm.n, Fm.scopes, Fm.kids, ramp_length, markedAll_length] at this ⊢
    exact this
/-- the contract of the marks of a list of hits -/
def MarkSaidH (ks : List Ht) : Prop := ∀ (a : Option Addr) (cap : Nat) (bs : List Nat) (k : Int) (w : World), HitsOwn w a cap ks bs → bs.Nodup → (∀ c ∈ bs, c < w.heap.size) → 1 ≤ k → k + marksHs ks ≤ 1099511627776 →
  Calls Try.prog 26 #[.slice a ks.length cap, .int .i64 k] w fun e w' => e = .returned (.int .i64 (k + marksHs ks)) ∧ HitsOwn w' a cap (markedHs ks k) bs ∧ Only bs w w'
/-- the blocks of a row's element lie apart -/
structure DjH (b : Nat) (bs1 q1 q2 q3 q4 b3 c2 : List Nat) : Prop where
  nb : b ∉ bs1 ∧ b ∉ q1 ∧ b ∉ q2 ∧ b ∉ q3 ∧ b ∉ q4 ∧ b ∉ b3 ∧ b ∉ c2
  n2 : q2.Nodup
  n4 : q4.Nodup
  n3 : b3.Nodup
  d1 : ∀ c ∈ q1, c ∉ q2 ∧ c ∉ q3 ∧ c ∉ q4 ∧ c ∉ b3
  d2 : ∀ c ∈ q2, c ∉ q1 ∧ c ∉ q3 ∧ c ∉ q4 ∧ c ∉ b3
  d3 : ∀ c ∈ q3, c ∉ q1 ∧ c ∉ q2 ∧ c ∉ q4 ∧ c ∉ b3
  d4 : ∀ c ∈ q4, c ∉ q1 ∧ c ∉ q2 ∧ c ∉ q3 ∧ c ∉ b3
  d5 : ∀ c ∈ b3, c ∉ q1 ∧ c ∉ q2 ∧ c ∉ q3 ∧ c ∉ q4
  dr : ∀ c ∈ c2, c ∉ q1 ∧ c ∉ q2 ∧ c ∉ q3 ∧ c ∉ q4 ∧ c ∉ b3
  dl : ∀ c ∈ bs1, c ∉ q1 ∧ c ∉ q2 ∧ c ∉ q3 ∧ c ∉ q4 ∧ c ∉ b3
theorem DjH.of {b : Nat} {bs1 q1 q2 q3 q4 b3 c2 : List Nat} (h : (b :: (bs1 ++ (((q1 ++ q2) ++ (q3 ++ q4) ++ b3) ++ c2))).Nodup) : DjH b bs1 q1 q2 q3 q4 b3 c2 := by
  obtain ⟨h1, h2⟩ := List.nodup_cons.1 h
  simp only [List.mem_append, not_or] at h1
  obtain ⟨_, h3, e1⟩ := List.nodup_append.1 h2
  obtain ⟨h4, _, e2⟩ := List.nodup_append.1 h3
  obtain ⟨h5, n3, e3⟩ := List.nodup_append.1 h4
  obtain ⟨h6, h7, e4⟩ := List.nodup_append.1 h5
  obtain ⟨_, n2, e5⟩ := List.nodup_append.1 h6
  obtain ⟨_, n4, e6⟩ := List.nodup_append.1 h7
  exact ⟨⟨h1.1, h1.2.1.1.1.1, h1.2.1.1.1.2, h1.2.1.1.2.1, h1.2.1.1.2.2, h1.2.1.2, h1.2.2⟩, n2, n4, n3,
    fun c hc => ⟨fun hm => e5 c hc c hm rfl, fun hm => e4 c (by simp [hc]) c (by simp [hm]) rfl, fun hm => e4 c (by simp [hc]) c (by simp [hm]) rfl, fun hm => e3 c (by simp [hc]) c hm rfl⟩,
    fun c hc => ⟨fun hm => e5 c hm c hc rfl, fun hm => e4 c (by simp [hc]) c (by simp [hm]) rfl, fun hm => e4 c (by simp [hc]) c (by simp [hm]) rfl, fun hm => e3 c (by simp [hc]) c hm rfl⟩,
    fun c hc => ⟨fun hm => e4 c (by simp [hm]) c (by simp [hc]) rfl, fun hm => e4 c (by simp [hm]) c (by simp [hc]) rfl, fun hm => e6 c hc c hm rfl, fun hm => e3 c (by simp [hc]) c hm rfl⟩,
    fun c hc => ⟨fun hm => e4 c (by simp [hm]) c (by simp [hc]) rfl, fun hm => e4 c (by simp [hm]) c (by simp [hc]) rfl, fun hm => e6 c hm c hc rfl, fun hm => e3 c (by simp [hc]) c hm rfl⟩,
    fun c hc => ⟨fun hm => e3 c (by simp [hm]) c hc rfl, fun hm => e3 c (by simp [hm]) c hc rfl, fun hm => e3 c (by simp [hm]) c hc rfl, fun hm => e3 c (by simp [hm]) c hc rfl⟩,
    fun c hc => ⟨fun hm => e2 c (by simp [hm]) c hc rfl, fun hm => e2 c (by simp [hm]) c hc rfl, fun hm => e2 c (by simp [hm]) c hc rfl, fun hm => e2 c (by simp [hm]) c hc rfl, fun hm => e2 c (by simp [hm]) c hc rfl⟩,
    fun c hc => ⟨fun hm => e1 c hc c (by simp [hm]) rfl, fun hm => e1 c hc c (by simp [hm]) rfl, fun hm => e1 c hc c (by simp [hm]) rfl, fun hm => e1 c hc c (by simp [hm]) rfl, fun hm => e1 c hc c (by simp [hm]) rfl⟩⟩
set_option maxRecDepth 100000 in
set_option maxHeartbeats 8000000 in
theorem markHitS_of (ks : List Ht) (ih : ∀ g ∈ ks, MarkSaidH g.many) : MarkSaidH ks := by
  intro a cap bs k w hv hnd hlt hk hk2
  by_cases hne : ks = []
  · subst hne
    have HV := Lib.hid hv
    obtain ⟨hcap, hmax, _⟩ := hv
    unfold maxLen at hmax
    go_enter Try.func26, Try.ntmps26
    go_wp2
    go_loopw [1, 5] (fun m i wr => m = .int .i64 k ∧ i = .int .i64 0 ∧ wr = w) (fun _ _ _ => 0)
    case atStart => exact ⟨rfl, rfl, rfl⟩
    case round =>
      obtain ⟨rfl, rfl, rfl⟩ := hrel
      go_wp2
      go_ret
      exact ⟨ret_int (by simp [marksHs]), by unfold markedHs; exact HV.out, Only.refl _ _⟩
  · obtain ⟨hcap, hmax, hrow⟩ := hv
    obtain ⟨b, off, bs3, rfl, rfl, hrow1⟩ : ∃ b off bs3, a = some ⟨b, off, none⟩ ∧ bs = b :: bs3 ∧ RowOwnH w b off ks bs3 := by
      rcases hrow with h | h
      · exact absurd h.1 hne
      · exact h
    have HCAP := Lib.hid hcap
    have HMAX := Lib.hid hmax
    unfold maxLen at hmax
    have HIH := Lib.hid ih
    have HND := Lib.hid hnd
    have HLT := Lib.hid hlt
    have HK2 := Lib.hid hk2
    have HST : Hid (∃ bs1 bs2, bs3 = bs1 ++ bs2 ∧ Only (b :: bs3) w w ∧ RowOwnH w b off (markedHs (ks.take 0) k) bs1 ∧ RowOwnH w b (off + 0 * 12) (ks.drop 0) bs2) := ⟨[], bs3, rfl, Only.refl _ _, by simp [markedHs, RowOwnH], by simpa using hrow1⟩
    clear ih hnd hlt hrow hrow1 hne
    go_enter Try.func26, Try.ntmps26
    go_wp2
    go_loopw [1, 5] (fun m i wr => ∃ j : Nat, j ≤ ks.length ∧ i = .int .i64 j ∧ m = .int .i64 (k + marksHs (ks.take j)) ∧ ∃ bs1 bs2, bs3 = bs1 ++ bs2 ∧ Only (b :: bs3) w wr ∧ RowOwnH wr b off (markedHs (ks.take j) k) bs1 ∧ RowOwnH wr b (off + j * 12) (ks.drop j) bs2) (fun _ i _ => ks.length - (intOf i).toNat)
    case atStart => exact ⟨0, Nat.zero_le _, rfl, by simp [marksHs], HST.out⟩
    case round =>
      obtain ⟨j, hj, rfl, rfl, bs1, bs2, hbs, hO, hdone, hrow⟩ := hrel
      have hml := marksHs_take_le ks j
      by_cases hlt : j < ks.length
      · rw [List.drop_eq_getElem_cons hlt] at hrow
        obtain ⟨s1, t1, k1, l1, s2, t2, k2, l2, a, cap, q1, q2, q3, q4, b3, c2, hbe, h0, h1, h2, h3, h4, h5, h6, h7, h8, h9, h10, h11, hfz, hI1, hK1, hI2, hK2, hMn, hrest⟩ := hrow.first
        subst hbe
        have HDJ : Hid (DjH b bs1 q1 q2 q3 q4 b3 c2) := DjH.of (hbs ▸ HND.out)
        have hltb : ∀ c ∈ ((q1 ++ q2) ++ (q3 ++ q4) ++ b3) ++ c2, c < wr.heap.size := fun c hc => Nat.lt_of_lt_of_le (HLT.out c (by rw [hbs]; exact List.mem_cons_of_mem _ (List.mem_append_right _ hc))) hO.size
        have HLTB := Lib.hid hltb
        have HLT1 : Hid (∀ c ∈ bs1, c < wr.heap.size) := fun c hc => Nat.lt_of_lt_of_le (HLT.out c (by rw [hbs]; exact List.mem_cons_of_mem _ (List.mem_append_left _ hc))) hO.size
        have hbw : b < wr.heap.size := Nat.lt_of_lt_of_le (HLT.out b (by simp)) hO.size
        have HI1 := Lib.hid hI1
        have HK1 := Lib.hid hK1
        have HI2 := Lib.hid hI2
        have HK2_ := Lib.hid hK2
        have HMN := Lib.hid hMn
        have HRE := Lib.hid hrest
        have HDN := Lib.hid hdone
        have HFZ := Lib.hid hfz
        have HO := Lib.hid hO
        have HBS := Lib.hid hbs
        have hts := marksHs_take_succ ks j hlt
        have hml2 := marksHs_take_le ks (j + 1)
        have hme := Ht.marks_eq ks[j]
        have hmd := marks_eq ks[j].name
        have hmo := marks_eq ks[j].one
        have hB' : k + marksHs (ks.take j) + 1 + 1 + 1 + ks[j].name.scopes.length + marksAll ks[j].name.kids + 1 + 1 + 1 + 1 + ks[j].one.scopes.length + marksAll ks[j].one.kids + marksHs ks[j].many ≤ 1099511627776 := by omega
        have HTS : Hid (k + marksHs (ks.take (j + 1)) = k + marksHs (ks.take j) + 1 + 1 + 1 + ks[j].name.scopes.length + marksAll ks[j].name.kids + 1 + 1 + 1 + 1 + ks[j].one.scopes.length + marksAll ks[j].one.kids + marksHs ks[j].many) := by unfold Hid; omega
        have HC := Lib.hid (And.intro h0 (And.intro h1 (And.intro h2 (And.intro h3 (And.intro h4 (And.intro h5 (And.intro h6 (And.intro h7 (And.intro h8 (And.intro h9 (And.intro h10 h11)))))))))))
        have f0 := hfz 0 (by omega)
        rw [Nat.add_zero] at f0
        have hkd : ks[j].many.length ≤ cap ∧ cap ≤ maxLen := ⟨hMn.1, hMn.2.1⟩
        clear hI1 hK1 hI2 hK2 hMn hrest hdone hfz hO hts hme hmd hmo hml2 hltb hrow hbs h1 h2 h3 h4 h5 h6 h7 h8 h9 h10 h11 hkd
        obtain ⟨V1, hV⟩ : ∃ V, V = (wr.setCell ⟨b, off + j * 12, none⟩ (.int .i64 (k + marksHs (ks.take j)))) := ⟨_, rfl⟩
        have E1 : Hid (V1 = sets wr b (off + j * 12 + 0) [.int .i64 (k + marksHs (ks.take j))]) := by unfold Hid; rw [hV]; rfl
        have hS1 : MarkS wr V1 b (off + j * 12) ([] ++ [.int .i64 (k + marksHs (ks.take j))]) [] := by rw [E1.out]; exact (MarkS.start wr b (off + j * 12)).sets _ 0 rfl (fun i hi => by
            obtain rfl : i = 0 := by simp at hi; omega
            exact ⟨_, HC.out.1⟩)
        have hz1 : V1.heap.size = wr.heap.size := by rw [E1.out, sets_size]
        have HV1 := Lib.hid hV
        clear hV
        go_wp2_with fail
        rw [← HV1.out]
        clear HV1 h0 f0
        refine (markText_any (k + marksHs (ks.take j) + 1) V1 (by omega) (by omega)).mono ?_
        rintro e W2 ⟨rfl, hb⟩
        have hz2 : wr.heap.size ≤ W2.heap.size := by have := hb.size; omega
        have hS2 := hS1.below hb (by omega)
        have d1_ := (hS2.cells 1 (by simp)).trans HC.out.2.1
        have d2_ := (hS2.cells 2 (by simp)).trans HC.out.2.2.1
        have d3_ := (hS2.cells 3 (by simp)).trans HC.out.2.2.2.1
        have f1 := (hS2.frz _).trans (HFZ.out 1 (by omega))
        have f2 := (hS2.frz _).trans (HFZ.out 2 (by omega))
        have HS2 := Lib.hid hS2
        clear hb hS1 hS2
        obtain ⟨V2, hV⟩ : ∃ V, V = ((W2.setCell ⟨b, off + j * 12 + 1, none⟩ (.string (mtext (k + marksHs (ks.take j) + 1)))).setCell ⟨b, off + j * 12 + 2, none⟩ (.int .i64 (k + marksHs (ks.take j) + 1 + 1))) := ⟨_, rfl⟩
        have E2 : Hid (V2 = sets W2 b (off + j * 12 + 1) [.string (mtext (k + marksHs (ks.take j) + 1)), .int .i64 (k + marksHs (ks.take j) + 1 + 1)]) := by unfold Hid; rw [hV]; rfl
        have hS3 : MarkS wr V2 b (off + j * 12) (([] ++ [.int .i64 (k + marksHs (ks.take j))]) ++ [.string (mtext (k + marksHs (ks.take j) + 1)), .int .i64 (k + marksHs (ks.take j) + 1 + 1)]) [] := by rw [E2.out]; exact HS2.out.sets _ 1 rfl (fun i hi => by
            obtain rfl | rfl : i = 0 ∨ i = 1 := by simp at hi; omega
            · exact ⟨_, HC.out.2.1⟩
            · exact ⟨_, HC.out.2.2.1⟩)
        have hzv2 : V2.heap.size = W2.heap.size := by rw [E2.out, sets_size]
        have HI1_ := Lib.hid (HI1.out.later (hS3.same (fun c hc => ⟨HLTB.out c (by simp [hc]), fun e => HDJ.out.nb.2.1 (e ▸ hc), by simp⟩)))
        have hS3 := hS3.keep (.slice s1 ks[j].name.scopes.length t1) 3 rfl HC.out.2.2.2.1
        have HS3 := Lib.hid hS3
        have HV2 := Lib.hid hV
        clear hV hS3 HS2
        go_wp2_with fail
        rw [← HV2.out]
        clear HV2 d1_ d2_ d3_ f1 f2
        refine (markIntS_any _ _ _ (k + marksHs (ks.take j) + 1 + 1 + 1) V2 HI1_.out (by omega) (by omega)).mono ?_
        rintro e W3 ⟨rfl, hm, ho⟩
        have HM1 := Lib.hid hm
        have hz3 : V2.heap.size ≤ W3.heap.size := ho.size
        have hS4 := HS3.out.mark ho HDJ.out.nb.2.1 (by omega)
        have O1 : Hid (Only (b :: (q2 ++ q3 ++ q4 ++ b3)) W3 W3) := Only.refl _ _
        have d4_ := (hS4.cells 4 (by simp)).trans HC.out.2.2.2.2.1
        have HK1_ := Lib.hid (HK1.out.later (hS4.same (fun c hc => ⟨HLTB.out c (by simp [hc]), fun e => HDJ.out.nb.2.2.1 (e ▸ hc), by have := HDJ.out.d2 c hc; simp only [List.nil_append]; exact this.1⟩)))
        have hS4 := hS4.keep (.slice k1 ks[j].name.kids.length l1) 4 rfl HC.out.2.2.2.2.1
        have HS4 := Lib.hid hS4
        clear hm ho hS4 HS3 HI1_
        go_wp2_with fail
        refine (markFormS_any ks[j].name.kids _ _ _ (k + marksHs (ks.take j) + 1 + 1 + 1 + ks[j].name.scopes.length) W3 HK1_.out HDJ.out.n2 (fun c hc => by have := HLTB.out c (by simp [hc]); omega) (by omega) (by omega)).mono ?_
        rintro e W4 ⟨rfl, hm, ho⟩
        have HM2 := Lib.hid hm
        have hz4 : W3.heap.size ≤ W4.heap.size := ho.size
        have hS5 := HS4.out.mark ho HDJ.out.nb.2.2.1 (by omega)
        have O1 := Lib.hid (O1.out.trans (ho.mono (fun c hc => by simp [hc])))
        have O2 : Hid (Only (b :: (q3 ++ q4 ++ b3)) W4 W4) := Only.refl _ _
        have d5_ := (hS5.cells 5 (by simp)).trans HC.out.2.2.2.2.2.1
        have d6_ := (hS5.cells 6 (by simp)).trans HC.out.2.2.2.2.2.2.1
        have f5 := (hS5.frz _).trans (HFZ.out 5 (by omega))
        have f6 := (hS5.frz _).trans (HFZ.out 6 (by omega))
        have HS5 := Lib.hid hS5
        clear hm ho hS5 HS4 HK1_ d4_
        obtain ⟨V3, hV⟩ : ∃ V, V = ((W4.setCell ⟨b, off + j * 12 + 5, none⟩ (.int .i64 (k + marksHs (ks.take j) + 1 + 1 + 1 + ks[j].name.scopes.length + marksAll ks[j].name.kids))).setCell ⟨b, off + j * 12 + 6, none⟩ (.int .i64 (k + marksHs (ks.take j) + 1 + 1 + 1 + ks[j].name.scopes.length + marksAll ks[j].name.kids + 1))) := ⟨_, rfl⟩
        have E3 : Hid (V3 = sets W4 b (off + j * 12 + 5) [.int .i64 (k + marksHs (ks.take j) + 1 + 1 + 1 + ks[j].name.scopes.length + marksAll ks[j].name.kids), .int .i64 (k + marksHs (ks.take j) + 1 + 1 + 1 + ks[j].name.scopes.length + marksAll ks[j].name.kids + 1)]) := by unfold Hid; rw [hV]; rfl
        have hS6 : MarkS wr V3 b (off + j * 12) ((((([] ++ [.int .i64 (k + marksHs (ks.take j))]) ++ [.string (mtext (k + marksHs (ks.take j) + 1)), .int .i64 (k + marksHs (ks.take j) + 1 + 1)]) ++ [.slice s1 ks[j].name.scopes.length t1]) ++ [.slice k1 ks[j].name.kids.length l1]) ++ [.int .i64 (k + marksHs (ks.take j) + 1 + 1 + 1 + ks[j].name.scopes.length + marksAll ks[j].name.kids), .int .i64 (k + marksHs (ks.take j) + 1 + 1 + 1 + ks[j].name.scopes.length + marksAll ks[j].name.kids + 1)]) (([] ++ q1) ++ q2) := by rw [E3.out]; exact HS5.out.sets _ 5 rfl (fun i hi => by
            obtain rfl | rfl : i = 0 ∨ i = 1 := by simp at hi; omega
            · exact ⟨_, HC.out.2.2.2.2.2.1⟩
            · exact ⟨_, HC.out.2.2.2.2.2.2.1⟩)
        have hzv3 : V3.heap.size = W4.heap.size := by rw [E3.out, sets_size]
        have O1 : Hid (Only (b :: (q2 ++ q3 ++ q4 ++ b3)) W3 V3) := by rw [E3.out]; exact Only.setsH (w := W4) b (by simp) _ _ O1.out
        have O2 : Hid (Only (b :: (q3 ++ q4 ++ b3)) W4 V3) := by rw [E3.out]; exact Only.setsH (w := W4) b (by simp) _ _ O2.out
        have HV3 := Lib.hid hV
        clear hV HS5
        go_wp2_with fail
        rw [← HV3.out]
        clear HV3 d5_ d6_ f5 f6
        refine (markText_any (k + marksHs (ks.take j) + 1 + 1 + 1 + ks[j].name.scopes.length + marksAll ks[j].name.kids + 1 + 1) V3 (by omega) (by omega)).mono ?_
        rintro e W5 ⟨rfl, hb⟩
        have hz5 : V3.heap.size ≤ W5.heap.size := hb.size
        have hS7 := hS6.below hb (by omega)
        have O1 := Lib.hid (O1.out.trans (Only.of_below hb))
        have O2 := Lib.hid (O2.out.trans (Only.of_below hb))
        have d7_ := (hS7.cells 7 (by simp)).trans HC.out.2.2.2.2.2.2.2.1
        have d8_ := (hS7.cells 8 (by simp)).trans HC.out.2.2.2.2.2.2.2.2.1
        have d9_ := (hS7.cells 9 (by simp)).trans HC.out.2.2.2.2.2.2.2.2.2.1
        have f7 := (hS7.frz _).trans (HFZ.out 7 (by omega))
        have f8 := (hS7.frz _).trans (HFZ.out 8 (by omega))
        have HS7 := Lib.hid hS7
        clear hb hS6 hS7
        obtain ⟨V4, hV⟩ : ∃ V, V = ((W5.setCell ⟨b, off + j * 12 + 7, none⟩ (.string (mtext (k + marksHs (ks.take j) + 1 + 1 + 1 + ks[j].name.scopes.length + marksAll ks[j].name.kids + 1 + 1)))).setCell ⟨b, off + j * 12 + 8, none⟩ (.int .i64 (k + marksHs (ks.take j) + 1 + 1 + 1 + ks[j].name.scopes.length + marksAll ks[j].name.kids + 1 + 1 + 1))) := ⟨_, rfl⟩
        have E4 : Hid (V4 = sets W5 b (off + j * 12 + 7) [.string (mtext (k + marksHs (ks.take j) + 1 + 1 + 1 + ks[j].name.scopes.length + marksAll ks[j].name.kids + 1 + 1)), .int .i64 (k + marksHs (ks.take j) + 1 + 1 + 1 + ks[j].name.scopes.length + marksAll ks[j].name.kids + 1 + 1 + 1)]) := by unfold Hid; rw [hV]; rfl
        have hS8 : MarkS wr V4 b (off + j * 12) (((((([] ++ [.int .i64 (k + marksHs (ks.take j))]) ++ [.string (mtext (k + marksHs (ks.take j) + 1)), .int .i64 (k + marksHs (ks.take j) + 1 + 1)]) ++ [.slice s1 ks[j].name.scopes.length t1]) ++ [.slice k1 ks[j].name.kids.length l1]) ++ [.int .i64 (k + marksHs (ks.take j) + 1 + 1 + 1 + ks[j].name.scopes.length + marksAll ks[j].name.kids), .int .i64 (k + marksHs (ks.take j) + 1 + 1 + 1 + ks[j].name.scopes.length + marksAll ks[j].name.kids + 1)]) ++ [.string (mtext (k + marksHs (ks.take j) + 1 + 1 + 1 + ks[j].name.scopes.length + marksAll ks[j].name.kids + 1 + 1)), .int .i64 (k + marksHs (ks.take j) + 1 + 1 + 1 + ks[j].name.scopes.length + marksAll ks[j].name.kids + 1 + 1 + 1)]) (([] ++ q1) ++ q2) := by rw [E4.out]; exact HS7.out.sets _ 7 rfl (fun i hi => by
            obtain rfl | rfl : i = 0 ∨ i = 1 := by simp at hi; omega
            · exact ⟨_, HC.out.2.2.2.2.2.2.2.1⟩
            · exact ⟨_, HC.out.2.2.2.2.2.2.2.2.1⟩)
        have hzv4 : V4.heap.size = W5.heap.size := by rw [E4.out, sets_size]
        have O1 : Hid (Only (b :: (q2 ++ q3 ++ q4 ++ b3)) W3 V4) := by rw [E4.out]; exact Only.setsH (w := W5) b (by simp) _ _ O1.out
        have O2 : Hid (Only (b :: (q3 ++ q4 ++ b3)) W4 V4) := by rw [E4.out]; exact Only.setsH (w := W5) b (by simp) _ _ O2.out
        have HI2_ := Lib.hid (HI2.out.later (hS8.same (fun c hc => ⟨HLTB.out c (by simp [hc]), fun e => HDJ.out.nb.2.2.2.1 (e ▸ hc), by have := HDJ.out.d3 c hc; simp only [List.nil_append, List.mem_append, not_or]; exact ⟨this.1, this.2.1⟩⟩)))
        have hS8 := hS8.keep (.slice s2 ks[j].one.scopes.length t2) 9 rfl HC.out.2.2.2.2.2.2.2.2.2.1
        have HS8 := Lib.hid hS8
        have HV4 := Lib.hid hV
        clear hV hS8 HS7
        go_wp2_with fail
        rw [← HV4.out]
        clear HV4 d7_ d8_ d9_ f7 f8
        refine (markIntS_any _ _ _ (k + marksHs (ks.take j) + 1 + 1 + 1 + ks[j].name.scopes.length + marksAll ks[j].name.kids + 1 + 1 + 1 + 1) V4 HI2_.out (by omega) (by omega)).mono ?_
        rintro e W6 ⟨rfl, hm, ho⟩
        have HM3 := Lib.hid hm
        have hz6 : V4.heap.size ≤ W6.heap.size := ho.size
        have hS9 := HS8.out.mark ho HDJ.out.nb.2.2.2.1 (by omega)
        have O1 := Lib.hid (O1.out.trans (ho.mono (fun c hc => by simp [hc])))
        have O2 := Lib.hid (O2.out.trans (ho.mono (fun c hc => by simp [hc])))
        have O3 : Hid (Only (b :: (q4 ++ b3)) W6 W6) := Only.refl _ _
        have d10_ := (hS9.cells 10 (by simp)).trans HC.out.2.2.2.2.2.2.2.2.2.2.1
        have HK2b := Lib.hid (HK2_.out.later (hS9.same (fun c hc => ⟨HLTB.out c (by simp [hc]), fun e => HDJ.out.nb.2.2.2.2.1 (e ▸ hc), by have := HDJ.out.d4 c hc; simp only [List.nil_append, List.mem_append, not_or]; exact ⟨⟨this.1, this.2.1⟩, this.2.2.1⟩⟩)))
        have hS9 := hS9.keep (.slice k2 ks[j].one.kids.length l2) 10 rfl HC.out.2.2.2.2.2.2.2.2.2.2.1
        have HS9 := Lib.hid hS9
        clear hm ho hS9 HS8 HI2_
        go_wp2_with fail
        refine (markFormS_any ks[j].one.kids _ _ _ (k + marksHs (ks.take j) + 1 + 1 + 1 + ks[j].name.scopes.length + marksAll ks[j].name.kids + 1 + 1 + 1 + 1 + ks[j].one.scopes.length) W6 HK2b.out HDJ.out.n4 (fun c hc => by have := HLTB.out c (by simp [hc]); omega) (by omega) (by omega)).mono ?_
        rintro e W7 ⟨rfl, hm, ho⟩
        have HM4 := Lib.hid hm
        have hz7 : W6.heap.size ≤ W7.heap.size := ho.size
        have hS10 := HS9.out.mark ho HDJ.out.nb.2.2.2.2.1 (by omega)
        have O1 := Lib.hid (O1.out.trans (ho.mono (fun c hc => by simp [hc])))
        have O2 := Lib.hid (O2.out.trans (ho.mono (fun c hc => by simp [hc])))
        have O3 := Lib.hid (O3.out.trans (ho.mono (fun c hc => by simp [hc])))
        have O4 : Hid (Only (b :: b3) W7 W7) := Only.refl _ _
        have d11_ := (hS10.cells 11 (by simp)).trans HC.out.2.2.2.2.2.2.2.2.2.2.2
        have HMN_ := Lib.hid (HMN.out.later (hS10.same (fun c hc => ⟨HLTB.out c (by simp [hc]), fun e => HDJ.out.nb.2.2.2.2.2.1 (e ▸ hc), by have := HDJ.out.d5 c hc; simp only [List.nil_append, List.mem_append, not_or]; exact ⟨⟨⟨this.1, this.2.1⟩, this.2.2.1⟩, this.2.2.2⟩⟩)))
        have hS10 := hS10.keep (.slice a ks[j].many.length cap) 11 rfl HC.out.2.2.2.2.2.2.2.2.2.2.2
        have HS10 := Lib.hid hS10
        clear hm ho hS10 HS9 HK2b d10_
        go_wp2_with fail
        refine (HIH.out ks[j] (List.getElem_mem hlt) _ _ _ (k + marksHs (ks.take j) + 1 + 1 + 1 + ks[j].name.scopes.length + marksAll ks[j].name.kids + 1 + 1 + 1 + 1 + ks[j].one.scopes.length + marksAll ks[j].one.kids) W7 HMN_.out HDJ.out.n3 (fun c hc => by have := HLTB.out c (by simp [hc]); omega) (by omega) hB').mono ?_
        rintro e W8 ⟨rfl, hm, ho⟩
        have HREL : Hid (∃ bs1 bs2, bs3 = bs1 ++ bs2 ∧ Only (b :: bs3) w W8 ∧ RowOwnH W8 b off (markedHs (ks.take (j + 1)) k) bs1 ∧ RowOwnH W8 b (off + (j + 1) * 12) (ks.drop (j + 1)) bs2) := by
          have hS := HS10.out.mark ho HDJ.out.nb.2.2.2.2.2.1 (by omega)
          have o1 := O1.out.trans (ho.mono (fun c hc => by simp [hc]))
          have o2 := O2.out.trans (ho.mono (fun c hc => by simp [hc]))
          have o3 := O3.out.trans (ho.mono (fun c hc => by simp [hc]))
          have o4 := O4.out.trans (ho.mono (fun c hc => by simp [hc]))
          have m1 := HM1.out.later (Only.after (bs := []) o1 (fun c hc => ⟨by have := HLTB.out c (by simp [hc]); omega, fun e => HDJ.out.nb.2.1 (e ▸ hc), by have := HDJ.out.d1 c hc; simp only [List.mem_append, not_or]; exact ⟨⟨⟨this.1, this.2.1⟩, this.2.2.1⟩, this.2.2.2⟩⟩))
          have m2 := HM2.out.later (Only.after (bs := []) o2 (fun c hc => ⟨by have := HLTB.out c (by simp [hc]); omega, fun e => HDJ.out.nb.2.2.1 (e ▸ hc), by have := HDJ.out.d2 c hc; simp only [List.mem_append, not_or]; exact ⟨⟨this.2.1, this.2.2.1⟩, this.2.2.2⟩⟩))
          have m3 := HM3.out.later (Only.after (bs := []) o3 (fun c hc => ⟨by have := HLTB.out c (by simp [hc]); omega, fun e => HDJ.out.nb.2.2.2.1 (e ▸ hc), by have := HDJ.out.d3 c hc; simp only [List.mem_append, not_or]; exact ⟨this.2.2.1, this.2.2.2⟩⟩))
          have m4 := HM4.out.later (Only.after (bs := []) o4 (fun c hc => ⟨by have := HLTB.out c (by simp [hc]); omega, fun e => HDJ.out.nb.2.2.2.2.1 (e ▸ hc), by have := HDJ.out.d4 c hc; exact this.2.2.2⟩))
          have hown := ownHMarkedAt (x := ks[j]) (k := k + marksHs (ks.take j)) (by omega) (by omega) m1 m2 m3 m4 hm
          have hdn := RowOwnH.upto (w' := W8) (hS.same (cs := bs1) (fun c hc => ⟨HLT1.out c hc, fun e => HDJ.out.nb.1 (e ▸ hc), by have := HDJ.out.dl c hc; simp only [List.nil_append, List.mem_append, not_or]; exact ⟨⟨⟨⟨this.1, this.2.1⟩, this.2.2.1⟩, this.2.2.2.1⟩, this.2.2.2.2⟩⟩)) (fun i h1 h2 => ⟨hS.low i (by rw [markedHs_length, List.length_take] at h2; omega), hS.frz i⟩) HDN.out
          have hlen : (markedHs (ks.take j) k).length = j := by rw [markedHs_length, List.length_take]; omega
          have hsn := RowOwnH.snoc hdn (by
            rw [hlen]
            exact ⟨hS.done 0 (by simp), hS.done 1 (by simp), hS.done 2 (by simp), hS.done 3 (by simp), hS.done 4 (by simp), hS.done 5 (by simp), hS.done 6 (by simp), hS.done 7 (by simp), hS.done 8 (by simp), hS.done 9 (by simp), hS.done 10 (by simp), hS.done 11 (by simp)⟩) (by
            rw [hlen]
            exact fun i hi => (hS.frz _).trans (HFZ.out i hi)) hown
          rw [← markedHs_take_succ ks k j hlt] at hsn
          refine ⟨bs1 ++ ((q1 ++ q2) ++ (q3 ++ q4) ++ b3), c2, by rw [HBS.out]; simp only [List.append_assoc], HO.out.trans (hS.only.mono ?_), hsn, ?_⟩
          · intro c hc
            rw [HBS.out]
            simp only [List.nil_append, List.mem_cons, List.mem_append] at hc ⊢
            rcases hc with h | (((h | h) | h) | h) | h <;> simp [h]
          · rw [show off + (j + 1) * 12 = off + j * 12 + 12 from by omega]
            refine RowOwnH.upto (hS.same (fun c hc => ⟨HLTB.out c (by simp [hc]), fun e => HDJ.out.nb.2.2.2.2.2.2 (e ▸ hc), by have := HDJ.out.dr c hc; simp only [List.nil_append, List.mem_append, not_or]; exact ⟨⟨⟨⟨this.1, this.2.1⟩, this.2.2.1⟩, this.2.2.2.1⟩, this.2.2.2.2⟩⟩)) (fun i h1 h2 => ⟨?_, hS.frz i⟩) HRE.out
            obtain ⟨m, rfl⟩ : ∃ m, i = off + j * 12 + m := ⟨i - (off + j * 12), by omega⟩
            exact hS.cells m (by simp; omega)
        clear hm ho d11_
        go_wp2_with fail
        go_roundw
        case rel => exact ⟨j + 1, by omega, by go_num, by rw [HTS.out], HREL.out⟩
        case measure => simp [intOf]; omega
      · obtain rfl : j = ks.length := by omega
        have HZ := Lib.hid (List.take_length (l := ks))
        have HO := Lib.hid hO
        have HDN : Hid (RowOwnH wr b off (markedHs ks k) bs3) := by
          rw [List.take_length] at hdone
          rw [List.drop_length] at hrow
          unfold RowOwnH at hrow
          rw [hbs, hrow, List.append_nil]
          exact hdone
        clear hO hrow hbs hdone
        go_wp2
        go_ret
        exact ⟨by first | rfl | (rw [HZ.out]; rfl), ⟨by rw [markedHs_length]; exact HCAP.out, HMAX.out, .inr ⟨b, off, bs3, rfl, rfl, HDN.out⟩⟩, HO.out⟩
theorem markHits_any (f : Ht) : MarkSaidH f.many := by
  induction f using Ht.ind with
  | h n d o m ih => exact markHitS_of m ih
theorem markHitS_any (ks : List Ht) : MarkSaidH ks := markHitS_of ks fun g _ => markHits_any g
end
end Go.Proofs.Ytkfolefeehggcaa
namespace Go.Proofs.Ytkfolefeehggcaa
section
open Go.RowKit
set_option linter.unusedVariables false
set_option linter.unusedSimpArgs false
theorem Fm.marked_kind (f : Fm) (k : Int) : (f.marked k).kind = f.kind := by cases f; simp [Fm.marked, Fm.kind]
theorem Fm.marked_name (f : Fm) (k : Int) : (f.marked k).name = f.name := by cases f; simp [Fm.marked, Fm.name]
theorem Fm.marked_n (f : Fm) (k : Int) : (f.marked k).n = f.n := by cases f; simp [Fm.marked, Fm.n]
theorem Fm.marked_scopes (f : Fm) (k : Int) : (f.marked k).scopes.length = f.scopes.length := by cases f; simp [Fm.marked, Fm.scopes, ramp_length]
theorem Fm.marked_kids (f : Fm) (k : Int) : (f.marked k).kids.length = f.kids.length := by cases f; simp [Fm.marked, Fm.kids, markedAll_length]
set_option maxRecDepth 100000 in
set_option maxHeartbeats 4000000 in
theorem markHit_any (x : Ht) (v : Value) (bs : List Nat) (k : Int) (w : World) (hv : OwnH w x v bs) (hnd : bs.Nodup) (hlt : ∀ c ∈ bs, c < w.heap.size) (hk : 1 ≤ k) (hk2 : k + x.marks ≤ 1099511627776) :
    Calls Try.prog 28 #[v, .int .i64 k] w fun e w' => e = .returned (.int .i64 (k + x.marks)) ∧ OwnH w' (x.marked k) v bs ∧ Only bs w w' := by
  cases x with
  | mk nm d one many =>
    have hme : (Ht.mk nm d one many).marks = nm.marks + one.marks + marksHs many := by unfold Ht.marks; rfl
    have HME := Lib.hid hme
    rw [hme] at hk2
    unfold OwnH at hv
    obtain ⟨s1, t1, k1, l1, s2, t2, k2, l2, a, cap, b1, b2, b3, rfl, hdd, hn, ho, h1, h2, rfl, h3⟩ := hv
    have HN := Lib.hid hn
    have HO := Lib.hid ho
    have HDD := Lib.hid hdd
    have HM : Hid (HitsOwn w a cap many b3) := ⟨h1, h2, h3⟩
    have HLT := Lib.hid hlt
    obtain ⟨n1, n2, n3⟩ := List.nodup_append.1 hnd
    obtain ⟨n4, n5, n6⟩ := List.nodup_append.1 n1
    have HD : Hid (b1.Nodup ∧ b2.Nodup ∧ b3.Nodup ∧ (∀ c ∈ b1, c ∉ b2 ∧ c ∉ b3) ∧ (∀ c ∈ b2, c ∉ b1 ∧ c ∉ b3) ∧ (∀ c ∈ b3, c ∉ b1 ∧ c ∉ b2)) :=
      ⟨n4, n5, n2, fun c hc => ⟨fun hm => n6 c hc c hm rfl, fun hm => n3 c (by simp [hc]) c hm rfl⟩, fun c hc => ⟨fun hm => n6 c hm c hc rfl, fun hm => n3 c (by simp [hc]) c hm rfl⟩, fun c hc => ⟨fun hm => n3 c (by simp [hm]) c hc rfl, fun hm => n3 c (by simp [hm]) c hc rfl⟩⟩
    clear hn ho hdd h1 h2 h3 hlt hnd n1 n2 n3 n4 n5 n6 hme
    obtain ⟨W0, hW⟩ : ∃ W, W = w.alloc (.cells #[.int .i64 nm.kind, .string nm.name, .int .i64 nm.n, .slice s1 nm.scopes.length t1, .slice k1 nm.kids.length l1, .int .i64 d, .int .i64 one.kind, .string one.name, .int .i64 one.n, .slice s2 one.scopes.length t2, .slice k2 one.kids.length l2, .slice a many.length cap] 38) := ⟨_, rfl⟩
    have hb0 : Below w.heap.size w W0 := by rw [hW]; exact below_alloc w _
    have hz0 : W0.heap.size = w.heap.size + 1 := by rw [hW]; simp
    have c0 : W0.cell? ⟨w.heap.size, 0, none⟩ = some (.int .i64 nm.kind) := by rw [hW]; exact World.cell?_alloc_at _ _ _ _ rfl
    have c1 : W0.cell? ⟨w.heap.size, 1, none⟩ = some (.string nm.name) := by rw [hW]; exact World.cell?_alloc_at _ _ _ _ rfl
    have c2 : W0.cell? ⟨w.heap.size, 2, none⟩ = some (.int .i64 nm.n) := by rw [hW]; exact World.cell?_alloc_at _ _ _ _ rfl
    have c3 : W0.cell? ⟨w.heap.size, 3, none⟩ = some (.slice s1 nm.scopes.length t1) := by rw [hW]; exact World.cell?_alloc_at _ _ _ _ rfl
    have c4 : W0.cell? ⟨w.heap.size, 4, none⟩ = some (.slice k1 nm.kids.length l1) := by rw [hW]; exact World.cell?_alloc_at _ _ _ _ rfl
    have c5 : W0.cell? ⟨w.heap.size, 5, none⟩ = some (.int .i64 d) := by rw [hW]; exact World.cell?_alloc_at _ _ _ _ rfl
    have c6 : W0.cell? ⟨w.heap.size, 6, none⟩ = some (.int .i64 one.kind) := by rw [hW]; exact World.cell?_alloc_at _ _ _ _ rfl
    have c7 : W0.cell? ⟨w.heap.size, 7, none⟩ = some (.string one.name) := by rw [hW]; exact World.cell?_alloc_at _ _ _ _ rfl
    have c8 : W0.cell? ⟨w.heap.size, 8, none⟩ = some (.int .i64 one.n) := by rw [hW]; exact World.cell?_alloc_at _ _ _ _ rfl
    have c9 : W0.cell? ⟨w.heap.size, 9, none⟩ = some (.slice s2 one.scopes.length t2) := by rw [hW]; exact World.cell?_alloc_at _ _ _ _ rfl
    have c10 : W0.cell? ⟨w.heap.size, 10, none⟩ = some (.slice k2 one.kids.length l2) := by rw [hW]; exact World.cell?_alloc_at _ _ _ _ rfl
    have c11 : W0.cell? ⟨w.heap.size, 11, none⟩ = some (.slice a many.length cap) := by rw [hW]; exact World.cell?_alloc_at _ _ _ _ rfl
    have HW := Lib.hid hW
    have HB0 := Lib.hid hb0
    clear hW hb0
    go_enter Try.func28, Try.ntmps28
    go_wp2_with fail
    rw [← HW.out]
    clear HW
    refine (markForm_any nm _ b1 k W0 (OwnV.later _ _ _ (SameOn.of_below HB0.out (fun c hc => HLT.out c (by simp [hc]))) HN.out) HD.out.1 (fun c hc => by have := HLT.out c (by simp [hc]); omega) hk (by omega)).mono ?_
    rintro e W1 ⟨rfl, hm, ho⟩
    have HM1 := Lib.hid hm
    have hz1 : W0.heap.size ≤ W1.heap.size := ho.size
    have hkb := ho.block w.heap.size (by omega) (fun hm => by have := HLT.out _ (List.mem_append_left _ (List.mem_append_left _ hm)); omega)
    have d6 := (World.cell?_of_block (a := ⟨w.heap.size, 6, none⟩) hkb).trans c6
    have d7 := (World.cell?_of_block (a := ⟨w.heap.size, 7, none⟩) hkb).trans c7
    have d8 := (World.cell?_of_block (a := ⟨w.heap.size, 8, none⟩) hkb).trans c8
    have d9 := (World.cell?_of_block (a := ⟨w.heap.size, 9, none⟩) hkb).trans c9
    have d10 := (World.cell?_of_block (a := ⟨w.heap.size, 10, none⟩) hkb).trans c10
    have d11 := (World.cell?_of_block (a := ⟨w.heap.size, 11, none⟩) hkb).trans c11
    have HO1 : Hid (Only (b1 ++ b2 ++ b3) w W1) := (Only.of_below HB0.out).trans (ho.mono (fun c hc => by simp [hc]))
    have HO2 := Lib.hid (OwnV.later _ _ _ (ho.sameOn (fun c hc => ⟨by have := HLT.out c (by simp [hc]); omega, (HD.out.2.2.2.2.1 c hc).1⟩)) (OwnV.later _ _ _ (SameOn.of_below HB0.out (fun c hc => HLT.out c (by simp [hc]))) HO.out))
    have HC2 := Lib.hid (HitsOwn.later (ho.sameOn (fun c hc => ⟨by have := HLT.out c (by simp [hc]); omega, (HD.out.2.2.2.2.2 c hc).1⟩)) (HitsOwn.later (SameOn.of_below HB0.out (fun c hc => HLT.out c (by simp [hc]))) HM.out))
    clear hm ho hkb c0 c1 c2 c3 c4 c5 c6 c7 c8 c9 c10 c11
    go_wp2_with fail
    refine (markForm_any one _ b2 (k + nm.marks) W1 HO2.out HD.out.2.1 (fun c hc => by have := HLT.out c (by simp [hc]); omega) (by omega) (by omega)).mono ?_
    rintro e W2 ⟨rfl, hm, ho⟩
    have HM2 := Lib.hid hm
    have hz2 : W1.heap.size ≤ W2.heap.size := ho.size
    have hkb := ho.block w.heap.size (by omega) (fun hm => by have := HLT.out _ (List.mem_append_left _ (List.mem_append_right _ hm)); omega)
    have e11 := (World.cell?_of_block (a := ⟨w.heap.size, 11, none⟩) hkb).trans d11
    have HO3 : Hid (Only (b1 ++ b2 ++ b3) w W2) := HO1.out.trans (ho.mono (fun c hc => by simp [hc]))
    have HM1b := Lib.hid (OwnV.later _ _ _ (ho.sameOn (fun c hc => ⟨by have := HLT.out c (by simp [hc]); omega, (HD.out.2.2.2.1 c hc).1⟩)) HM1.out)
    have HC3 := Lib.hid (HitsOwn.later (ho.sameOn (fun c hc => ⟨by have := HLT.out c (by simp [hc]); omega, (HD.out.2.2.2.2.2 c hc).2⟩)) HC2.out)
    clear hm ho hkb d6 d7 d8 d9 d10 d11
    go_wp2_with fail
    refine (markHitS_any many a cap b3 (k + nm.marks + one.marks) W2 HC3.out HD.out.2.2.1 (fun c hc => by have := HLT.out c (by simp [hc]); omega) (by omega) (by omega)).mono ?_
    rintro e W3 ⟨rfl, hm, ho⟩
    have HO4 : Hid (Only (b1 ++ b2 ++ b3) w W3) := HO3.out.trans (ho.mono (fun c hc => by simp [hc]))
    have HF : Hid (OwnH W3 ((Ht.mk nm d one many).marked k) (.agg #[.int .i64 nm.kind, .string nm.name, .int .i64 nm.n, .slice s1 nm.scopes.length t1, .slice k1 nm.kids.length l1, .int .i64 d, .int .i64 one.kind, .string one.name, .int .i64 one.n, .slice s2 one.scopes.length t2, .slice k2 one.kids.length l2, .slice a many.length cap]) (b1 ++ b2 ++ b3)) := by
      have m1 := OwnV.later _ _ _ (ho.sameOn (fun c hc => ⟨by have := HLT.out c (by simp [hc]); omega, (HD.out.2.2.2.1 c hc).2⟩)) HM1b.out
      have m2 := OwnV.later _ _ _ (ho.sameOn (fun c hc => ⟨by have := HLT.out c (by simp [hc]); omega, (HD.out.2.2.2.2.1 c hc).2⟩)) HM2.out
      obtain ⟨g1, g2, g3⟩ := hm
      show OwnH W3 ((Ht.mk nm d one many).marked k) _ _
      unfold Ht.marked OwnH
      refine ⟨s1, t1, k1, l1, s2, t2, k2, l2, a, cap, b1, b2, b3, ?_, HDD.out, ?_, ?_, g1, g2, rfl, g3⟩
      · rw [markedHs_length, Fm.marked_kind, Fm.marked_name, Fm.marked_n, Fm.marked_scopes, Fm.marked_kids, Fm.marked_kind, Fm.marked_name, Fm.marked_n, Fm.marked_scopes, Fm.marked_kids]
      · rw [Fm.marked_kind, Fm.marked_name, Fm.marked_n, Fm.marked_scopes, Fm.marked_kids]; exact m1
      · rw [Fm.marked_kind, Fm.marked_name, Fm.marked_n, Fm.marked_scopes, Fm.marked_kids]; exact m2
    clear hm ho e11
    go_wp2_with fail
    go_ret
    exact ⟨ret_int (by rw [HME.out]; omega), HF.out, HO4.out⟩
end
end Go.Proofs.Ytkfolefeehggcaa
