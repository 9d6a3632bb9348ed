/- What marking a form's memory makes of it. Nothing of the program is used. -/
import Derived.Test.YtaihblfabaijoaaOwn
namespace Go.Proofs.Ytaihblfabaijoaa
open Go.RowKit
/-- numbers from k on -/
def ramp : Int → Nat → List Int
  | _, 0 => []
  | k, n + 1 => k :: ramp (k + 1) n
theorem ramp_length : ∀ (n : Nat) (k : Int), (ramp k n).length = n
  | 0, _ => rfl
  | n + 1, k => by simp [ramp, ramp_length n (k + 1)]
theorem ramp_get : ∀ (n : Nat) (k : Int) (i : Nat) (h : i < (ramp k n).length), (ramp k n)[i] = k + i
  | 0, _, _, h => by simp [ramp] at h
  | n + 1, k, 0, _ => by simp [ramp]
  | n + 1, k, i + 1, h => by
    have h' : i < (ramp (k + 1) n).length := by rw [ramp_length]; rw [ramp_length] at h; omega
    have := ramp_get n (k + 1) i h'
    simp only [ramp, List.getElem_cons_succ, this]
    omega
theorem ramp_mem {n : Nat} {k x : Int} (h : x ∈ ramp k n) : k ≤ x ∧ x < k + n := by
  obtain ⟨i, hi, rfl⟩ := List.mem_iff_getElem.1 h
  rw [ramp_get]
  rw [ramp_length] at hi
  omega
/-- the letters of a mark's number, in front of others -/
def mgo : Nat → Int → List UInt8 → List UInt8
  | 0, _, out => out
  | n + 1, k, out => if k ≤ 0 then out else mgo n (k / 10) (UInt8.ofNat (48 + k % 10).toNat :: out)
def mtext (k : Int) : ByteArray := ⟨(109 :: mgo 20 k []).toArray⟩
theorem mgo_length : ∀ (n : Nat) (k : Int) (out : List UInt8), (mgo n k out).length ≤ n + out.length
  | 0, _, _ => by simp [mgo]
  | n + 1, k, out => by
    unfold mgo
    split
    · omega
    · have := mgo_length n (k / 10) (UInt8.ofNat (48 + k % 10).toNat :: out)
      simp only [List.length_cons] at this
      omega
theorem mtext_size (k : Int) : (mtext k).size ≤ 21 := by
  have := mgo_length 20 k []
  show (109 :: mgo 20 k []).toArray.size ≤ 21
  simp only [List.size_toArray, List.length_cons]
  simp only [List.length_nil, Nat.add_zero] at this
  omega
mutual
/-- how many marks there are in a form -/
def Fm.marks : Fm → Nat
  | .mk _ _ _ sc ks => sc.length + marksAll ks
def marksAll : List Fm → Nat
  | [] => 0
  | f :: r => 3 + f.marks + marksAll r
end
mutual
/-- a form whose memory is marked from k on -/
def Fm.marked : Fm → Int → Fm
  | .mk kd nm n sc ks, k => .mk kd nm n (ramp k sc.length) (markedAll ks (k + sc.length))
def markedAll : List Fm → Int → List Fm
  | [], _ => []
  | .mk _ _ _ sc ks :: r, k => .mk k (mtext (k + 1)) (k + 1 + 1) (ramp (k + 1 + 1 + 1) sc.length) (markedAll ks (k + 1 + 1 + 1 + sc.length)) :: markedAll r (k + 3 + sc.length + marksAll ks)
end
theorem markedAll_length : ∀ (ks : List Fm) (k : Int), (markedAll ks k).length = ks.length
  | [], _ => by simp [markedAll]
  | .mk _ _ _ sc ks :: r, k => by simp [markedAll, markedAll_length r]
/-- one element of a marked list -/
def markedAt (f : Fm) (k : Int) : Fm := .mk k (mtext (k + 1)) (k + 1 + 1) (ramp (k + 1 + 1 + 1) f.scopes.length) (markedAll f.kids (k + 1 + 1 + 1 + f.scopes.length))
theorem marks_eq (f : Fm) : f.marks = f.scopes.length + marksAll f.kids := by cases f; simp [Fm.marks, Fm.scopes, Fm.kids]
theorem markedAll_cons (f : Fm) (r : List Fm) (k : Int) : markedAll (f :: r) k = markedAt f k :: markedAll r (k + 3 + f.marks) := by
  cases f with
  | mk kd nm n sc ks => simp [markedAll, markedAt, Fm.marks, Fm.scopes, Fm.kids]; congr 1; omega
theorem marksAll_append (ks ls : List Fm) : marksAll (ks ++ ls) = marksAll ks + marksAll ls := by
  induction ks with
  | nil => simp [marksAll]
  | cons f r ih => simp only [List.cons_append, marksAll, ih]; omega
theorem marksAll_take_succ (ks : List Fm) (j : Nat) (h : j < ks.length) : marksAll (ks.take (j + 1)) = marksAll (ks.take j) + (3 + (ks[j]).marks) := by
  rw [List.take_succ_eq_append_getElem h, marksAll_append]
  simp [marksAll]
theorem marksAll_take_le (ks : List Fm) (j : Nat) : marksAll (ks.take j) ≤ marksAll ks := by
  have := marksAll_append (ks.take j) (ks.drop j)
  rw [List.take_append_drop] at this
  omega
theorem markedAll_append (ks ls : List Fm) (k : Int) : markedAll (ks ++ ls) k = markedAll ks k ++ markedAll ls (k + marksAll ks) := by
  induction ks generalizing k with
  | nil => simp [markedAll, marksAll]
  | cons f r ih =>
    rw [List.cons_append, markedAll_cons, ih, markedAll_cons, List.cons_append]
    congr 2
    congr 1
    simp only [marksAll]
    omega
theorem markedAll_take_succ (ks : List Fm) (k : Int) (j : Nat) (h : j < ks.length) : markedAll (ks.take (j + 1)) k = markedAll (ks.take j) k ++ [markedAt ks[j] (k + marksAll (ks.take j))] := by
  rw [List.take_succ_eq_append_getElem h, markedAll_append, markedAll_cons]
  simp [markedAll]
theorem markedAll_get (ks : List Fm) (k : Int) (j : Nat) (h : j < ks.length) : (markedAll ks k)[j]'(by rw [markedAll_length]; exact h) = markedAt ks[j] (k + marksAll (ks.take j)) := by
  induction ks generalizing k j with
  | nil => simp at h
  | cons f r ih =>
    have e := markedAll_cons f r k
    cases j with
    | zero => simp only [e, List.getElem_cons_zero, List.take_zero, marksAll]; congr 1; omega
    | succ j =>
      have := ih (k + 3 + f.marks) j (by simpa using h)
      simp only [e, List.getElem_cons_succ, this, List.take_succ_cons, marksAll]
      congr 1
      omega
mutual
theorem Fm.marks_le : ∀ f : Fm, f.marks ≤ 3 * f.sz
  | .mk _ _ _ sc ks => by have := marksAll_le ks; unfold Fm.marks Fm.sz; omega
theorem marksAll_le : ∀ ks : List Fm, marksAll ks ≤ 3 * szAll ks
  | [] => by simp [marksAll]
  | f :: r => by have := Fm.marks_le f; have := marksAll_le r; unfold marksAll szAll; omega
end
/-- of what was there only the blocks of the list may have turned -/
structure Only (bs : List Nat) (w w' : World) : Prop where
  os : w'.os = w.os
  tape : w'.tape = w.tape
  output : w'.output = w.output
  size : w.heap.size ≤ w'.heap.size
  block : ∀ k, k < w.heap.size → k ∉ bs → w'.heap[k]? = w.heap[k]?
theorem Only.refl (bs : List Nat) (w : World) : Only bs w w := ⟨rfl, rfl, rfl, Nat.le_refl _, fun _ _ _ => rfl⟩
theorem Only.trans {bs : List Nat} {u v w : World} (h : Only bs u v) (g : Only bs v w) : Only bs u w :=
  ⟨g.os.trans h.os, g.tape.trans h.tape, g.output.trans h.output, Nat.le_trans h.size g.size, fun k hk hn => (g.block k (Nat.lt_of_lt_of_le hk h.size) hn).trans (h.block k hk hn)⟩
theorem Only.mono {bs cs : List Nat} {u v : World} (h : Only bs u v) (hs : ∀ b ∈ bs, b ∈ cs) : Only cs u v :=
  ⟨h.os, h.tape, h.output, h.size, fun k hk hn => h.block k hk fun hb => hn (hs k hb)⟩
theorem Only.of_below {bs : List Nat} {w w' : World} (h : Below w.heap.size w w') : Only bs w w' :=
  ⟨h.os, h.tape, h.output, h.size, fun k hk _ => h.block k hk⟩
theorem Only.below {bs : List Nat} {B : Nat} {w w' : World} (h : Only bs w w') (hb : ∀ b ∈ bs, B ≤ b) (hs : B ≤ w.heap.size) : Below B w w' :=
  ⟨h.os, h.tape, h.output, h.size, fun k hk => h.block k (by omega) fun hm => by have := hb k hm; omega⟩
theorem Only.drewN {bs : List Nat} {u w : World} (h : Only bs u w) (n : Nat) : Only bs u (w.drewN n) := ⟨h.os, h.tape, h.output, h.size, h.block⟩
theorem Only.drew {bs : List Nat} {u w : World} (h : Only bs u w) : Only bs u w.drew := ⟨h.os, h.tape, h.output, h.size, h.block⟩
theorem Only.alloc {bs : List Nat} {u w : World} (h : Only bs u w) (o : Obj) : Only bs u (w.alloc o) :=
  h.trans (Only.of_below ((Below.refl _ _).alloc (Nat.le_refl _) _))
theorem Only.setCell {bs : List Nat} {u w : World} (h : Only bs u w) (b o : Nat) (v : Value) (hb : b ∈ bs) : Only bs u (w.setCell ⟨b, o, none⟩ v) :=
  h.trans ⟨rfl, rfl, rfl, by simp [World.setCell], fun k _ hn => Below.heap_setCell _ _ _ _ (fun e => hn (by rw [e]; exact hb))⟩
theorem Only.sameOn {bs cs : List Nat} {w w' : World} (h : Only bs w w') (hc : ∀ c ∈ cs, c < w.heap.size ∧ c ∉ bs) : SameOn cs w w' :=
  fun c hm => h.block c (hc c hm).1 (hc c hm).2
theorem Only.same {bs : List Nat} {φ : Nat → Prop} {w w' : World} (h : Only bs w w') (hφ : ∀ k, φ k → k < w.heap.size ∧ k ∉ bs) : Same φ w w' :=
  fun k hk => h.block k (hφ k hk).1 (hφ k hk).2
/-- a row that is two rows -/
theorem RowOwn.split {w : World} {b : Nat} : ∀ {ks ls : List Fm} {off : Nat} {bs : List Nat}, RowOwn w b off (ks ++ ls) bs →
    ∃ bs1 bs2, bs = bs1 ++ bs2 ∧ RowOwn w b off ks bs1 ∧ RowOwn w b (off + ks.length * 5) ls bs2
  | [], ls, off, bs, h => ⟨[], bs, rfl, by unfold RowOwn; rfl, by simpa using h⟩
  | f :: r, ls, off, bs, h => by
    rw [List.cons_append] at h
    unfold RowOwn at h
    obtain ⟨bs1, bs2, rfl, hf, hr⟩ := h
    obtain ⟨cs1, cs2, rfl, h1, h2⟩ := RowOwn.split hr
    refine ⟨bs1 ++ cs1, cs2, by simp, ?_, ?_⟩
    · unfold RowOwn
      exact ⟨bs1, cs1, rfl, hf, h1⟩
    · rw [show off + (f :: r).length * 5 = off + 5 + r.length * 5 from by simp only [List.length_cons]; omega]
      exact h2
theorem RowOwn.join {w : World} {b : Nat} : ∀ {ks ls : List Fm} {off : Nat} {bs cs : List Nat}, RowOwn w b off ks bs → RowOwn w b (off + ks.length * 5) ls cs → RowOwn w b off (ks ++ ls) (bs ++ cs)
  | [], ls, off, bs, cs, h, g => by
    unfold RowOwn at h
    subst h
    simpa using g
  | f :: r, ls, off, bs, cs, h, g => by
    unfold RowOwn at h
    obtain ⟨bs1, bs2, rfl, hf, hr⟩ := h
    rw [show off + (f :: r).length * 5 = off + 5 + r.length * 5 from by simp only [List.length_cons]; omega] at g
    rw [List.cons_append, List.append_assoc]
    unfold RowOwn
    exact ⟨bs1, bs2 ++ cs, rfl, hf, RowOwn.join hr g⟩
/-- what a value that reads as a form of its own looks like -/
theorem OwnV.form {w : World} {f : Fm} {v : Value} {bs : List Nat} (h : OwnV w f v bs) :
    ∃ sa scap a cap bs1 bs2, v = .agg #[.int .i64 f.kind, .string f.name, .int .i64 f.n, .slice sa f.scopes.length scap, .slice a f.kids.length cap] ∧
      (-9223372036854775808 ≤ f.kind ∧ f.kind ≤ 9223372036854775807) ∧ (-9223372036854775808 ≤ f.n ∧ f.n ≤ 9223372036854775807) ∧ f.name.size ≤ maxLen ∧
      IntOwn w (.slice sa f.scopes.length scap) f.scopes bs1 ∧ f.kids.length ≤ cap ∧ cap ≤ maxLen ∧ bs = bs1 ++ bs2 ∧
      ((f.kids = [] ∧ bs2 = []) ∨ ∃ b off bs3, a = some ⟨b, off, none⟩ ∧ bs2 = b :: bs3 ∧ RowOwn w b off f.kids bs3) := by
  cases f with
  | mk k nm n sc ks =>
    unfold OwnV at h
    obtain ⟨vs, a, cap, bs1, bs2, rfl, hk, hn, hnm, hvs, h1, h2, rfl, h3⟩ := h
    have hvs' := hvs
    obtain ⟨sa, scap, rfl, _⟩ := hvs'
    exact ⟨sa, scap, a, cap, bs1, bs2, rfl, hk, hn, hnm, hvs, h1, h2, rfl, h3⟩
/-- the first element of a row -/
theorem RowOwn.head {w : World} {b off : Nat} {f : Fm} {r : List Fm} {bs : List Nat} (h : RowOwn w b off (f :: r) bs) :
    ∃ sa scap a cap bs1 bs2, bs = bs1 ++ bs2 ∧ w.cell? ⟨b, off, none⟩ = some (.int .i64 f.kind) ∧ w.cell? ⟨b, off + 1, none⟩ = some (.string f.name) ∧ w.cell? ⟨b, off + 2, none⟩ = some (.int .i64 f.n) ∧
      w.cell? ⟨b, off + 3, none⟩ = some (.slice sa f.scopes.length scap) ∧ w.cell? ⟨b, off + 4, none⟩ = some (.slice a f.kids.length cap) ∧ (∀ j, j < 5 → w.frozen? ⟨b, off + j, none⟩ = false) ∧
      OwnV w f (.agg #[.int .i64 f.kind, .string f.name, .int .i64 f.n, .slice sa f.scopes.length scap, .slice a f.kids.length cap]) bs1 ∧ RowOwn w b (off + 5) r bs2 := by
  unfold RowOwn at h
  obtain ⟨bs1, bs2, rfl, ⟨c0, c1, c2, c3, c4, h0, h1, h2, h3, h4, hf, h5⟩, h6⟩ := h
  obtain ⟨sa, scap, a, cap, _, _, e, _⟩ := h5.form
  injection e with e
  injection e with e
  simp only [List.cons.injEq, and_true] at e
  obtain ⟨rfl, rfl, rfl, rfl, rfl⟩ := e
  exact ⟨sa, scap, a, cap, bs1, bs2, rfl, h0, h1, h2, h3, h4, hf, h5, h6⟩
/-- the forms of a list, in blocks of their own -/
def KidsOwn (w : World) (a : Option Addr) (cap : Nat) (ks : List Fm) (bs : List Nat) : Prop :=
  ks.length ≤ cap ∧ cap ≤ maxLen ∧ ((ks = [] ∧ bs = []) ∨ ∃ b off bs3, a = some ⟨b, off, none⟩ ∧ bs = b :: bs3 ∧ RowOwn w b off ks bs3)
theorem KidsOwn.later {w w' : World} {a : Option Addr} {cap : Nat} {ks : List Fm} {bs : List Nat} (hs : SameOn bs w w') (h : KidsOwn w a cap ks bs) : KidsOwn w' a cap ks bs := by
  obtain ⟨h1, h2, h3⟩ := h
  refine ⟨h1, h2, ?_⟩
  rcases h3 with h3 | ⟨b, off, bs3, h3, rfl, h4⟩
  · exact .inl h3
  · exact .inr ⟨b, off, bs3, h3, rfl, RowOwn.later b off ks bs3 hs h4⟩
theorem OwnV.kids {w : World} {f : Fm} {v : Value} {bs : List Nat} (h : OwnV w f v bs) :
    ∃ sa scap a cap bs1 bs2, v = .agg #[.int .i64 f.kind, .string f.name, .int .i64 f.n, .slice sa f.scopes.length scap, .slice a f.kids.length cap] ∧
      (-9223372036854775808 ≤ f.kind ∧ f.kind ≤ 9223372036854775807) ∧ (-9223372036854775808 ≤ f.n ∧ f.n ≤ 9223372036854775807) ∧ f.name.size ≤ maxLen ∧
      IntOwn w (.slice sa f.scopes.length scap) f.scopes bs1 ∧ KidsOwn w a cap f.kids bs2 ∧ bs = bs1 ++ bs2 := by
  obtain ⟨sa, scap, a, cap, bs1, bs2, h1, h2, h3, h4, h5, h6, h7, h8, h9⟩ := h.form
  exact ⟨sa, scap, a, cap, bs1, bs2, h1, h2, h3, h4, h5, ⟨h6, h7, h9⟩, h8⟩
theorem OwnV.mk {w : World} {f : Fm} {sa a : Option Addr} {scap cap : Nat} {bs1 bs2 : List Nat}
    (hk : -9223372036854775808 ≤ f.kind ∧ f.kind ≤ 9223372036854775807) (hn : -9223372036854775808 ≤ f.n ∧ f.n ≤ 9223372036854775807) (hnm : f.name.size ≤ maxLen)
    (hs : IntOwn w (.slice sa f.scopes.length scap) f.scopes bs1) (hks : KidsOwn w a cap f.kids bs2) :
    OwnV w f (.agg #[.int .i64 f.kind, .string f.name, .int .i64 f.n, .slice sa f.scopes.length scap, .slice a f.kids.length cap]) (bs1 ++ bs2) := by
  cases f with
  | mk k nm n sc ks =>
    unfold OwnV
    exact ⟨_, a, cap, bs1, bs2, rfl, hk, hn, hnm, hs, hks.1, hks.2.1, rfl, hks.2.2⟩
/-- a row of forms, its first j marked -/
structure MarkMid (w wr : World) (b off : Nat) (ks : List Fm) (k : Int) (j : Nat) (bs : List Nat) : Prop where
  only : Only (b :: bs) w wr
  rows : ∃ bs1 bs2, bs = bs1 ++ bs2 ∧ RowOwn wr b off (markedAll (ks.take j) k) bs1 ∧ RowOwn wr b (off + j * 5) (ks.drop j) bs2
theorem MarkMid.start {w : World} {b off : Nat} {ks : List Fm} {k : Int} {bs : List Nat} (h : RowOwn w b off ks bs) : MarkMid w w b off ks k 0 bs :=
  ⟨Only.refl _ _, [], bs, rfl, by simp [markedAll, RowOwn], by simpa using h⟩
theorem MarkMid.ends {w wr : World} {b off : Nat} {ks : List Fm} {k : Int} {bs : List Nat} (h : MarkMid w wr b off ks k ks.length bs) : RowOwn wr b off (markedAll ks k) bs := by
  obtain ⟨bs1, bs2, rfl, h1, h2⟩ := h.rows
  rw [List.take_length] at h1
  rw [List.drop_length] at h2
  unfold RowOwn at h2
  rw [h2, List.append_nil]
  exact h1
theorem MarkMid.step {w wr : World} {b off : Nat} {ks : List Fm} {k : Int} {j : Nat} {bs : List Nat} (h : MarkMid w wr b off ks k j bs) (hj : j < ks.length) (hnd : (b :: bs).Nodup)
    (hlt : ∀ c ∈ b :: bs, c < w.heap.size) (hk : 1 ≤ k) (hk2 : k + marksAll ks ≤ 1099511627776) :
    ∃ sa scap a cap bsc bsk,
      wr.cell? ⟨b, off + j * 5, none⟩ = some (.int .i64 ks[j].kind) ∧ wr.cell? ⟨b, off + j * 5 + 1, none⟩ = some (.string ks[j].name) ∧ wr.cell? ⟨b, off + j * 5 + 2, none⟩ = some (.int .i64 ks[j].n) ∧
      wr.cell? ⟨b, off + j * 5 + 3, none⟩ = some (.slice sa ks[j].scopes.length scap) ∧ wr.cell? ⟨b, off + j * 5 + 4, none⟩ = some (.slice a ks[j].kids.length cap) ∧
      (∀ i, i < 5 → wr.frozen? ⟨b, off + j * 5 + i, none⟩ = false) ∧ b < wr.heap.size ∧ b ∉ bsc ∧ b ∉ bsk ∧ (∀ c ∈ bsc, c < wr.heap.size) ∧ (∀ c ∈ bsk, c < wr.heap.size) ∧ bsk.Nodup ∧
      ∀ (t : ByteArray) (W2 : World), Below wr.heap.size (wr.setCell ⟨b, off + j * 5, none⟩ (.int .i64 (k + marksAll (ks.take j)))) W2 →
        IntOwn ((W2.setCell ⟨b, off + j * 5 + 1, none⟩ (.string t)).setCell ⟨b, off + j * 5 + 2, none⟩ (.int .i64 (k + marksAll (ks.take j) + 1 + 1))) (.slice sa ks[j].scopes.length scap) ks[j].scopes bsc ∧
        ∀ W4, Only bsc ((W2.setCell ⟨b, off + j * 5 + 1, none⟩ (.string t)).setCell ⟨b, off + j * 5 + 2, none⟩ (.int .i64 (k + marksAll (ks.take j) + 1 + 1))) W4 →
          IntOwn W4 (.slice sa ks[j].scopes.length scap) (ramp (k + marksAll (ks.take j) + 1 + 1 + 1) ks[j].scopes.length) bsc →
          KidsOwn W4 a cap ks[j].kids bsk ∧ W4.cell? ⟨b, off + j * 5 + 4, none⟩ = some (.slice a ks[j].kids.length cap) ∧ (∀ c ∈ bsk, c < W4.heap.size) ∧
          (t = mtext (k + marksAll (ks.take j) + 1) → ∀ W5, Only bsk W4 W5 → KidsOwn W5 a cap (markedAll ks[j].kids (k + marksAll (ks.take j) + 1 + 1 + 1 + ks[j].scopes.length)) bsk → MarkMid w W5 b off ks k (j + 1) bs) := by
  obtain ⟨hO, bs1, bs2, rfl, h1, h2⟩ := h
  rw [List.drop_eq_getElem_cons hj] at h2
  obtain ⟨sa, scap, a, cap, cs1, cs2, rfl, c0, c1, c2, c3, c4, hf, hown, hrest⟩ := h2.head
  obtain ⟨sa', scap', a', cap', bsc, bsk, e, hkd, hn, hnm, hsc, hkids, rfl⟩ := hown.kids
  injection e with e
  injection e with e
  simp only [List.cons.injEq, and_true, Value.slice.injEq, true_and] at e
  obtain ⟨⟨rfl, rfl⟩, rfl, rfl⟩ := e
  have hndc := List.nodup_cons.1 hnd
  have hb : b ∉ bs1 ∧ b ∉ bsc ∧ b ∉ bsk ∧ b ∉ cs2 := by
    have := hndc.1
    simp only [List.mem_append, not_or] at this
    exact ⟨this.1, this.2.1.1, this.2.1.2, this.2.2⟩
  obtain ⟨nd1, nd2, nd3⟩ := List.nodup_append.1 hndc.2
  obtain ⟨nd4, nd5, nd6⟩ := List.nodup_append.1 nd2
  obtain ⟨nd7, nd8, nd9⟩ := List.nodup_append.1 nd4
  have hsz : ∀ c, c ∈ b :: (bs1 ++ (bsc ++ bsk ++ cs2)) → c < wr.heap.size := fun c hc => Nat.lt_of_lt_of_le (hlt c hc) hO.size
  have mc : ∀ c ∈ bsc, c ∈ b :: (bs1 ++ (bsc ++ bsk ++ cs2)) := fun c hc => by simp [hc]
  have mk : ∀ c ∈ bsk, c ∈ b :: (bs1 ++ (bsc ++ bsk ++ cs2)) := fun c hc => by simp [hc]
  have m1 : ∀ c ∈ bs1, c ∈ b :: (bs1 ++ (bsc ++ bsk ++ cs2)) := fun c hc => by simp [hc]
  have m2 : ∀ c ∈ cs2, c ∈ b :: (bs1 ++ (bsc ++ bsk ++ cs2)) := fun c hc => by simp [hc]
  refine ⟨sa, scap, a, cap, bsc, bsk, c0, c1, c2, c3, c4, hf, hsz b (by simp), hb.2.1, hb.2.2.1, fun c hc => hsz c (mc c hc), fun c hc => hsz c (mk c hc), nd8, ?_⟩
  intro t W2 hW2
  have hW1s : (wr.setCell ⟨b, off + j * 5, none⟩ (.int .i64 (k + marksAll (ks.take j)))).heap.size = wr.heap.size := by simp [World.setCell]
  have s3 : ∀ c, c < wr.heap.size → c ≠ b → ((W2.setCell ⟨b, off + j * 5 + 1, none⟩ (.string t)).setCell ⟨b, off + j * 5 + 2, none⟩ (.int .i64 (k + marksAll (ks.take j) + 1 + 1))).heap[c]? = wr.heap[c]? := fun c hc hn => by
    rw [Below.heap_setCell _ _ _ _ hn, Below.heap_setCell _ _ _ _ hn, hW2.block c hc, Below.heap_setCell _ _ _ _ hn]
  have hsz3 : wr.heap.size ≤ ((W2.setCell ⟨b, off + j * 5 + 1, none⟩ (.string t)).setCell ⟨b, off + j * 5 + 2, none⟩ (.int .i64 (k + marksAll (ks.take j) + 1 + 1))).heap.size := by
    have := hW2.size
    rw [hW1s] at this
    simpa [World.setCell] using this
  have hbz := hsz b (by simp)
  refine ⟨hsc.later fun c hc => s3 c (hsz c (mc c hc)) (fun e => hb.2.1 (e ▸ hc)), ?_⟩
  intro W4 hO4 hI4
  -- the cells of the row itself
  have g2c : ∀ i, W2.cell? ⟨b, i, none⟩ = (wr.setCell ⟨b, off + j * 5, none⟩ (.int .i64 (k + marksAll (ks.take j)))).cell? ⟨b, i, none⟩ := fun i => hW2.cell (p := ⟨b, i, none⟩) hbz
  have g2f : ∀ i, W2.frozen? ⟨b, i, none⟩ = (wr.setCell ⟨b, off + j * 5, none⟩ (.int .i64 (k + marksAll (ks.take j)))).frozen? ⟨b, i, none⟩ := fun i => hW2.frozen (p := ⟨b, i, none⟩) hbz
  have s4 : ∀ c, c < wr.heap.size → c ≠ b → c ∉ bsc → W4.heap[c]? = wr.heap[c]? := fun c hc hn hm => by
    rw [hO4.block c (by omega) hm, s3 c hc hn]
  have g4b := hO4.block b (Nat.lt_of_lt_of_le hbz hsz3) hb.2.1
  have hsz4 := hO4.size
  have out4 : ∀ i, (i < off + j * 5 ∨ off + j * 5 + 3 ≤ i) → W4.cell? ⟨b, i, none⟩ = wr.cell? ⟨b, i, none⟩ := fun i hi => by
    rw [World.cell?_of_block (a := ⟨b, i, none⟩) g4b, World.cell?_setCell_other _ _ _ _ (addr_ne (by omega)), World.cell?_setCell_other _ _ _ _ (addr_ne (by omega)), g2c, World.cell?_setCell_other _ _ _ _ (addr_ne (by omega))]
  have fr4 : ∀ i, W4.frozen? ⟨b, i, none⟩ = wr.frozen? ⟨b, i, none⟩ := fun i => by
    rw [World.frozen?_of_block (a := ⟨b, i, none⟩) g4b, World.frozen?_setCell, World.frozen?_setCell, g2f, World.frozen?_setCell]
  have in0 : W4.cell? ⟨b, off + j * 5, none⟩ = some (.int .i64 (k + marksAll (ks.take j))) := by
    rw [World.cell?_of_block (a := ⟨b, off + j * 5, none⟩) g4b, World.cell?_setCell_other _ _ _ _ (addr_ne (by omega)), World.cell?_setCell_other _ _ _ _ (addr_ne (by omega)), g2c, World.cell?_setCell_same _ _ _ c0]
  have in1 : W4.cell? ⟨b, off + j * 5 + 1, none⟩ = some (.string t) := by
    rw [World.cell?_of_block (a := ⟨b, off + j * 5 + 1, none⟩) g4b, World.cell?_setCell_other _ _ _ _ (addr_ne (by omega))]
    exact World.cell?_setCell_same _ _ _ (u := .string ks[j].name) (by rw [g2c, World.cell?_setCell_other _ _ _ _ (addr_ne (by omega))]; exact c1)
  have in2 : W4.cell? ⟨b, off + j * 5 + 2, none⟩ = some (.int .i64 (k + marksAll (ks.take j) + 1 + 1)) := by
    rw [World.cell?_of_block (a := ⟨b, off + j * 5 + 2, none⟩) g4b]
    exact World.cell?_setCell_same _ _ _ (u := .int .i64 ks[j].n) (by rw [World.cell?_setCell_other _ _ _ _ (addr_ne (by omega)), g2c, World.cell?_setCell_other _ _ _ _ (addr_ne (by omega))]; exact c2)
  have in4 := (out4 (off + j * 5 + 4) (by omega)).trans c4
  refine ⟨hkids.later fun c hc => s4 c (hsz c (mk c hc)) (fun e => hb.2.2.1 (e ▸ hc)) (fun hm => nd9 c hm c hc rfl), in4, fun c hc => by have := hsz c (mk c hc); omega, ?_⟩
  intro ht W5 hO5 hK5
  have s5 : ∀ c, c < wr.heap.size → c ≠ b → c ∉ bsc → c ∉ bsk → W5.heap[c]? = wr.heap[c]? := fun c hc hn hm hm2 => by
    rw [hO5.block c (by omega) hm2, s4 c hc hn hm]
  have g5b := hO5.block b (by omega) hb.2.2.1
  have c5 : ∀ i, W5.cell? ⟨b, i, none⟩ = W4.cell? ⟨b, i, none⟩ := fun i => World.cell?_of_block (a := ⟨b, i, none⟩) g5b
  have f5 : ∀ i, W5.frozen? ⟨b, i, none⟩ = wr.frozen? ⟨b, i, none⟩ := fun i => (World.frozen?_of_block (a := ⟨b, i, none⟩) g5b).trans (fr4 i)
  have hlen : (markedAll (ks.take j) k).length = j := by rw [markedAll_length, List.length_take]; omega
  have hmt := marksAll_take_succ ks j hj
  have hml := marksAll_take_le ks (j + 1)
  have hme := marks_eq ks[j]
  refine ⟨?_, bs1 ++ (bsc ++ bsk), cs2, by simp, ?_, ?_⟩
  · refine hO.trans ?_
    have o1 : Only (b :: (bs1 ++ (bsc ++ bsk ++ cs2))) wr ((W2.setCell ⟨b, off + j * 5 + 1, none⟩ (.string t)).setCell ⟨b, off + j * 5 + 2, none⟩ (.int .i64 (k + marksAll (ks.take j) + 1 + 1))) :=
      ((((Only.refl _ wr).setCell b (off + j * 5) _ (by simp)).trans (Only.of_below (by rw [hW1s]; exact hW2))).setCell b _ _ (by simp)).setCell b _ _ (by simp)
    exact (o1.trans (hO4.mono mc)).trans (hO5.mono mk)
  · rw [markedAll_take_succ ks k j hj]
    refine RowOwn.snoc (c0 := .int .i64 (k + marksAll (ks.take j))) (c1 := .string t) (c2 := .int .i64 (k + marksAll (ks.take j) + 1 + 1)) (c3 := .slice sa ks[j].scopes.length scap) (c4 := .slice a ks[j].kids.length cap)
      (RowOwn.upto (w := wr) (fun c hc => s5 c (hsz c (m1 c hc)) (fun e => hb.1 (e ▸ hc)) (fun hm => nd3 c hc c (by simp [hm]) rfl) (fun hm => nd3 c hc c (by simp [hm]) rfl))
        (fun i h1 h2 => ⟨by rw [c5, out4 i (by rw [hlen] at h2; omega)], f5 i⟩) h1) ?_ ?_ ?_ ?_ ?_ ?_ ?_
    · rw [hlen, c5]; exact in0
    · rw [hlen, c5]; exact in1
    · rw [hlen, c5]; exact in2
    · rw [hlen, c5, out4 _ (by omega)]; exact c3
    · rw [hlen, c5, out4 _ (by omega)]; exact c4
    · intro i hi; rw [hlen, f5]; exact hf i hi
    · have e1 : (ramp (k + marksAll (ks.take j) + 1 + 1 + 1) ks[j].scopes.length).length = ks[j].scopes.length := ramp_length _ _
      have e2 : (markedAll ks[j].kids (k + marksAll (ks.take j) + 1 + 1 + 1 + ks[j].scopes.length)).length = ks[j].kids.length := markedAll_length _ _
      have k0 : Fm.kind (markedAt ks[j] (k + marksAll (ks.take j))) = k + marksAll (ks.take j) := rfl
      have k2 : Fm.n (markedAt ks[j] (k + marksAll (ks.take j))) = k + marksAll (ks.take j) + 1 + 1 := rfl
      have := OwnV.mk (w := W5) (f := markedAt ks[j] (k + marksAll (ks.take j))) (sa := sa) (a := a) (scap := scap) (cap := cap) (bs1 := bsc) (bs2 := bsk)
        (by rw [k0]; omega) (by rw [k2]; omega) (by show (mtext _).size ≤ maxLen; have := mtext_size (k + marksAll (ks.take j) + 1); unfold maxLen; omega)
        (by show IntOwn W5 (.slice sa (ramp (k + marksAll (ks.take j) + 1 + 1 + 1) ks[j].scopes.length).length scap) _ _
            rw [e1]
            exact hI4.later fun c hc => hO5.block c (by have := hsz c (mc c hc); omega) (fun hm => nd9 c hc c hm rfl))
        hK5
      have e3 : Fm.scopes (markedAt ks[j] (k + marksAll (ks.take j))) = ramp (k + marksAll (ks.take j) + 1 + 1 + 1) ks[j].scopes.length := rfl
      have e4 : Fm.kids (markedAt ks[j] (k + marksAll (ks.take j))) = markedAll ks[j].kids (k + marksAll (ks.take j) + 1 + 1 + 1 + ks[j].scopes.length) := rfl
      rw [e3, e4, e1, e2] at this
      rw [ht]
      exact this
  · rw [show off + (j + 1) * 5 = off + j * 5 + 5 from by omega]
    exact RowOwn.upto (w := wr) (fun c hc => s5 c (hsz c (m2 c hc)) (fun e => hb.2.2.2 (e ▸ hc)) (fun hm => nd6 c (by simp [hm]) c hc rfl) (fun hm => nd6 c (by simp [hm]) c hc rfl))
      (fun i h1 h2 => ⟨by rw [c5, out4 i (by omega)], f5 i⟩) hrest
/-- a row that reads as marked: one element -/
theorem RowIn.markedCells {φ : Nat → Prop} {w : World} {b off : Nat} {ks : List Fm} {k : Int} (h : RowIn φ w b off (markedAll ks k)) (j : Nat) (hj : j < ks.length) :
    ∃ sa scap a cap, w.cell? ⟨b, off + j * 5, none⟩ = some (.int .i64 (k + marksAll (ks.take j))) ∧ w.cell? ⟨b, off + j * 5 + 1, none⟩ = some (.string (mtext (k + marksAll (ks.take j) + 1))) ∧
      w.cell? ⟨b, off + j * 5 + 2, none⟩ = some (.int .i64 (k + marksAll (ks.take j) + 1 + 1)) ∧ w.cell? ⟨b, off + j * 5 + 3, none⟩ = some (.slice sa ks[j].scopes.length scap) ∧
      w.cell? ⟨b, off + j * 5 + 4, none⟩ = some (.slice a ks[j].kids.length cap) ∧ IntRow φ w (.slice sa ks[j].scopes.length scap) (ramp (k + marksAll (ks.take j) + 1 + 1 + 1) ks[j].scopes.length) ∧
      ks[j].kids.length ≤ cap ∧ cap ≤ maxLen ∧ (markedAll ks[j].kids (k + marksAll (ks.take j) + 1 + 1 + 1 + ks[j].scopes.length) = [] ∨
        ∃ kb koff, a = some ⟨kb, koff, none⟩ ∧ φ kb ∧ RowIn φ w kb koff (markedAll ks[j].kids (k + marksAll (ks.take j) + 1 + 1 + 1 + ks[j].scopes.length))) := by
  obtain ⟨sa, scap, a, cap, c0, c1, c2, c3, c4, hin⟩ := h.at' j (by rw [markedAll_length]; exact hj)
  rw [markedAll_get ks k j hj] at c0 c1 c2 c3 c4 hin
  have e1 : (Fm.scopes (markedAt ks[j] (k + marksAll (ks.take j)))).length = ks[j].scopes.length := ramp_length _ _
  have e2 : (Fm.kids (markedAt ks[j] (k + marksAll (ks.take j)))).length = ks[j].kids.length := markedAll_length _ _
  rw [e1] at c3 hin
  rw [e2] at c4 hin
  unfold markedAt InV at hin
  obtain ⟨vs, a', cap', e, _, _, _, hsc, hl, hm, hks⟩ := hin
  injection e with e
  injection e with e
  simp only [List.cons.injEq, and_true, Value.slice.injEq] at e
  obtain ⟨_, _, _, rfl, rfl, _, rfl⟩ := e
  rw [markedAll_length] at hl
  exact ⟨sa, scap, a, cap, c0, c1, c2, c3, c4, hsc, hl, hm, hks⟩
theorem OwnV.markedMk {w : World} {f : Fm} {k : Int} {sa a : Option Addr} {scap cap : Nat} {bs1 bs2 : List Nat}
    (hk : -9223372036854775808 ≤ f.kind ∧ f.kind ≤ 9223372036854775807) (hn : -9223372036854775808 ≤ f.n ∧ f.n ≤ 9223372036854775807) (hnm : f.name.size ≤ maxLen)
    (hs : IntOwn w (.slice sa f.scopes.length scap) (ramp k f.scopes.length) bs1) (hks : KidsOwn w a cap (markedAll f.kids (k + f.scopes.length)) bs2) :
    OwnV w (f.marked k) (.agg #[.int .i64 f.kind, .string f.name, .int .i64 f.n, .slice sa f.scopes.length scap, .slice a f.kids.length cap]) (bs1 ++ bs2) := by
  cases f with
  | mk kd nm n sc ks =>
    have e2 : (markedAll ks (k + sc.length)).length = ks.length := markedAll_length _ _
    simp only [Fm.kind, Fm.name, Fm.n, Fm.scopes, Fm.kids] at *
    unfold Fm.marked OwnV
    exact ⟨_, a, cap, bs1, bs2, by rw [e2], hk, hn, hnm, hs, hks.1, hks.2.1, rfl, hks.2.2⟩
/-- the marks of a form, read -/
theorem InV.markedParts {φ : Nat → Prop} {w : World} {f : Fm} {k : Int} {v : Value} (h : InV φ w (f.marked k) v) :
    ∃ sa scap a cap, v = .agg #[.int .i64 f.kind, .string f.name, .int .i64 f.n, .slice sa f.scopes.length scap, .slice a f.kids.length cap] ∧
      IntRow φ w (.slice sa f.scopes.length scap) (ramp k f.scopes.length) ∧ f.kids.length ≤ cap ∧ cap ≤ maxLen ∧
      (markedAll f.kids (k + f.scopes.length) = [] ∨ ∃ kb koff, a = some ⟨kb, koff, none⟩ ∧ φ kb ∧ RowIn φ w kb koff (markedAll f.kids (k + f.scopes.length))) := by
  cases f with
  | mk kd nm n sc ks =>
    unfold Fm.marked InV at h
    obtain ⟨vs, a, cap, rfl, _, _, _, hsc, hl, hm, hks⟩ := h
    have hsc' := hsc
    obtain ⟨sa, scap, rfl, _⟩ := hsc'
    rw [markedAll_length] at hl
    rw [ramp_length] at hsc
    exact ⟨sa, scap, a, cap, by rw [ramp_length, markedAll_length]; rfl, hsc, hl, hm, hks⟩
end Go.Proofs.Ytaihblfabaijoaa
