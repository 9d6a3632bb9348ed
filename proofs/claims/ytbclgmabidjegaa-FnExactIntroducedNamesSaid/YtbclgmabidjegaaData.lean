/- The first texts of this seat: letters and names, forms as data, sets of scopes, validity, small walks. -/
import Derived.Test.YtbclgmabidjegaaFirst
import Derived.OrdersHeld
import Derived.Deep.RegionHeld
import Derived.Laws.OwnMore
import Derived.Test.YtbclgmabidjegaaChecked
import Derived.Deep.QuietTactic
import Derived.BigQuiet
import Derived.StillTailTactics
import Derived.Deep.AppendLies
import Derived.Lib.SlicesCompact
import Derived.Lib.OwnBridge
import Derived.Sort.Grow
import Derived.Laws.CopyOwn
import Derived.Laws.MakeOwn
namespace Go.Proofs.Ytbclgmabidjegaa
section
open Go.RowKit
set_option linter.unusedVariables false
set_option linter.unusedSimpArgs false
/-- bytes that came in -/
def ByteRow (φ : Nat → Prop) (w : World) (a : Option Addr) (n : Nat) : Prop :=
  n = 0 ∨ ∃ c off, a = some ⟨c, off, none⟩ ∧ φ c ∧ ∀ i, i < n → ∃ x : Int, 0 ≤ x ∧ x < 256 ∧ w.cell? ⟨c, off + i, none⟩ = some (.int .u8 x)
theorem ByteRow.later {φ ψ : Nat → Prop} {w w' : World} {a : Option Addr} {n : Nat} (hs : Same φ w w') (hm : ∀ k, φ k → ψ k) (h : ByteRow φ w a n) : ByteRow ψ w' a n := by
  rcases h with h | ⟨c, off, e, hc, hr⟩
  · exact .inl h
  · exact .inr ⟨c, off, e, hm c hc, fun i hi => by rw [hs.cell hc]; exact hr i hi⟩
theorem ByteRow.less {φ : Nat → Prop} {w : World} {a : Option Addr} {n m : Nat} (h : ByteRow φ w a n) (hm : m ≤ n) : ByteRow φ w a m := by
  rcases h with h | ⟨c, off, e, hc, hr⟩
  · exact .inl (by omega)
  · exact .inr ⟨c, off, e, hc, fun i hi => hr i (by omega)⟩
/-- the source: its bytes, which lie below 'B', and how many have been drawn -/
def Rd (B : Nat) (w : World) (b : Nat) (p : Nat) : Prop :=
  B ≤ b ∧ ∃ a n cap, w.cell? ⟨b, 0, none⟩ = some (.slice a n cap) ∧ w.cell? ⟨b, 1, none⟩ = some (.int .i64 p) ∧ w.frozen? ⟨b, 1, none⟩ = false ∧ n ≤ 2000 ∧ ByteRow (· < B) w a n
theorem Rd.lt {B : Nat} {w : World} {b p : Nat} (h : Rd B w b p) : b < w.heap.size := by
  obtain ⟨_, a, n, cap, h0, _⟩ := h
  exact cell_lt h0
theorem Rd.same {B : Nat} {w w' : World} {b p : Nat} (h : Rd B w b p) (hs : ∀ k, k < B ∨ k = b → w'.heap[k]? = w.heap[k]?) : Rd B w' b p := by
  obtain ⟨hB, a, n, cap, h0, h1, h2, h3, h4⟩ := h
  have e := hs b (.inr rfl)
  exact ⟨hB, a, n, cap, (World.cell?_of_block (a := ⟨b, 0, none⟩) e).trans h0, (World.cell?_of_block (a := ⟨b, 1, none⟩) e).trans h1, (World.frozen?_of_block (a := ⟨b, 1, none⟩) e).trans h2, h3, h4.later (fun k hk => hs k (.inl hk)) fun k hk => hk⟩
theorem Rd.later {B : Nat} {w w' : World} {b p : Nat} (h : Rd B w b p) (hb : Below w.heap.size w w') : Rd B w' b p :=
  h.same fun k hk => hb.block k (by have h1 := h.lt; have h2 := h.1; omega)
theorem Rd.drew {B : Nat} {w : World} {b p : Nat} (h : Rd B w b p) : Rd B w.drew b p := h
theorem Rd.set {B : Nat} {w : World} {b p : Nat} (h : Rd B w b p) (q : Nat) : Rd B (w.setCell ⟨b, 1, none⟩ (.int .i64 q)) b q := by
  obtain ⟨hB, a, n, cap, h0, h1, h2, h3, h4⟩ := h
  refine ⟨hB, a, n, cap, ?_, ?_, ?_, h3, h4.later (fun k hk => ?_) fun k hk => hk⟩
  · rw [World.cell?_setCell_other _ _ _ _ (by intro e; injection e with _ e2; omega)]; exact h0
  · exact World.cell?_setCell_same _ _ _ h1
  · rw [World.frozen?_setCell]; exact h2
  · exact Below.heap_setCell _ _ _ _ (show k ≠ b by omega)
/-- a cell of a new block is written -/
theorem Rd.setOther {B : Nat} {w : World} {b p c o : Nat} {v : Value} (h : Rd B w b p) (h1 : B ≤ c) (h2 : c ≠ b) : Rd B (w.setCell ⟨c, o, none⟩ v) b p :=
  h.same fun k hk => Below.heap_setCell _ _ _ _ (show k ≠ c by rcases hk with hk | hk <;> omega)
theorem Kept.setNew {b lo hi c o : Nat} {u w : World} {v : Value} (h : Kept b lo hi u w) (hb : b < u.heap.size) (hc : u.heap.size ≤ c) : Kept b lo hi u (w.setCell ⟨c, o, none⟩ v) :=
  ⟨h.os, h.tape, h.output, by have := h.size; simpa [World.setCell] using this, fun k hk hn => (Below.heap_setCell _ _ _ _ (show k ≠ c by omega)).trans (h.block k hk hn),
    fun o' ho => (World.cell?_of_block (a := ⟨b, o', none⟩) (Below.heap_setCell _ _ _ _ (show b ≠ c by omega))).trans (h.cell o' ho), fun o' => (World.frozen?_of_block (a := ⟨b, o', none⟩) (Below.heap_setCell _ _ _ _ (show b ≠ c by omega))).trans (h.frozen o')⟩
theorem Kept.later {b lo hi : Nat} {u w w' : World} (h : Kept b lo hi u w) (hb : Below w.heap.size w w') (hl : b < u.heap.size) : Kept b lo hi u w' :=
  h.trans (Kept.of_below hb (Nat.lt_of_lt_of_le hl h.size))
/-- the same, from a base below -/
theorem Kept.base {b lo hi : Nat} {u v w : World} (h : Kept b lo hi v w) (hb : Below u.heap.size u v) (hl : b < u.heap.size) : Kept b lo hi u w :=
  (Kept.of_below hb hl).trans h
/-- what a draw leaves -/
def Drew (B b p : Nat) (K : Nat) (w w' : World) : Prop := (∃ p', p ≤ p' ∧ p' ≤ p + K ∧ Rd B w' b p') ∧ Kept b 1 2 w w'
theorem Kept.same {b : Nat} {w w' : World} (h : Kept b 1 2 w w') : Same (fun k => k < w.heap.size ∧ k ≠ b) w w' := fun k hk => h.block k hk.1 hk.2
end
end Go.Proofs.Ytbclgmabidjegaa
namespace Go.Proofs.Ytbclgmabidjegaa
section
section
variable {P : Program} {ops : Array Oper} {Q : Exit → Act → World → Prop} {md : Region.Mode} {S : World → Prop} {L : Nat}
/-- whatever order is picked, 'S' holds behind every operation but number 'L' -/
def anyUpto (P : Program) (md : Region.Mode) (ops : Array Oper) (Q : Exit → Act → World → Prop) (S : World → Prop) (L : Nat) : Nat → Array Bool → Act → World → Prop
  | 0, listed, a, w => Region.ready md ops listed = [] ∧ Q .normal a w
  | fuel + 1, listed, a, w =>
    (Region.ready md ops listed = [] → Q .normal a w) ∧
    ∀ i ∈ Region.ready md ops listed, wpOp P ops Q i (fun a' w' => (i = L ∨ S w') ∧ anyUpto P md ops Q S L fuel (listed.setIfInBounds i true) a' w') a w
theorem any_of_upto : ∀ (fuel : Nat) (listed : Array Bool) (a : Act) (w : World), anyUpto P md ops Q S L fuel listed a w → wpAny P md ops Q fuel listed a w
  | 0, _, _, _, h => h
  | fuel + 1, _, _, _, h => ⟨h.1, fun i hi => wpOp_mono (fun a' w' h' => any_of_upto fuel _ a' w' h'.2) (h.2 i hi)⟩
/-- number L waits for number i -/
def waitsB (md : Region.Mode) (ops : Array Oper) (L i : Nat) : Bool :=
  match ops[L]? with
  | some o => o.after.any fun e => Region.binds md e && e.on == i
  | none => false
theorem waits_spec {i : Nat} {o : Oper} (ho : ops[L]? = some o) (h : waitsB md ops L i = true) : ∃ e ∈ o.after, Region.binds md e = true ∧ e.on = i := by
  unfold waitsB at h
  rw [ho] at h
  obtain ⟨e, he, hb⟩ := Array.any_eq_true'.1 h
  simp only [Bool.and_eq_true, beq_iff_eq] at hb
  exact ⟨e, he, hb.1, hb.2⟩
theorem upto_first {i : Nat} {oi : Oper} {v : Value} (hi : ops[i]? = some oi) (hsel : ∀ (j : Nat) (o : Oper) cs b, ops[j]? = some o → o.op ≠ .select cs b) (hL : (waitsB md ops L i || decide (ops.size ≤ L)) = true)
    (hQ : ∀ c a w, Q (.panic c) (a.put oi.dst v) w → Q (.panic c) a w) :
    ∀ (fuel : Nat) (listed : Array Bool) (a : Act) (w : World),
      (∀ j oj, ops[j]? = some oj → j ≠ i → listed.getD j true = false → (∀ e ∈ oj.after, Region.binds md e = true → e.on ≠ i) → oi.apart ops oj = true) →
      i ∈ Region.ready md ops listed → YieldsIf P ops S oi v a → S w →
      anyUpto P md ops Q S L fuel (listed.setIfInBounds i true) (a.put oi.dst v) w → anyUpto P md ops Q S L (fuel + 1) listed a w := by
  intro fuel
  induction fuel with
  | zero =>
    intro listed a w _ hr hy hS H
    refine ⟨fun h => (by rw [h] at hr; cases hr), fun j hj => ?_⟩
    by_cases hji : j = i
    · subst hji; exact hy.wpOp hi hS ⟨.inr hS, H⟩
    · have := ready_mono hj hji
      rw [H.1] at this
      cases this
  | succ fuel ih =>
    intro listed a w hfree hr hy hS H
    refine ⟨fun h => (by rw [h] at hr; cases hr), fun j hj => ?_⟩
    by_cases hji : j = i
    · subst hji; exact hy.wpOp hi hS ⟨.inr hS, H⟩
    · have h1 := H.2 j (ready_mono hj hji)
      obtain ⟨hjun, oj, hoj, hall⟩ := mem_ready.1 hj
      have hnot : ∀ e ∈ oj.after, Region.binds md e = true → e.on ≠ i := fun e he hb heq => by
        have h1 := hall e he hb
        have h0 := (mem_ready.1 hr).1
        rw [heq] at h1
        rcases Nat.lt_or_ge i listed.size with h' | h'
        · simp [h'] at h0 h1; rw [h0] at h1; cases h1
        · simp [Array.getElem?_eq_none h'] at h1
      have hjL : j ≠ L := fun e => by
        subst e
        rw [Bool.or_eq_true] at hL
        rcases hL with hL | hL
        · obtain ⟨e, he, hb, hon⟩ := waits_spec hoj hL
          exact hnot e he hb hon
        · have h1 := (Array.getElem?_eq_some_iff.1 hoj).1
          have h2 := of_decide_eq_true hL
          omega
      have h2 := wpOp_putIf hoj (hfree j oj hoj hji hjun hnot) (fun cs b => hsel i oi cs b hi) (fun cs b => hsel j oj cs b hoj) hQ hy h1
      have hfree' : ∀ k ok, ops[k]? = some ok → k ≠ i → (listed.setIfInBounds j true).getD k true = false →
          (∀ e ∈ ok.after, Region.binds md e = true → e.on ≠ i) → oi.apart ops ok = true := fun k ok hk hki hun hno => by
        refine hfree k ok hk hki ?_ hno
        by_cases hjk : j = k
        · subst hjk; exact hjun
        · rw [getD_set_ne true hjk] at hun; exact hun
      refine wpOp_mono (fun a' w' h3 => ⟨h3.2.1, ih (listed.setIfInBounds j true) a' w' hfree' (ready_mono hr (Ne.symm hji)) h3.1 (h3.2.1.resolve_left hjL) ?_⟩) h2
      rw [Array.setIfInBounds_comm _ _ hji]
      exact h3.2.2
/-- number i is taken first -/
theorem upto_take {i : Nat} {oi : Oper} {d : Option Tmp} {v : Value} {fuel : Nat} {listed : Array Bool} {a : Act} {w : World} (hi : ops[i]? = some oi) (hd : oi.dst = d)
    (hs : Region.noSelect ops = true) (hf : Region.free md ops listed i = true) (hr : (Region.ready md ops listed).contains i = true) (hL : (waitsB md ops L i || decide (ops.size ≤ L)) = true)
    (hQ : ∀ c a w, Q (.panic c) (a.put d v) w → Q (.panic c) a w) (hy : YieldsIf P ops S oi v a) (hS : S w)
    (h : anyUpto P md ops Q S L fuel (listed.setIfInBounds i true) (a.put d v) w) : anyUpto P md ops Q S L (fuel + 1) listed a w := by
  subst hd
  exact upto_first hi (Region.noSelect_spec hs) hL hQ fuel listed a w (Region.free_spec hi hf) (by simpa using hr) hy hS h
/-- number i is the one that may come up -/
theorem upto_one {i : Nat} {o : Oper} {fuel : Nat} {listed : Array Bool} {a : Act} {w : World} (hr : Region.ready md ops listed = [i]) (ho : ops[i]? = some o)
    (h : ∀ K' : Act → World → Prop, Shut (∀ a w, (i = L ∨ S w) → anyUpto P md ops Q S L fuel (listed.setIfInBounds i true) a w → K' a w) → if Region.wanted o (yielded ops a.tmps) = true then Oper.wp P o a w K' Q else K' (a.put o.dst undef) w) :
    anyUpto P md ops Q S L (fuel + 1) listed a w :=
  ⟨fun h0 => (by rw [hr] at h0; cases h0), fun j hj => by
    rw [hr] at hj
    obtain rfl : j = i := by simpa using hj
    exact wpOp_step ho (fun K' hK => h K' (fun a w h1 h2 => hK a w ⟨h1, h2⟩))⟩
/-- the same, where it is not guarded: the operation written out, and where it writes -/
theorem upto_oper {i : Nat} (o : Oper) {fuel : Nat} {listed : Array Bool} {a : Act} {w : World} (hr : Region.ready md ops listed = [i]) (ho : ops[i]? = some o) (hg : o.guard = none)
    (h : ∀ K' : Act → World → Prop, Shut (∀ a w, (i = L ∨ S w) → anyUpto P md ops Q S L fuel (listed.setIfInBounds i true) a w → K' a w) → Oper.wp P o a w K' Q) :
    anyUpto P md ops Q S L (fuel + 1) listed a w :=
  upto_one hr ho fun K' hK => by
    have hw : Region.wanted o (yielded ops a.tmps) = true := by simp [Region.wanted, hg]
    rw [if_pos hw]
    exact h K' hK
theorem upto_done {listed : Array Bool} {a : Act} {w : World} (hr : Region.ready md ops listed = []) (h : Q .normal a w) : ∀ fuel, anyUpto P md ops Q S L fuel listed a w
  | 0 => ⟨hr, h⟩
  | _ + 1 => ⟨fun _ => h, by rw [hr]; simp⟩
theorem upto_begin {id : Nat} {a : Act} {w : World} (S : World → Prop) (L : Nat) (hm : P.follows .mixedOrders = true)
    (h : anyUpto P .any ops Q S L ops.size (Array.replicate ops.size false) a w.drew) : (Code.region id ops true).wp P Q a w :=
  wp_region_any hm (any_of_upto _ _ _ _ h)
end
end
end Go.Proofs.Ytbclgmabidjegaa
namespace Go.Proofs.Ytbclgmabidjegaa
section
open Go.RowKit
/-- a slice of numbers in blocks of its own -/
def IntOwn (w : World) (v : Value) (l : List Int) (bs : List Nat) : Prop :=
  ∃ a cap, v = .slice a l.length cap ∧ l.length ≤ cap ∧ cap ≤ maxLen ∧ (∀ n ∈ l, -9223372036854775808 ≤ n ∧ n ≤ 9223372036854775807) ∧
    ((l = [] ∧ bs = []) ∨ ∃ b off, a = some ⟨b, off, none⟩ ∧ bs = [b] ∧ ∀ i, (h : i < l.length) → w.cell? ⟨b, off + i, none⟩ = some (.int .i64 l[i]) ∧ w.frozen? ⟨b, off + i, none⟩ = false)
mutual
/-- a value that reads as a form, its slices in the blocks 'bs' -/
def OwnV (w : World) : Fm → Value → List Nat → Prop
  | .mk k nm n sc ks, v, bs => ∃ vs a cap bs1 bs2, v = .agg #[.int .i64 k, .string nm, .int .i64 n, vs, .slice a ks.length cap] ∧
      (-9223372036854775808 ≤ k ∧ k ≤ 9223372036854775807) ∧ (-9223372036854775808 ≤ n ∧ n ≤ 9223372036854775807) ∧
      nm.size ≤ maxLen ∧ IntOwn w vs sc bs1 ∧ ks.length ≤ cap ∧ cap ≤ maxLen ∧ bs = bs1 ++ bs2 ∧
      ((ks = [] ∧ bs2 = []) ∨ ∃ b off bs3, a = some ⟨b, off, none⟩ ∧ bs2 = b :: bs3 ∧ RowOwn w b off ks bs3)
def RowOwn (w : World) (b off : Nat) : List Fm → List Nat → Prop
  | [], bs => bs = []
  | f :: r, bs => ∃ bs1 bs2, bs = bs1 ++ bs2 ∧ (∃ c0 c1 c2 c3 c4, w.cell? ⟨b, off, none⟩ = some c0 ∧ w.cell? ⟨b, off + 1, none⟩ = some c1 ∧ w.cell? ⟨b, off + 2, none⟩ = some c2 ∧
      w.cell? ⟨b, off + 3, none⟩ = some c3 ∧ w.cell? ⟨b, off + 4, none⟩ = some c4 ∧ (∀ j, j < 5 → w.frozen? ⟨b, off + j, none⟩ = false) ∧ OwnV w f (.agg #[c0, c1, c2, c3, c4]) bs1) ∧ RowOwn w b (off + 5) r bs2
end
/-- the blocks of the list are the same in both worlds -/
def SameOn (bs : List Nat) (w w' : World) : Prop := ∀ b ∈ bs, w'.heap[b]? = w.heap[b]?
theorem SameOn.cell {bs : List Nat} {w w' : World} {b o : Nat} (h : SameOn bs w w') (hb : b ∈ bs) : w'.cell? ⟨b, o, none⟩ = w.cell? ⟨b, o, none⟩ :=
  World.cell?_of_block (w := w) (a := ⟨b, o, none⟩) (h b hb)
theorem SameOn.frozen {bs : List Nat} {w w' : World} {b o : Nat} (h : SameOn bs w w') (hb : b ∈ bs) : w'.frozen? ⟨b, o, none⟩ = w.frozen? ⟨b, o, none⟩ :=
  World.frozen?_of_block (w := w) (a := ⟨b, o, none⟩) (h b hb)
theorem SameOn.left {bs cs : List Nat} {w w' : World} (h : SameOn (bs ++ cs) w w') : SameOn bs w w' := fun b hb => h b (List.mem_append_left _ hb)
theorem SameOn.right {bs cs : List Nat} {w w' : World} (h : SameOn (bs ++ cs) w w') : SameOn cs w w' := fun b hb => h b (List.mem_append_right _ hb)
theorem SameOn.of_below {bs : List Nat} {B : Nat} {w w' : World} (h : Below B w w') (hb : ∀ b ∈ bs, b < B) : SameOn bs w w' := fun b hm => h.block b (hb b hm)
theorem IntOwn.later {w w' : World} {v : Value} {l : List Int} {bs : List Nat} (hs : SameOn bs w w') (h : IntOwn w v l bs) : IntOwn w' v l bs := by
  obtain ⟨a, cap, h1, h2, h3, h4, h5⟩ := h
  refine ⟨a, cap, h1, h2, h3, h4, ?_⟩
  rcases h5 with h5 | ⟨b, off, ha, rfl, h6⟩
  · exact .inl h5
  · exact .inr ⟨b, off, ha, rfl, fun i hi => by rw [hs.cell (by simp), hs.frozen (by simp)]; exact h6 i hi⟩
mutual
theorem OwnV.later {w w' : World} : ∀ (f : Fm) (v : Value) (bs : List Nat), SameOn bs w w' → OwnV w f v bs → OwnV w' f v bs
  | .mk k nm n sc ks, v, bs, hs, h => by
    unfold OwnV at h ⊢
    obtain ⟨vs, a, cap, bs1, bs2, h1, hk, hn, h2, h3, h4, h5, rfl, h6⟩ := h
    refine ⟨vs, a, cap, bs1, bs2, h1, hk, hn, h2, h3.later hs.left, h4, h5, rfl, ?_⟩
    rcases h6 with h6 | ⟨b, off, bs3, h6, rfl, h7⟩
    · exact .inl h6
    · exact .inr ⟨b, off, bs3, h6, rfl, RowOwn.later b off ks bs3 (fun x hx => by
        rcases List.mem_cons.1 hx with rfl | hx
        · exact hs _ (List.mem_append_right _ (List.mem_cons_self))
        · exact hs x (List.mem_append_right _ (List.mem_cons_of_mem _ hx))) h7⟩
theorem RowOwn.later {w w' : World} (b : Nat) : ∀ (off : Nat) (ks : List Fm) (bs : List Nat), SameOn (b :: bs) w w' → RowOwn w b off ks bs → RowOwn w' b off ks bs
  | _, [], bs, _, h => by unfold RowOwn at h ⊢; exact h
  | off, f :: r, bs, hs, h => by
    unfold RowOwn at h ⊢
    obtain ⟨bs1, bs2, rfl, ⟨c0, c1, c2, c3, c4, h0, h1, h2, h3, h4, hf, h5⟩, h6⟩ := h
    have hb : b ∈ b :: (bs1 ++ bs2) := List.mem_cons_self
    refine ⟨bs1, bs2, rfl, ⟨c0, c1, c2, c3, c4, by rw [hs.cell hb]; exact h0, by rw [hs.cell hb]; exact h1, by rw [hs.cell hb]; exact h2, by rw [hs.cell hb]; exact h3, by rw [hs.cell hb]; exact h4,
      fun j hj => by rw [hs.frozen hb]; exact hf j hj, OwnV.later f _ bs1 (fun x hx => hs x (List.mem_cons_of_mem _ (List.mem_append_left _ hx))) h5⟩, RowOwn.later b (off + 5) r bs2 (fun x hx => by
        rcases List.mem_cons.1 hx with rfl | hx
        · exact hs _ hb
        · exact hs x (List.mem_cons_of_mem _ (List.mem_append_right _ hx))) h6⟩
end
/-- the row itself need be the same only at its own places -/
theorem RowOwn.upto {w w' : World} {b : Nat} : ∀ {ks : List Fm} {off : Nat} {bs : List Nat}, SameOn bs w w' →
    (∀ i, off ≤ i → i < off + ks.length * 5 → w'.cell? ⟨b, i, none⟩ = w.cell? ⟨b, i, none⟩ ∧ w'.frozen? ⟨b, i, none⟩ = w.frozen? ⟨b, i, none⟩) → RowOwn w b off ks bs → RowOwn w' b off ks bs
  | [], _, _, _, _, h => by unfold RowOwn at h ⊢; exact h
  | f :: r, off, bs, hs, hc, h => by
    unfold RowOwn at h ⊢
    obtain ⟨bs1, bs2, rfl, ⟨c0, c1, c2, c3, c4, h0, h1, h2, h3, h4, hf, h5⟩, h6⟩ := h
    have hl : (f :: r).length = r.length + 1 := rfl
    refine ⟨bs1, bs2, rfl, ⟨c0, c1, c2, c3, c4, by rw [(hc off (by omega) (by omega)).1]; exact h0, by rw [(hc (off + 1) (by omega) (by omega)).1]; exact h1, by rw [(hc (off + 2) (by omega) (by omega)).1]; exact h2,
      by rw [(hc (off + 3) (by omega) (by omega)).1]; exact h3, by rw [(hc (off + 4) (by omega) (by omega)).1]; exact h4, fun j hj => by rw [(hc (off + j) (by omega) (by omega)).2]; exact hf j hj,
      OwnV.later f _ bs1 hs.left h5⟩, RowOwn.upto hs.right (fun i h1 h2 => hc i (by omega) (by omega)) h6⟩
theorem size_alloc' (w : World) (o : Obj) : (w.alloc o).heap.size = w.heap.size + 1 := by simp
theorem a2_cell0 (w : World) (A : Array Value) (O : Obj) (t : TypeId) (j : Nat) : ((w.alloc (.cells A t)).alloc O).cell? ⟨w.heap.size, j, none⟩ = A[j]? := by
  rw [World.cell?_alloc_past _ _ _ (by rw [size_alloc']; omega), World.cell?_alloc_at _ _ _ _ rfl]
theorem a3_cell0 (w : World) (A : Array Value) (O O' : Obj) (t : TypeId) (j : Nat) : (((w.alloc (.cells A t)).alloc O).alloc O').cell? ⟨w.heap.size, j, none⟩ = A[j]? := by
  rw [World.cell?_alloc_past _ _ _ (by rw [size_alloc', size_alloc']; omega), a2_cell0]
theorem a3_cell1 (w : World) (A : Array Value) (O O' : Obj) (t : TypeId) (j : Nat) : (((w.alloc O).alloc (.cells A t)).alloc O').cell? ⟨w.heap.size + 1, j, none⟩ = A[j]? := by
  rw [World.cell?_alloc_past _ _ _ (by rw [size_alloc', size_alloc']; omega), World.cell?_alloc_at _ _ _ _ (by rw [size_alloc'])]
theorem a3_cell2 (w : World) (A : Array Value) (O O' : Obj) (t : TypeId) (j : Nat) : (((w.alloc O).alloc O').alloc (.cells A t)).cell? ⟨w.heap.size + 1 + 1, j, none⟩ = A[j]? := by
  rw [World.cell?_alloc_at _ _ _ _ (by rw [size_alloc', size_alloc'])]
theorem a3_free1 (w : World) (A : Array Value) (O O' : Obj) (t : TypeId) (j : Nat) : (((w.alloc O).alloc (.cells A t)).alloc O').frozen? ⟨w.heap.size + 1, j, none⟩ = false := by
  rw [World.frozen?_alloc_past _ _ _ (by rw [size_alloc', size_alloc']; omega), World.frozen?_alloc_at _ _ _ _ (by rw [size_alloc'])]
theorem a3_free2 (w : World) (A : Array Value) (O O' : Obj) (t : TypeId) (j : Nat) : (((w.alloc O).alloc O').alloc (.cells A t)).frozen? ⟨w.heap.size + 1 + 1, j, none⟩ = false := by
  rw [World.frozen?_alloc_at _ _ _ _ (by rw [size_alloc', size_alloc'])]
/-- five cells stored -/
def set5 (w : World) (b o : Nat) (c0 c1 c2 c3 c4 : Value) : World :=
  ((((w.setCell ⟨b, o, none⟩ c0).setCell ⟨b, o + 1, none⟩ c1).setCell ⟨b, o + 2, none⟩ c2).setCell ⟨b, o + 3, none⟩ c3).setCell ⟨b, o + 4, none⟩ c4
theorem set5_size (w : World) (b o : Nat) (c0 c1 c2 c3 c4 : Value) : (set5 w b o c0 c1 c2 c3 c4).heap.size = w.heap.size := by simp [set5, World.setCell]
theorem set5_block (w : World) (b o : Nat) (c0 c1 c2 c3 c4 : Value) {k : Nat} (hk : k ≠ b) : (set5 w b o c0 c1 c2 c3 c4).heap[k]? = w.heap[k]? := by
  unfold set5
  iterate 5 rw [Below.heap_setCell _ _ _ _ hk]
theorem set5_frozen (w : World) (b o : Nat) (c0 c1 c2 c3 c4 : Value) (a : Addr) : (set5 w b o c0 c1 c2 c3 c4).frozen? a = w.frozen? a := by
  unfold set5
  iterate 5 rw [World.frozen?_setCell]
theorem addr_ne {b o i : Nat} (h : o ≠ i) : (⟨b, o, none⟩ : Addr) ≠ ⟨b, i, none⟩ := by intro e; injection e with _ e2; exact h e2
theorem set5_out (w : World) (b o : Nat) (c0 c1 c2 c3 c4 : Value) (i : Nat) (h : i < o ∨ o + 5 ≤ i) : (set5 w b o c0 c1 c2 c3 c4).cell? ⟨b, i, none⟩ = w.cell? ⟨b, i, none⟩ := by
  unfold set5
  rw [World.cell?_setCell_other _ _ _ _ (addr_ne (by omega)), World.cell?_setCell_other _ _ _ _ (addr_ne (by omega)), World.cell?_setCell_other _ _ _ _ (addr_ne (by omega)),
    World.cell?_setCell_other _ _ _ _ (addr_ne (by omega)), World.cell?_setCell_other _ _ _ _ (addr_ne (by omega))]
theorem set5_in (w : World) (b o : Nat) (c0 c1 c2 c3 c4 : Value) (h : ∀ j, j < 5 → ∃ v, w.cell? ⟨b, o + j, none⟩ = some v) :
    (set5 w b o c0 c1 c2 c3 c4).cell? ⟨b, o, none⟩ = some c0 ∧ (set5 w b o c0 c1 c2 c3 c4).cell? ⟨b, o + 1, none⟩ = some c1 ∧ (set5 w b o c0 c1 c2 c3 c4).cell? ⟨b, o + 2, none⟩ = some c2 ∧
      (set5 w b o c0 c1 c2 c3 c4).cell? ⟨b, o + 3, none⟩ = some c3 ∧ (set5 w b o c0 c1 c2 c3 c4).cell? ⟨b, o + 4, none⟩ = some c4 := by
  obtain ⟨v0, h0⟩ := h 0 (by omega)
  obtain ⟨v1, h1⟩ := h 1 (by omega)
  obtain ⟨v2, h2⟩ := h 2 (by omega)
  obtain ⟨v3, h3⟩ := h 3 (by omega)
  obtain ⟨v4, h4⟩ := h 4 (by omega)
  rw [Nat.add_zero] at h0
  unfold set5
  refine ⟨?_, ?_, ?_, ?_, ?_⟩
  · rw [World.cell?_setCell_other _ _ _ _ (addr_ne (by omega)), World.cell?_setCell_other _ _ _ _ (addr_ne (by omega)), World.cell?_setCell_other _ _ _ _ (addr_ne (by omega)),
      World.cell?_setCell_other _ _ _ _ (addr_ne (by omega)), World.cell?_setCell_same _ _ _ h0]
  · rw [World.cell?_setCell_other _ _ _ _ (addr_ne (by omega)), World.cell?_setCell_other _ _ _ _ (addr_ne (by omega)), World.cell?_setCell_other _ _ _ _ (addr_ne (by omega))]
    exact World.cell?_setCell_same _ _ _ (u := v1) (by rw [World.cell?_setCell_other _ _ _ _ (addr_ne (by omega))]; exact h1)
  · rw [World.cell?_setCell_other _ _ _ _ (addr_ne (by omega)), World.cell?_setCell_other _ _ _ _ (addr_ne (by omega))]
    exact World.cell?_setCell_same _ _ _ (u := v2) (by rw [World.cell?_setCell_other _ _ _ _ (addr_ne (by omega)), World.cell?_setCell_other _ _ _ _ (addr_ne (by omega))]; exact h2)
  · rw [World.cell?_setCell_other _ _ _ _ (addr_ne (by omega))]
    exact World.cell?_setCell_same _ _ _ (u := v3) (by rw [World.cell?_setCell_other _ _ _ _ (addr_ne (by omega)), World.cell?_setCell_other _ _ _ _ (addr_ne (by omega)), World.cell?_setCell_other _ _ _ _ (addr_ne (by omega))]; exact h3)
  · exact World.cell?_setCell_same _ _ _ (u := v4) (by rw [World.cell?_setCell_other _ _ _ _ (addr_ne (by omega)), World.cell?_setCell_other _ _ _ _ (addr_ne (by omega)), World.cell?_setCell_other _ _ _ _ (addr_ne (by omega)), World.cell?_setCell_other _ _ _ _ (addr_ne (by omega))]; exact h4)
theorem set5_below {B : Nat} {w w' : World} (h : Below B w w') {b : Nat} (hb : B ≤ b) (o : Nat) (c0 c1 c2 c3 c4 : Value) : Below B w (set5 w' b o c0 c1 c2 c3 c4) :=
  ((((h.setCell (p := ⟨b, o, none⟩) hb c0).setCell (p := ⟨b, o + 1, none⟩) hb c1).setCell (p := ⟨b, o + 2, none⟩) hb c2).setCell (p := ⟨b, o + 3, none⟩) hb c3).setCell (p := ⟨b, o + 4, none⟩) hb c4
theorem IntOwn.inRow {φ : Nat → Prop} {w : World} {v : Value} {l : List Int} {bs : List Nat} (hp : ∀ b ∈ bs, φ b) (h : IntOwn w v l bs) : IntRow φ w v l := by
  obtain ⟨a, cap, h1, h2, h3, h4, h5⟩ := h
  refine ⟨a, cap, h1, h2, h3, h4, ?_⟩
  rcases h5 with h5 | ⟨b, off, ha, rfl, h6⟩
  · exact .inl h5.1
  · exact .inr ⟨b, off, ha, hp b (by simp), fun i hi => (h6 i hi).1⟩
mutual
theorem OwnV.inV {φ : Nat → Prop} {w : World} : ∀ (f : Fm) (v : Value) (bs : List Nat), (∀ b ∈ bs, φ b) → OwnV w f v bs → InV φ w f v
  | .mk k nm n sc ks, v, bs, hp, h => by
    unfold OwnV at h
    unfold InV
    obtain ⟨vs, a, cap, bs1, bs2, h1, hk, hn, h2, h3, h4, h5, rfl, h6⟩ := h
    refine ⟨vs, a, cap, h1, hk, hn, h2, h3.inRow (fun b hb => hp b (List.mem_append_left _ hb)), h4, h5, ?_⟩
    rcases h6 with h6 | ⟨b, off, bs3, h6, rfl, h7⟩
    · exact .inl h6.1
    · exact .inr ⟨b, off, h6, hp b (List.mem_append_right _ List.mem_cons_self), RowOwn.inRow b off ks bs3 (fun x hx => hp x (List.mem_append_right _ (List.mem_cons_of_mem _ hx))) h7⟩
theorem RowOwn.inRow {φ : Nat → Prop} {w : World} (b : Nat) : ∀ (off : Nat) (ks : List Fm) (bs : List Nat), (∀ x ∈ bs, φ x) → RowOwn w b off ks bs → RowIn φ w b off ks
  | _, [], _, _, _ => by unfold RowIn; trivial
  | off, f :: r, bs, hp, h => by
    unfold RowOwn at h
    unfold RowIn
    obtain ⟨bs1, bs2, rfl, ⟨c0, c1, c2, c3, c4, h0, h1, h2, h3, h4, _, h5⟩, h6⟩ := h
    exact ⟨⟨c0, c1, c2, c3, c4, h0, h1, h2, h3, h4, OwnV.inV f _ bs1 (fun x hx => hp x (List.mem_append_left _ hx)) h5⟩, RowOwn.inRow b (off + 5) r bs2 (fun x hx => hp x (List.mem_append_right _ hx)) h6⟩
end
/-- one element more -/
theorem RowOwn.snoc {w : World} {b : Nat} : ∀ {ks : List Fm} {off : Nat} {bs bs' : List Nat} {f : Fm} {c0 c1 c2 c3 c4 : Value}, RowOwn w b off ks bs →
    w.cell? ⟨b, off + ks.length * 5, none⟩ = some c0 → w.cell? ⟨b, off + ks.length * 5 + 1, none⟩ = some c1 → w.cell? ⟨b, off + ks.length * 5 + 2, none⟩ = some c2 →
    w.cell? ⟨b, off + ks.length * 5 + 3, none⟩ = some c3 → w.cell? ⟨b, off + ks.length * 5 + 4, none⟩ = some c4 → (∀ j, j < 5 → w.frozen? ⟨b, off + ks.length * 5 + j, none⟩ = false) →
    OwnV w f (.agg #[c0, c1, c2, c3, c4]) bs' → RowOwn w b off (ks ++ [f]) (bs ++ bs')
  | [], off, bs, bs', f, c0, c1, c2, c3, c4, h, h0, h1, h2, h3, h4, hf, h5 => by
    unfold RowOwn at h
    subst h
    show RowOwn w b off (f :: []) ([] ++ bs')
    unfold RowOwn
    refine ⟨bs', [], by simp, ⟨c0, c1, c2, c3, c4, by simpa using h0, by simpa using h1, by simpa using h2, by simpa using h3, by simpa using h4, by simpa using hf, h5⟩, ?_⟩
    unfold RowOwn
    rfl
  | g :: r, off, bs, bs', f, c0, c1, c2, c3, c4, h, h0, h1, h2, h3, h4, hf, h5 => by
    unfold RowOwn at h
    obtain ⟨bs1, bs2, rfl, hg, hr⟩ := h
    have e : off + (g :: r).length * 5 = off + 5 + r.length * 5 := by simp; omega
    rw [e] at h0 h1 h2 h3 h4 hf
    have := RowOwn.snoc hr h0 h1 h2 h3 h4 hf h5
    show RowOwn w b off (g :: (r ++ [f])) (bs1 ++ bs2 ++ bs')
    unfold RowOwn
    exact ⟨bs1, bs2 ++ bs', by simp, hg, this⟩
/-- new blocks: distinct, laid between two sizes -/
def NewBs (bs : List Nat) (lo hi : Nat) : Prop := bs.Nodup ∧ ∀ b ∈ bs, lo ≤ b ∧ b < hi
theorem NewBs.nil (lo hi : Nat) : NewBs [] lo hi := ⟨List.nodup_nil, by simp⟩
theorem NewBs.mono {bs : List Nat} {lo hi lo' hi' : Nat} (h : NewBs bs lo hi) (h1 : lo' ≤ lo) (h2 : hi ≤ hi') : NewBs bs lo' hi' :=
  ⟨h.1, fun b hb => by have := h.2 b hb; omega⟩
theorem NewBs.append {cs0 bs : List Nat} {lo mid hi : Nat} (h : NewBs cs0 lo mid) (g : NewBs bs mid hi) (h1 : lo ≤ mid) (h2 : mid ≤ hi) : NewBs (cs0 ++ bs) lo hi := by
  refine ⟨List.nodup_append.2 ⟨h.1, g.1, fun a ha b hb e => ?_⟩, fun b hb => ?_⟩
  · have := h.2 a ha; have := g.2 b hb; omega
  · rcases List.mem_append.1 hb with hb | hb
    · have := h.2 b hb; omega
    · have := g.2 b hb; omega
theorem NewBs.cons {bs : List Nat} {b lo hi : Nat} (h : NewBs bs (b + 1) hi) (h1 : lo ≤ b) (h2 : b < hi) : NewBs (b :: bs) lo hi := by
  refine ⟨List.nodup_cons.2 ⟨fun hm => ?_, h.1⟩, fun x hx => ?_⟩
  · have := h.2 b hm; omega
  · rcases List.mem_cons.1 hx with rfl | hx
    · omega
    · have := h.2 x hx; omega
/-- a block of cells with no frozen part -/
def Plain (w : World) (b : Nat) : Prop := ∃ c t, w.heap[b]? = some (.cells c t (0, 0))
def AllPlain (w : World) (bs : List Nat) : Prop := ∀ b ∈ bs, Plain w b
theorem Plain.frozen {w : World} {b : Nat} (h : Plain w b) (i : Nat) : w.frozen? ⟨b, i, none⟩ = false := by
  obtain ⟨c, t, h⟩ := h
  exact frozen_of_row w b i c t h
theorem Plain.fresh (w : World) (c : Array Value) (t : TypeId) : Plain (w.alloc (.cells c t)) w.heap.size := ⟨c, t, heap_alloc_new w _⟩
theorem Plain.lt {w : World} {b : Nat} (h : Plain w b) : b < w.heap.size := by
  obtain ⟨c, t, h⟩ := h
  exact (Array.getElem?_eq_some_iff.1 h).1
theorem Plain.same {w w' : World} {b : Nat} (h : Plain w b) (hs : w'.heap[b]? = w.heap[b]?) : Plain w' b := by
  obtain ⟨c, t, h⟩ := h
  exact ⟨c, t, hs.trans h⟩
theorem Plain.later {w w' : World} {b : Nat} (h : Plain w b) (hb : Below w.heap.size w w') : Plain w' b := h.same (hb.block b h.lt)
theorem Plain.setCell {w : World} {b : Nat} (h : Plain w b) (c o : Nat) (v : Value) : Plain (w.setCell ⟨c, o, none⟩ v) b := by
  by_cases e : b = c
  · subst e
    obtain ⟨cur, t, h⟩ := h
    exact ⟨_, t, heap_setCell_same w b o cur t v h⟩
  · exact h.same (Below.heap_setCell _ _ _ _ e)
theorem Plain.set5 {w : World} {b : Nat} (h : Plain w b) (c o : Nat) (c0 c1 c2 c3 c4 : Value) : Plain (set5 w c o c0 c1 c2 c3 c4) b :=
  ((((h.setCell _ _ _).setCell _ _ _).setCell _ _ _).setCell _ _ _).setCell _ _ _
theorem AllPlain.same {w w' : World} {bs : List Nat} (h : AllPlain w bs) (hs : SameOn bs w w') : AllPlain w' bs := fun b hb => (h b hb).same (hs b hb)
theorem AllPlain.later {w w' : World} {bs : List Nat} (h : AllPlain w bs) (hb : Below w.heap.size w w') : AllPlain w' bs := fun b hm => (h b hm).later hb
theorem AllPlain.append {w : World} {cs0 bs : List Nat} (h : AllPlain w cs0) (g : AllPlain w bs) : AllPlain w (cs0 ++ bs) := fun b hb => by
  rcases List.mem_append.1 hb with hb | hb
  · exact h b hb
  · exact g b hb
theorem AllPlain.left {w : World} {cs0 bs : List Nat} (h : AllPlain w (cs0 ++ bs)) : AllPlain w cs0 := fun b hb => h b (List.mem_append_left _ hb)
theorem AllPlain.right {w : World} {cs0 bs : List Nat} (h : AllPlain w (cs0 ++ bs)) : AllPlain w bs := fun b hb => h b (List.mem_append_right _ hb)
theorem AllPlain.cons {w : World} {b : Nat} {bs : List Nat} (h : Plain w b) (g : AllPlain w bs) : AllPlain w (b :: bs) := fun c hc => by
  rcases List.mem_cons.1 hc with rfl | hc
  · exact h
  · exact g c hc
theorem AllPlain.nil (w : World) : AllPlain w [] := fun b hb => by cases hb
end
end Go.Proofs.Ytbclgmabidjegaa
namespace Go.Proofs.Ytbclgmabidjegaa
section
open Go.RowKit
/-- numbers from k on -/
def ramp : Int → Nat → List Int
  | _, 0 => []
  | k, n + 1 => k :: ramp (k + 1) n
theorem ramp_length : ∀ (n : Nat) (k : Int), (ramp k n).length = n
  | 0, _ => rfl
  | n + 1, k => by simp [ramp, ramp_length n (k + 1)]
theorem ramp_get : ∀ (n : Nat) (k : Int) (i : Nat) (h : i < (ramp k n).length), (ramp k n)[i] = k + i
  | 0, _, _, h => by simp [ramp] at h
  | n + 1, k, 0, _ => by simp [ramp]
  | n + 1, k, i + 1, h => by
    have h' : i < (ramp (k + 1) n).length := by rw [ramp_length]; rw [ramp_length] at h; omega
    have := ramp_get n (k + 1) i h'
    simp only [ramp, List.getElem_cons_succ, this]
    omega
theorem ramp_mem {n : Nat} {k x : Int} (h : x ∈ ramp k n) : k ≤ x ∧ x < k + n := by
  obtain ⟨i, hi, rfl⟩ := List.mem_iff_getElem.1 h
  rw [ramp_get]
  rw [ramp_length] at hi
  omega
/-- the letters of a mark's number, in front of others -/
def mgo : Nat → Int → List UInt8 → List UInt8
  | 0, _, out => out
  | n + 1, k, out => if k ≤ 0 then out else mgo n (k / 10) (UInt8.ofNat (48 + k % 10).toNat :: out)
def mtext (k : Int) : ByteArray := ⟨(109 :: mgo 20 k []).toArray⟩
theorem mgo_length : ∀ (n : Nat) (k : Int) (out : List UInt8), (mgo n k out).length ≤ n + out.length
  | 0, _, _ => by simp [mgo]
  | n + 1, k, out => by
    unfold mgo
    split
    · omega
    · have := mgo_length n (k / 10) (UInt8.ofNat (48 + k % 10).toNat :: out)
      simp only [List.length_cons] at this
      omega
theorem mtext_size (k : Int) : (mtext k).size ≤ 21 := by
  have := mgo_length 20 k []
  show (109 :: mgo 20 k []).toArray.size ≤ 21
  simp only [List.size_toArray, List.length_cons]
  simp only [List.length_nil, Nat.add_zero] at this
  omega
mutual
/-- how many marks there are in a form -/
def Fm.marks : Fm → Nat
  | .mk _ _ _ sc ks => sc.length + marksAll ks
def marksAll : List Fm → Nat
  | [] => 0
  | f :: r => 3 + f.marks + marksAll r
end
mutual
/-- a form whose memory is marked from k on -/
def Fm.marked : Fm → Int → Fm
  | .mk kd nm n sc ks, k => .mk kd nm n (ramp k sc.length) (markedAll ks (k + sc.length))
def markedAll : List Fm → Int → List Fm
  | [], _ => []
  | .mk _ _ _ sc ks :: r, k => .mk k (mtext (k + 1)) (k + 1 + 1) (ramp (k + 1 + 1 + 1) sc.length) (markedAll ks (k + 1 + 1 + 1 + sc.length)) :: markedAll r (k + 3 + sc.length + marksAll ks)
end
theorem markedAll_length : ∀ (ks : List Fm) (k : Int), (markedAll ks k).length = ks.length
  | [], _ => by simp [markedAll]
  | .mk _ _ _ sc ks :: r, k => by simp [markedAll, markedAll_length r]
/-- one element of a marked list -/
def markedAt (f : Fm) (k : Int) : Fm := .mk k (mtext (k + 1)) (k + 1 + 1) (ramp (k + 1 + 1 + 1) f.scopes.length) (markedAll f.kids (k + 1 + 1 + 1 + f.scopes.length))
theorem marks_eq (f : Fm) : f.marks = f.scopes.length + marksAll f.kids := by cases f; simp [Fm.marks, Fm.scopes, Fm.kids]
theorem markedAll_cons (f : Fm) (r : List Fm) (k : Int) : markedAll (f :: r) k = markedAt f k :: markedAll r (k + 3 + f.marks) := by
  cases f with
  | mk kd nm n sc ks => simp [markedAll, markedAt, Fm.marks, Fm.scopes, Fm.kids]; congr 1; omega
theorem marksAll_append (ks ls : List Fm) : marksAll (ks ++ ls) = marksAll ks + marksAll ls := by
  induction ks with
  | nil => simp [marksAll]
  | cons f r ih => simp only [List.cons_append, marksAll, ih]; omega
theorem marksAll_take_succ (ks : List Fm) (j : Nat) (h : j < ks.length) : marksAll (ks.take (j + 1)) = marksAll (ks.take j) + (3 + (ks[j]).marks) := by
  rw [List.take_succ_eq_append_getElem h, marksAll_append]
  simp [marksAll]
theorem marksAll_take_le (ks : List Fm) (j : Nat) : marksAll (ks.take j) ≤ marksAll ks := by
  have := marksAll_append (ks.take j) (ks.drop j)
  rw [List.take_append_drop] at this
  omega
theorem markedAll_append (ks ls : List Fm) (k : Int) : markedAll (ks ++ ls) k = markedAll ks k ++ markedAll ls (k + marksAll ks) := by
  induction ks generalizing k with
  | nil => simp [markedAll, marksAll]
  | cons f r ih =>
    rw [List.cons_append, markedAll_cons, ih, markedAll_cons, List.cons_append]
    congr 2
    congr 1
    simp only [marksAll]
    omega
theorem markedAll_take_succ (ks : List Fm) (k : Int) (j : Nat) (h : j < ks.length) : markedAll (ks.take (j + 1)) k = markedAll (ks.take j) k ++ [markedAt ks[j] (k + marksAll (ks.take j))] := by
  rw [List.take_succ_eq_append_getElem h, markedAll_append, markedAll_cons]
  simp [markedAll]
theorem markedAll_get (ks : List Fm) (k : Int) (j : Nat) (h : j < ks.length) : (markedAll ks k)[j]'(by rw [markedAll_length]; exact h) = markedAt ks[j] (k + marksAll (ks.take j)) := by
  induction ks generalizing k j with
  | nil => simp at h
  | cons f r ih =>
    have e := markedAll_cons f r k
    cases j with
    | zero => simp only [e, List.getElem_cons_zero, List.take_zero, marksAll]; congr 1; omega
    | succ j =>
      have := ih (k + 3 + f.marks) j (by simpa using h)
      simp only [e, List.getElem_cons_succ, this, List.take_succ_cons, marksAll]
      congr 1
      omega
mutual
theorem Fm.marks_le : ∀ f : Fm, f.marks ≤ 3 * f.sz
  | .mk _ _ _ sc ks => by have := marksAll_le ks; unfold Fm.marks Fm.sz; omega
theorem marksAll_le : ∀ ks : List Fm, marksAll ks ≤ 3 * szAll ks
  | [] => by simp [marksAll]
  | f :: r => by have := Fm.marks_le f; have := marksAll_le r; unfold marksAll szAll; omega
end
/-- of what was there only the blocks of the list may have turned -/
structure Only (bs : List Nat) (w w' : World) : Prop where
  os : w'.os = w.os
  tape : w'.tape = w.tape
  output : w'.output = w.output
  size : w.heap.size ≤ w'.heap.size
  block : ∀ k, k < w.heap.size → k ∉ bs → w'.heap[k]? = w.heap[k]?
theorem Only.refl (bs : List Nat) (w : World) : Only bs w w := ⟨rfl, rfl, rfl, Nat.le_refl _, fun _ _ _ => rfl⟩
theorem Only.trans {bs : List Nat} {u v w : World} (h : Only bs u v) (g : Only bs v w) : Only bs u w :=
  ⟨g.os.trans h.os, g.tape.trans h.tape, g.output.trans h.output, Nat.le_trans h.size g.size, fun k hk hn => (g.block k (Nat.lt_of_lt_of_le hk h.size) hn).trans (h.block k hk hn)⟩
theorem Only.mono {bs cs : List Nat} {u v : World} (h : Only bs u v) (hs : ∀ b ∈ bs, b ∈ cs) : Only cs u v :=
  ⟨h.os, h.tape, h.output, h.size, fun k hk hn => h.block k hk fun hb => hn (hs k hb)⟩
theorem Only.of_below {bs : List Nat} {w w' : World} (h : Below w.heap.size w w') : Only bs w w' :=
  ⟨h.os, h.tape, h.output, h.size, fun k hk _ => h.block k hk⟩
theorem Only.below {bs : List Nat} {B : Nat} {w w' : World} (h : Only bs w w') (hb : ∀ b ∈ bs, B ≤ b) (hs : B ≤ w.heap.size) : Below B w w' :=
  ⟨h.os, h.tape, h.output, h.size, fun k hk => h.block k (by omega) fun hm => by have := hb k hm; omega⟩
theorem Only.drewN {bs : List Nat} {u w : World} (h : Only bs u w) (n : Nat) : Only bs u (w.drewN n) := ⟨h.os, h.tape, h.output, h.size, h.block⟩
theorem Only.drew {bs : List Nat} {u w : World} (h : Only bs u w) : Only bs u w.drew := ⟨h.os, h.tape, h.output, h.size, h.block⟩
theorem Only.alloc {bs : List Nat} {u w : World} (h : Only bs u w) (o : Obj) : Only bs u (w.alloc o) :=
  h.trans (Only.of_below ((Below.refl _ _).alloc (Nat.le_refl _) _))
theorem Only.setCell {bs : List Nat} {u w : World} (h : Only bs u w) (b o : Nat) (v : Value) (hb : b ∈ bs) : Only bs u (w.setCell ⟨b, o, none⟩ v) :=
  h.trans ⟨rfl, rfl, rfl, by simp [World.setCell], fun k _ hn => Below.heap_setCell _ _ _ _ (fun e => hn (by rw [e]; exact hb))⟩
theorem Only.sameOn {bs cs : List Nat} {w w' : World} (h : Only bs w w') (hc : ∀ c ∈ cs, c < w.heap.size ∧ c ∉ bs) : SameOn cs w w' :=
  fun c hm => h.block c (hc c hm).1 (hc c hm).2
theorem Only.same {bs : List Nat} {φ : Nat → Prop} {w w' : World} (h : Only bs w w') (hφ : ∀ k, φ k → k < w.heap.size ∧ k ∉ bs) : Same φ w w' :=
  fun k hk => h.block k (hφ k hk).1 (hφ k hk).2
/-- a row that is two rows -/
theorem RowOwn.split {w : World} {b : Nat} : ∀ {ks ls : List Fm} {off : Nat} {bs : List Nat}, RowOwn w b off (ks ++ ls) bs →
    ∃ bs1 bs2, bs = bs1 ++ bs2 ∧ RowOwn w b off ks bs1 ∧ RowOwn w b (off + ks.length * 5) ls bs2
  | [], ls, off, bs, h => ⟨[], bs, rfl, by unfold RowOwn; rfl, by simpa using h⟩
  | f :: r, ls, off, bs, h => by
    rw [List.cons_append] at h
    unfold RowOwn at h
    obtain ⟨bs1, bs2, rfl, hf, hr⟩ := h
    obtain ⟨cs1, cs2, rfl, h1, h2⟩ := RowOwn.split hr
    refine ⟨bs1 ++ cs1, cs2, by simp, ?_, ?_⟩
    · unfold RowOwn
      exact ⟨bs1, cs1, rfl, hf, h1⟩
    · rw [show off + (f :: r).length * 5 = off + 5 + r.length * 5 from by simp only [List.length_cons]; omega]
      exact h2
theorem RowOwn.join {w : World} {b : Nat} : ∀ {ks ls : List Fm} {off : Nat} {bs cs : List Nat}, RowOwn w b off ks bs → RowOwn w b (off + ks.length * 5) ls cs → RowOwn w b off (ks ++ ls) (bs ++ cs)
  | [], ls, off, bs, cs, h, g => by
    unfold RowOwn at h
    subst h
    simpa using g
  | f :: r, ls, off, bs, cs, h, g => by
    unfold RowOwn at h
    obtain ⟨bs1, bs2, rfl, hf, hr⟩ := h
    rw [show off + (f :: r).length * 5 = off + 5 + r.length * 5 from by simp only [List.length_cons]; omega] at g
    rw [List.cons_append, List.append_assoc]
    unfold RowOwn
    exact ⟨bs1, bs2 ++ cs, rfl, hf, RowOwn.join hr g⟩
/-- what a value that reads as a form of its own looks like -/
theorem OwnV.form {w : World} {f : Fm} {v : Value} {bs : List Nat} (h : OwnV w f v bs) :
    ∃ sa scap a cap bs1 bs2, v = .agg #[.int .i64 f.kind, .string f.name, .int .i64 f.n, .slice sa f.scopes.length scap, .slice a f.kids.length cap] ∧
      (-9223372036854775808 ≤ f.kind ∧ f.kind ≤ 9223372036854775807) ∧ (-9223372036854775808 ≤ f.n ∧ f.n ≤ 9223372036854775807) ∧ f.name.size ≤ maxLen ∧
      IntOwn w (.slice sa f.scopes.length scap) f.scopes bs1 ∧ f.kids.length ≤ cap ∧ cap ≤ maxLen ∧ bs = bs1 ++ bs2 ∧
      ((f.kids = [] ∧ bs2 = []) ∨ ∃ b off bs3, a = some ⟨b, off, none⟩ ∧ bs2 = b :: bs3 ∧ RowOwn w b off f.kids bs3) := by
  cases f with
  | mk k nm n sc ks =>
    unfold OwnV at h
    obtain ⟨vs, a, cap, bs1, bs2, rfl, hk, hn, hnm, hvs, h1, h2, rfl, h3⟩ := h
    have hvs' := hvs
    obtain ⟨sa, scap, rfl, _⟩ := hvs'
    exact ⟨sa, scap, a, cap, bs1, bs2, rfl, hk, hn, hnm, hvs, h1, h2, rfl, h3⟩
/-- the first element of a row -/
theorem RowOwn.head {w : World} {b off : Nat} {f : Fm} {r : List Fm} {bs : List Nat} (h : RowOwn w b off (f :: r) bs) :
    ∃ sa scap a cap bs1 bs2, bs = bs1 ++ bs2 ∧ w.cell? ⟨b, off, none⟩ = some (.int .i64 f.kind) ∧ w.cell? ⟨b, off + 1, none⟩ = some (.string f.name) ∧ w.cell? ⟨b, off + 2, none⟩ = some (.int .i64 f.n) ∧
      w.cell? ⟨b, off + 3, none⟩ = some (.slice sa f.scopes.length scap) ∧ w.cell? ⟨b, off + 4, none⟩ = some (.slice a f.kids.length cap) ∧ (∀ j, j < 5 → w.frozen? ⟨b, off + j, none⟩ = false) ∧
      OwnV w f (.agg #[.int .i64 f.kind, .string f.name, .int .i64 f.n, .slice sa f.scopes.length scap, .slice a f.kids.length cap]) bs1 ∧ RowOwn w b (off + 5) r bs2 := by
  unfold RowOwn at h
  obtain ⟨bs1, bs2, rfl, ⟨c0, c1, c2, c3, c4, h0, h1, h2, h3, h4, hf, h5⟩, h6⟩ := h
  obtain ⟨sa, scap, a, cap, _, _, e, _⟩ := h5.form
  injection e with e
  injection e with e
  simp only [List.cons.injEq, and_true] at e
  obtain ⟨rfl, rfl, rfl, rfl, rfl⟩ := e
  exact ⟨sa, scap, a, cap, bs1, bs2, rfl, h0, h1, h2, h3, h4, hf, h5, h6⟩
/-- the forms of a list, in blocks of their own -/
def KidsOwn (w : World) (a : Option Addr) (cap : Nat) (ks : List Fm) (bs : List Nat) : Prop :=
  ks.length ≤ cap ∧ cap ≤ maxLen ∧ ((ks = [] ∧ bs = []) ∨ ∃ b off bs3, a = some ⟨b, off, none⟩ ∧ bs = b :: bs3 ∧ RowOwn w b off ks bs3)
theorem KidsOwn.later {w w' : World} {a : Option Addr} {cap : Nat} {ks : List Fm} {bs : List Nat} (hs : SameOn bs w w') (h : KidsOwn w a cap ks bs) : KidsOwn w' a cap ks bs := by
  obtain ⟨h1, h2, h3⟩ := h
  refine ⟨h1, h2, ?_⟩
  rcases h3 with h3 | ⟨b, off, bs3, h3, rfl, h4⟩
  · exact .inl h3
  · exact .inr ⟨b, off, bs3, h3, rfl, RowOwn.later b off ks bs3 hs h4⟩
theorem OwnV.kids {w : World} {f : Fm} {v : Value} {bs : List Nat} (h : OwnV w f v bs) :
    ∃ sa scap a cap bs1 bs2, v = .agg #[.int .i64 f.kind, .string f.name, .int .i64 f.n, .slice sa f.scopes.length scap, .slice a f.kids.length cap] ∧
      (-9223372036854775808 ≤ f.kind ∧ f.kind ≤ 9223372036854775807) ∧ (-9223372036854775808 ≤ f.n ∧ f.n ≤ 9223372036854775807) ∧ f.name.size ≤ maxLen ∧
      IntOwn w (.slice sa f.scopes.length scap) f.scopes bs1 ∧ KidsOwn w a cap f.kids bs2 ∧ bs = bs1 ++ bs2 := by
  obtain ⟨sa, scap, a, cap, bs1, bs2, h1, h2, h3, h4, h5, h6, h7, h8, h9⟩ := h.form
  exact ⟨sa, scap, a, cap, bs1, bs2, h1, h2, h3, h4, h5, ⟨h6, h7, h9⟩, h8⟩
theorem OwnV.mk {w : World} {f : Fm} {sa a : Option Addr} {scap cap : Nat} {bs1 bs2 : List Nat}
    (hk : -9223372036854775808 ≤ f.kind ∧ f.kind ≤ 9223372036854775807) (hn : -9223372036854775808 ≤ f.n ∧ f.n ≤ 9223372036854775807) (hnm : f.name.size ≤ maxLen)
    (hs : IntOwn w (.slice sa f.scopes.length scap) f.scopes bs1) (hks : KidsOwn w a cap f.kids bs2) :
    OwnV w f (.agg #[.int .i64 f.kind, .string f.name, .int .i64 f.n, .slice sa f.scopes.length scap, .slice a f.kids.length cap]) (bs1 ++ bs2) := by
  cases f with
  | mk k nm n sc ks =>
    unfold OwnV
    exact ⟨_, a, cap, bs1, bs2, rfl, hk, hn, hnm, hs, hks.1, hks.2.1, rfl, hks.2.2⟩
/-- a row of forms, its first j marked -/
structure MarkMid (w wr : World) (b off : Nat) (ks : List Fm) (k : Int) (j : Nat) (bs : List Nat) : Prop where
  only : Only (b :: bs) w wr
  rows : ∃ bs1 bs2, bs = bs1 ++ bs2 ∧ RowOwn wr b off (markedAll (ks.take j) k) bs1 ∧ RowOwn wr b (off + j * 5) (ks.drop j) bs2
theorem MarkMid.start {w : World} {b off : Nat} {ks : List Fm} {k : Int} {bs : List Nat} (h : RowOwn w b off ks bs) : MarkMid w w b off ks k 0 bs :=
  ⟨Only.refl _ _, [], bs, rfl, by simp [markedAll, RowOwn], by simpa using h⟩
theorem MarkMid.ends {w wr : World} {b off : Nat} {ks : List Fm} {k : Int} {bs : List Nat} (h : MarkMid w wr b off ks k ks.length bs) : RowOwn wr b off (markedAll ks k) bs := by
  obtain ⟨bs1, bs2, rfl, h1, h2⟩ := h.rows
  rw [List.take_length] at h1
  rw [List.drop_length] at h2
  unfold RowOwn at h2
  rw [h2, List.append_nil]
  exact h1
theorem MarkMid.step {w wr : World} {b off : Nat} {ks : List Fm} {k : Int} {j : Nat} {bs : List Nat} (h : MarkMid w wr b off ks k j bs) (hj : j < ks.length) (hnd : (b :: bs).Nodup)
    (hlt : ∀ c ∈ b :: bs, c < w.heap.size) (hk : 1 ≤ k) (hk2 : k + marksAll ks ≤ 1099511627776) :
    ∃ sa scap a cap bsc bsk,
      wr.cell? ⟨b, off + j * 5, none⟩ = some (.int .i64 ks[j].kind) ∧ wr.cell? ⟨b, off + j * 5 + 1, none⟩ = some (.string ks[j].name) ∧ wr.cell? ⟨b, off + j * 5 + 2, none⟩ = some (.int .i64 ks[j].n) ∧
      wr.cell? ⟨b, off + j * 5 + 3, none⟩ = some (.slice sa ks[j].scopes.length scap) ∧ wr.cell? ⟨b, off + j * 5 + 4, none⟩ = some (.slice a ks[j].kids.length cap) ∧
      (∀ i, i < 5 → wr.frozen? ⟨b, off + j * 5 + i, none⟩ = false) ∧ b < wr.heap.size ∧ b ∉ bsc ∧ b ∉ bsk ∧ (∀ c ∈ bsc, c < wr.heap.size) ∧ (∀ c ∈ bsk, c < wr.heap.size) ∧ bsk.Nodup ∧
      ∀ (t : ByteArray) (W2 : World), Below wr.heap.size (wr.setCell ⟨b, off + j * 5, none⟩ (.int .i64 (k + marksAll (ks.take j)))) W2 →
        IntOwn ((W2.setCell ⟨b, off + j * 5 + 1, none⟩ (.string t)).setCell ⟨b, off + j * 5 + 2, none⟩ (.int .i64 (k + marksAll (ks.take j) + 1 + 1))) (.slice sa ks[j].scopes.length scap) ks[j].scopes bsc ∧
        ∀ W4, Only bsc ((W2.setCell ⟨b, off + j * 5 + 1, none⟩ (.string t)).setCell ⟨b, off + j * 5 + 2, none⟩ (.int .i64 (k + marksAll (ks.take j) + 1 + 1))) W4 →
          IntOwn W4 (.slice sa ks[j].scopes.length scap) (ramp (k + marksAll (ks.take j) + 1 + 1 + 1) ks[j].scopes.length) bsc →
          KidsOwn W4 a cap ks[j].kids bsk ∧ W4.cell? ⟨b, off + j * 5 + 4, none⟩ = some (.slice a ks[j].kids.length cap) ∧ (∀ c ∈ bsk, c < W4.heap.size) ∧
          (t = mtext (k + marksAll (ks.take j) + 1) → ∀ W5, Only bsk W4 W5 → KidsOwn W5 a cap (markedAll ks[j].kids (k + marksAll (ks.take j) + 1 + 1 + 1 + ks[j].scopes.length)) bsk → MarkMid w W5 b off ks k (j + 1) bs) := by
  obtain ⟨hO, bs1, bs2, rfl, h1, h2⟩ := h
  rw [List.drop_eq_getElem_cons hj] at h2
  obtain ⟨sa, scap, a, cap, cs1, cs2, rfl, c0, c1, c2, c3, c4, hf, hown, hrest⟩ := h2.head
  obtain ⟨sa', scap', a', cap', bsc, bsk, e, hkd, hn, hnm, hsc, hkids, rfl⟩ := hown.kids
  injection e with e
  injection e with e
  simp only [List.cons.injEq, and_true, Value.slice.injEq, true_and] at e
  obtain ⟨⟨rfl, rfl⟩, rfl, rfl⟩ := e
  have hndc := List.nodup_cons.1 hnd
  have hb : b ∉ bs1 ∧ b ∉ bsc ∧ b ∉ bsk ∧ b ∉ cs2 := by
    have := hndc.1
    simp only [List.mem_append, not_or] at this
    exact ⟨this.1, this.2.1.1, this.2.1.2, this.2.2⟩
  obtain ⟨nd1, nd2, nd3⟩ := List.nodup_append.1 hndc.2
  obtain ⟨nd4, nd5, nd6⟩ := List.nodup_append.1 nd2
  obtain ⟨nd7, nd8, nd9⟩ := List.nodup_append.1 nd4
  have hsz : ∀ c, c ∈ b :: (bs1 ++ (bsc ++ bsk ++ cs2)) → c < wr.heap.size := fun c hc => Nat.lt_of_lt_of_le (hlt c hc) hO.size
  have mc : ∀ c ∈ bsc, c ∈ b :: (bs1 ++ (bsc ++ bsk ++ cs2)) := fun c hc => by simp [hc]
  have mk : ∀ c ∈ bsk, c ∈ b :: (bs1 ++ (bsc ++ bsk ++ cs2)) := fun c hc => by simp [hc]
  have m1 : ∀ c ∈ bs1, c ∈ b :: (bs1 ++ (bsc ++ bsk ++ cs2)) := fun c hc => by simp [hc]
  have m2 : ∀ c ∈ cs2, c ∈ b :: (bs1 ++ (bsc ++ bsk ++ cs2)) := fun c hc => by simp [hc]
  refine ⟨sa, scap, a, cap, bsc, bsk, c0, c1, c2, c3, c4, hf, hsz b (by simp), hb.2.1, hb.2.2.1, fun c hc => hsz c (mc c hc), fun c hc => hsz c (mk c hc), nd8, ?_⟩
  intro t W2 hW2
  have hW1s : (wr.setCell ⟨b, off + j * 5, none⟩ (.int .i64 (k + marksAll (ks.take j)))).heap.size = wr.heap.size := by simp [World.setCell]
  have s3 : ∀ c, c < wr.heap.size → c ≠ b → ((W2.setCell ⟨b, off + j * 5 + 1, none⟩ (.string t)).setCell ⟨b, off + j * 5 + 2, none⟩ (.int .i64 (k + marksAll (ks.take j) + 1 + 1))).heap[c]? = wr.heap[c]? := fun c hc hn => by
    rw [Below.heap_setCell _ _ _ _ hn, Below.heap_setCell _ _ _ _ hn, hW2.block c hc, Below.heap_setCell _ _ _ _ hn]
  have hsz3 : wr.heap.size ≤ ((W2.setCell ⟨b, off + j * 5 + 1, none⟩ (.string t)).setCell ⟨b, off + j * 5 + 2, none⟩ (.int .i64 (k + marksAll (ks.take j) + 1 + 1))).heap.size := by
    have := hW2.size
    rw [hW1s] at this
    simpa [World.setCell] using this
  have hbz := hsz b (by simp)
  refine ⟨hsc.later fun c hc => s3 c (hsz c (mc c hc)) (fun e => hb.2.1 (e ▸ hc)), ?_⟩
  intro W4 hO4 hI4
  -- the cells of the row itself
  have g2c : ∀ i, W2.cell? ⟨b, i, none⟩ = (wr.setCell ⟨b, off + j * 5, none⟩ (.int .i64 (k + marksAll (ks.take j)))).cell? ⟨b, i, none⟩ := fun i => hW2.cell (p := ⟨b, i, none⟩) hbz
  have g2f : ∀ i, W2.frozen? ⟨b, i, none⟩ = (wr.setCell ⟨b, off + j * 5, none⟩ (.int .i64 (k + marksAll (ks.take j)))).frozen? ⟨b, i, none⟩ := fun i => hW2.frozen (p := ⟨b, i, none⟩) hbz
  have s4 : ∀ c, c < wr.heap.size → c ≠ b → c ∉ bsc → W4.heap[c]? = wr.heap[c]? := fun c hc hn hm => by
    rw [hO4.block c (by omega) hm, s3 c hc hn]
  have g4b := hO4.block b (Nat.lt_of_lt_of_le hbz hsz3) hb.2.1
  have hsz4 := hO4.size
  have out4 : ∀ i, (i < off + j * 5 ∨ off + j * 5 + 3 ≤ i) → W4.cell? ⟨b, i, none⟩ = wr.cell? ⟨b, i, none⟩ := fun i hi => by
    rw [World.cell?_of_block (a := ⟨b, i, none⟩) g4b, World.cell?_setCell_other _ _ _ _ (addr_ne (by omega)), World.cell?_setCell_other _ _ _ _ (addr_ne (by omega)), g2c, World.cell?_setCell_other _ _ _ _ (addr_ne (by omega))]
  have fr4 : ∀ i, W4.frozen? ⟨b, i, none⟩ = wr.frozen? ⟨b, i, none⟩ := fun i => by
    rw [World.frozen?_of_block (a := ⟨b, i, none⟩) g4b, World.frozen?_setCell, World.frozen?_setCell, g2f, World.frozen?_setCell]
  have in0 : W4.cell? ⟨b, off + j * 5, none⟩ = some (.int .i64 (k + marksAll (ks.take j))) := by
    rw [World.cell?_of_block (a := ⟨b, off + j * 5, none⟩) g4b, World.cell?_setCell_other _ _ _ _ (addr_ne (by omega)), World.cell?_setCell_other _ _ _ _ (addr_ne (by omega)), g2c, World.cell?_setCell_same _ _ _ c0]
  have in1 : W4.cell? ⟨b, off + j * 5 + 1, none⟩ = some (.string t) := by
    rw [World.cell?_of_block (a := ⟨b, off + j * 5 + 1, none⟩) g4b, World.cell?_setCell_other _ _ _ _ (addr_ne (by omega))]
    exact World.cell?_setCell_same _ _ _ (u := .string ks[j].name) (by rw [g2c, World.cell?_setCell_other _ _ _ _ (addr_ne (by omega))]; exact c1)
  have in2 : W4.cell? ⟨b, off + j * 5 + 2, none⟩ = some (.int .i64 (k + marksAll (ks.take j) + 1 + 1)) := by
    rw [World.cell?_of_block (a := ⟨b, off + j * 5 + 2, none⟩) g4b]
    exact World.cell?_setCell_same _ _ _ (u := .int .i64 ks[j].n) (by rw [World.cell?_setCell_other _ _ _ _ (addr_ne (by omega)), g2c, World.cell?_setCell_other _ _ _ _ (addr_ne (by omega))]; exact c2)
  have in4 := (out4 (off + j * 5 + 4) (by omega)).trans c4
  refine ⟨hkids.later fun c hc => s4 c (hsz c (mk c hc)) (fun e => hb.2.2.1 (e ▸ hc)) (fun hm => nd9 c hm c hc rfl), in4, fun c hc => by have := hsz c (mk c hc); omega, ?_⟩
  intro ht W5 hO5 hK5
  have s5 : ∀ c, c < wr.heap.size → c ≠ b → c ∉ bsc → c ∉ bsk → W5.heap[c]? = wr.heap[c]? := fun c hc hn hm hm2 => by
    rw [hO5.block c (by omega) hm2, s4 c hc hn hm]
  have g5b := hO5.block b (by omega) hb.2.2.1
  have c5 : ∀ i, W5.cell? ⟨b, i, none⟩ = W4.cell? ⟨b, i, none⟩ := fun i => World.cell?_of_block (a := ⟨b, i, none⟩) g5b
  have f5 : ∀ i, W5.frozen? ⟨b, i, none⟩ = wr.frozen? ⟨b, i, none⟩ := fun i => (World.frozen?_of_block (a := ⟨b, i, none⟩) g5b).trans (fr4 i)
  have hlen : (markedAll (ks.take j) k).length = j := by rw [markedAll_length, List.length_take]; omega
  have hmt := marksAll_take_succ ks j hj
  have hml := marksAll_take_le ks (j + 1)
  have hme := marks_eq ks[j]
  refine ⟨?_, bs1 ++ (bsc ++ bsk), cs2, by simp, ?_, ?_⟩
  · refine hO.trans ?_
    have o1 : Only (b :: (bs1 ++ (bsc ++ bsk ++ cs2))) wr ((W2.setCell ⟨b, off + j * 5 + 1, none⟩ (.string t)).setCell ⟨b, off + j * 5 + 2, none⟩ (.int .i64 (k + marksAll (ks.take j) + 1 + 1))) :=
      ((((Only.refl _ wr).setCell b (off + j * 5) _ (by simp)).trans (Only.of_below (by rw [hW1s]; exact hW2))).setCell b _ _ (by simp)).setCell b _ _ (by simp)
    exact (o1.trans (hO4.mono mc)).trans (hO5.mono mk)
  · rw [markedAll_take_succ ks k j hj]
    refine RowOwn.snoc (c0 := .int .i64 (k + marksAll (ks.take j))) (c1 := .string t) (c2 := .int .i64 (k + marksAll (ks.take j) + 1 + 1)) (c3 := .slice sa ks[j].scopes.length scap) (c4 := .slice a ks[j].kids.length cap)
      (RowOwn.upto (w := wr) (fun c hc => s5 c (hsz c (m1 c hc)) (fun e => hb.1 (e ▸ hc)) (fun hm => nd3 c hc c (by simp [hm]) rfl) (fun hm => nd3 c hc c (by simp [hm]) rfl))
        (fun i h1 h2 => ⟨by rw [c5, out4 i (by rw [hlen] at h2; omega)], f5 i⟩) h1) ?_ ?_ ?_ ?_ ?_ ?_ ?_
    · rw [hlen, c5]; exact in0
    · rw [hlen, c5]; exact in1
    · rw [hlen, c5]; exact in2
    · rw [hlen, c5, out4 _ (by omega)]; exact c3
    · rw [hlen, c5, out4 _ (by omega)]; exact c4
    · intro i hi; rw [hlen, f5]; exact hf i hi
    · have e1 : (ramp (k + marksAll (ks.take j) + 1 + 1 + 1) ks[j].scopes.length).length = ks[j].scopes.length := ramp_length _ _
      have e2 : (markedAll ks[j].kids (k + marksAll (ks.take j) + 1 + 1 + 1 + ks[j].scopes.length)).length = ks[j].kids.length := markedAll_length _ _
      have k0 : Fm.kind (markedAt ks[j] (k + marksAll (ks.take j))) = k + marksAll (ks.take j) := rfl
      have k2 : Fm.n (markedAt ks[j] (k + marksAll (ks.take j))) = k + marksAll (ks.take j) + 1 + 1 := rfl
      have := OwnV.mk (w := W5) (f := markedAt ks[j] (k + marksAll (ks.take j))) (sa := sa) (a := a) (scap := scap) (cap := cap) (bs1 := bsc) (bs2 := bsk)
        (by rw [k0]; omega) (by rw [k2]; omega) (by show (mtext _).size ≤ maxLen; have := mtext_size (k + marksAll (ks.take j) + 1); unfold maxLen; omega)
        (by show IntOwn W5 (.slice sa (ramp (k + marksAll (ks.take j) + 1 + 1 + 1) ks[j].scopes.length).length scap) _ _
            rw [e1]
            exact hI4.later fun c hc => hO5.block c (by have := hsz c (mc c hc); omega) (fun hm => nd9 c hc c hm rfl))
        hK5
      have e3 : Fm.scopes (markedAt ks[j] (k + marksAll (ks.take j))) = ramp (k + marksAll (ks.take j) + 1 + 1 + 1) ks[j].scopes.length := rfl
      have e4 : Fm.kids (markedAt ks[j] (k + marksAll (ks.take j))) = markedAll ks[j].kids (k + marksAll (ks.take j) + 1 + 1 + 1 + ks[j].scopes.length) := rfl
      rw [e3, e4, e1, e2] at this
      rw [ht]
      exact this
  · rw [show off + (j + 1) * 5 = off + j * 5 + 5 from by omega]
    exact RowOwn.upto (w := wr) (fun c hc => s5 c (hsz c (m2 c hc)) (fun e => hb.2.2.2 (e ▸ hc)) (fun hm => nd6 c (by simp [hm]) c hc rfl) (fun hm => nd6 c (by simp [hm]) c hc rfl))
      (fun i h1 h2 => ⟨by rw [c5, out4 i (by omega)], f5 i⟩) hrest
/-- a row that reads as marked: one element -/
theorem RowIn.markedCells {φ : Nat → Prop} {w : World} {b off : Nat} {ks : List Fm} {k : Int} (h : RowIn φ w b off (markedAll ks k)) (j : Nat) (hj : j < ks.length) :
    ∃ sa scap a cap, w.cell? ⟨b, off + j * 5, none⟩ = some (.int .i64 (k + marksAll (ks.take j))) ∧ w.cell? ⟨b, off + j * 5 + 1, none⟩ = some (.string (mtext (k + marksAll (ks.take j) + 1))) ∧
      w.cell? ⟨b, off + j * 5 + 2, none⟩ = some (.int .i64 (k + marksAll (ks.take j) + 1 + 1)) ∧ w.cell? ⟨b, off + j * 5 + 3, none⟩ = some (.slice sa ks[j].scopes.length scap) ∧
      w.cell? ⟨b, off + j * 5 + 4, none⟩ = some (.slice a ks[j].kids.length cap) ∧ IntRow φ w (.slice sa ks[j].scopes.length scap) (ramp (k + marksAll (ks.take j) + 1 + 1 + 1) ks[j].scopes.length) ∧
      ks[j].kids.length ≤ cap ∧ cap ≤ maxLen ∧ (markedAll ks[j].kids (k + marksAll (ks.take j) + 1 + 1 + 1 + ks[j].scopes.length) = [] ∨
        ∃ kb koff, a = some ⟨kb, koff, none⟩ ∧ φ kb ∧ RowIn φ w kb koff (markedAll ks[j].kids (k + marksAll (ks.take j) + 1 + 1 + 1 + ks[j].scopes.length))) := by
  obtain ⟨sa, scap, a, cap, c0, c1, c2, c3, c4, hin⟩ := h.at' j (by rw [markedAll_length]; exact hj)
  rw [markedAll_get ks k j hj] at c0 c1 c2 c3 c4 hin
  have e1 : (Fm.scopes (markedAt ks[j] (k + marksAll (ks.take j)))).length = ks[j].scopes.length := ramp_length _ _
  have e2 : (Fm.kids (markedAt ks[j] (k + marksAll (ks.take j)))).length = ks[j].kids.length := markedAll_length _ _
  rw [e1] at c3 hin
  rw [e2] at c4 hin
  unfold markedAt InV at hin
  obtain ⟨vs, a', cap', e, _, _, _, hsc, hl, hm, hks⟩ := hin
  injection e with e
  injection e with e
  simp only [List.cons.injEq, and_true, Value.slice.injEq] at e
  obtain ⟨_, _, _, rfl, rfl, _, rfl⟩ := e
  rw [markedAll_length] at hl
  exact ⟨sa, scap, a, cap, c0, c1, c2, c3, c4, hsc, hl, hm, hks⟩
theorem OwnV.markedMk {w : World} {f : Fm} {k : Int} {sa a : Option Addr} {scap cap : Nat} {bs1 bs2 : List Nat}
    (hk : -9223372036854775808 ≤ f.kind ∧ f.kind ≤ 9223372036854775807) (hn : -9223372036854775808 ≤ f.n ∧ f.n ≤ 9223372036854775807) (hnm : f.name.size ≤ maxLen)
    (hs : IntOwn w (.slice sa f.scopes.length scap) (ramp k f.scopes.length) bs1) (hks : KidsOwn w a cap (markedAll f.kids (k + f.scopes.length)) bs2) :
    OwnV w (f.marked k) (.agg #[.int .i64 f.kind, .string f.name, .int .i64 f.n, .slice sa f.scopes.length scap, .slice a f.kids.length cap]) (bs1 ++ bs2) := by
  cases f with
  | mk kd nm n sc ks =>
    have e2 : (markedAll ks (k + sc.length)).length = ks.length := markedAll_length _ _
    simp only [Fm.kind, Fm.name, Fm.n, Fm.scopes, Fm.kids] at *
    unfold Fm.marked OwnV
    exact ⟨_, a, cap, bs1, bs2, by rw [e2], hk, hn, hnm, hs, hks.1, hks.2.1, rfl, hks.2.2⟩
/-- the marks of a form, read -/
theorem InV.markedParts {φ : Nat → Prop} {w : World} {f : Fm} {k : Int} {v : Value} (h : InV φ w (f.marked k) v) :
    ∃ sa scap a cap, v = .agg #[.int .i64 f.kind, .string f.name, .int .i64 f.n, .slice sa f.scopes.length scap, .slice a f.kids.length cap] ∧
      IntRow φ w (.slice sa f.scopes.length scap) (ramp k f.scopes.length) ∧ f.kids.length ≤ cap ∧ cap ≤ maxLen ∧
      (markedAll f.kids (k + f.scopes.length) = [] ∨ ∃ kb koff, a = some ⟨kb, koff, none⟩ ∧ φ kb ∧ RowIn φ w kb koff (markedAll f.kids (k + f.scopes.length))) := by
  cases f with
  | mk kd nm n sc ks =>
    unfold Fm.marked InV at h
    obtain ⟨vs, a, cap, rfl, _, _, _, hsc, hl, hm, hks⟩ := h
    have hsc' := hsc
    obtain ⟨sa, scap, rfl, _⟩ := hsc'
    rw [markedAll_length] at hl
    rw [ramp_length] at hsc
    exact ⟨sa, scap, a, cap, by rw [ramp_length, markedAll_length]; rfl, hsc, hl, hm, hks⟩
end
end Go.Proofs.Ytbclgmabidjegaa
namespace Go.Proofs.Ytbclgmabidjegaa
section
open Go.RowKit
/-- the five cells of a form at the head of a block -/
def FormBox (w : World) (b : Nat) (f : Fm) (sa : Option Addr) (scap : Nat) (a : Option Addr) (cap : Nat) : Prop :=
  w.cell? ⟨b, 0, none⟩ = some (.int .i64 f.kind) ∧ w.cell? ⟨b, 1, none⟩ = some (.string f.name) ∧ w.cell? ⟨b, 2, none⟩ = some (.int .i64 f.n) ∧
    w.cell? ⟨b, 3, none⟩ = some (.slice sa f.scopes.length scap) ∧ w.cell? ⟨b, 4, none⟩ = some (.slice a f.kids.length cap)
theorem FormBox.later {w w' : World} {b : Nat} {f : Fm} {sa a : Option Addr} {scap cap : Nat} (h : FormBox w b f sa scap a cap) (hb : Below w.heap.size w w') : FormBox w' b f sa scap a cap :=
  ⟨cell_later' hb h.1, cell_later' hb h.2.1, cell_later' hb h.2.2.1, cell_later' hb h.2.2.2.1, cell_later' hb h.2.2.2.2⟩
theorem FormBox.lt {w : World} {b : Nat} {f : Fm} {sa a : Option Addr} {scap cap : Nat} (h : FormBox w b f sa scap a cap) : b < w.heap.size := cell_lt h.1
theorem FormBox.fresh (w : World) (f : Fm) (sa a : Option Addr) (scap cap : Nat) (t : TypeId) :
    FormBox (w.alloc (.cells #[.int .i64 f.kind, .string f.name, .int .i64 f.n, .slice sa f.scopes.length scap, .slice a f.kids.length cap] t)) w.heap.size f sa scap a cap :=
  ⟨World.cell?_alloc_at _ _ _ _ rfl, World.cell?_alloc_at _ _ _ _ rfl, World.cell?_alloc_at _ _ _ _ rfl, World.cell?_alloc_at _ _ _ _ rfl, World.cell?_alloc_at _ _ _ _ rfl⟩
theorem below_alloc (w : World) (o : Obj) : Below w.heap.size w (w.alloc o) := (Below.refl _ w).alloc (Nat.le_refl _) _
theorem FormBox.only {bs : List Nat} {w w' : World} {b : Nat} {f : Fm} {sa a : Option Addr} {scap cap : Nat} (h : FormBox w b f sa scap a cap) (ho : Only bs w w') (hn : b ∉ bs) : FormBox w' b f sa scap a cap := by
  have hb := ho.block b h.lt hn
  exact ⟨(World.cell?_of_block (a := ⟨b, 0, none⟩) hb).trans h.1, (World.cell?_of_block (a := ⟨b, 1, none⟩) hb).trans h.2.1, (World.cell?_of_block (a := ⟨b, 2, none⟩) hb).trans h.2.2.1,
    (World.cell?_of_block (a := ⟨b, 3, none⟩) hb).trans h.2.2.2.1, (World.cell?_of_block (a := ⟨b, 4, none⟩) hb).trans h.2.2.2.2⟩
/-- two forms' cells -/
def TwoBox (b c : Nat) (f g : Fm) (sa a sa' a' : Option Addr) (scap cap scap' cap' : Nat) (w : World) : Prop := FormBox w b f sa scap a cap ∧ FormBox w c g sa' scap' a' cap'
theorem TwoBox.later {b c : Nat} {f g : Fm} {sa a sa' a' : Option Addr} {scap cap scap' cap' : Nat} {w w' : World} (h : TwoBox b c f g sa a sa' a' scap cap scap' cap' w) (hb : Below w.heap.size w w') :
    TwoBox b c f g sa a sa' a' scap cap scap' cap' w' := ⟨h.1.later hb, h.2.later hb⟩
theorem below_drew {w w' : World} (h : Below w.drew.heap.size w.drew w') : Below w.heap.size w w' := ((Below.refl w.heap.size w).drew).trans h
end
end Go.Proofs.Ytbclgmabidjegaa
namespace Go.Proofs.Ytbclgmabidjegaa
section
open Go.RowKit
set_option linter.unusedVariables false
mutual
/-- equal at every level -/
def sameB : Fm → Fm → Bool
  | .mk k nm n sc ks, .mk k' nm' n' sc' ks' => k == k' && (nm.data.toList == nm'.data.toList) && n == n' && sc == sc' && sameAll ks ks'
def sameAll : List Fm → List Fm → Bool
  | [], [] => true
  | f :: r, g :: s => sameB f g && sameAll r s
  | _, _ => false
end
theorem sameAll_length : ∀ {ks ls : List Fm}, sameAll ks ls = true → ks.length = ls.length
  | [], [], _ => rfl
  | f :: r, g :: s, h => by
    simp only [sameAll, Bool.and_eq_true] at h
    simp [sameAll_length h.2]
  | [], _ :: _, h => by simp [sameAll] at h
  | _ :: _, [], h => by simp [sameAll] at h
theorem sameAll_take_succ : ∀ (ks ls : List Fm) (j : Nat) (h1 : j < ks.length) (h2 : j < ls.length),
    sameAll (ks.take (j + 1)) (ls.take (j + 1)) = (sameAll (ks.take j) (ls.take j) && sameB ks[j] ls[j])
  | f :: r, g :: s, 0, _, _ => by simp [sameAll]
  | f :: r, g :: s, j + 1, h1, h2 => by
    have := sameAll_take_succ r s j (by simpa using h1) (by simpa using h2)
    simp only [List.take_succ_cons, sameAll, List.getElem_cons_succ, this, Bool.and_assoc]
theorem sameAll_take : ∀ (ks ls : List Fm) (j : Nat), sameAll ks ls = true → sameAll (ks.take j) (ls.take j) = true
  | [], [], _, _ => by simp [sameAll]
  | f :: r, g :: s, 0, _ => by simp [sameAll]
  | f :: r, g :: s, j + 1, h => by
    simp only [sameAll, Bool.and_eq_true, List.take_succ_cons] at h ⊢
    exact ⟨h.1, sameAll_take r s j h.2⟩
  | [], _ :: _, _, h => by simp [sameAll] at h
  | _ :: _, [], _, h => by simp [sameAll] at h
theorem sameAll_no {ks ls : List Fm} (j : Nat) (h : sameAll (ks.take j) (ls.take j) = false) : sameAll ks ls = false := by
  cases hs : sameAll ks ls with
  | false => rfl
  | true => rw [sameAll_take ks ls j hs] at h; cases h
mutual
theorem sameB_refl : ∀ f : Fm, sameB f f = true
  | .mk k nm n sc ks => by simp [sameB, sameAll_refl ks]
theorem sameAll_refl : ∀ ks : List Fm, sameAll ks ks = true
  | [] => rfl
  | f :: r => by simp [sameAll, sameB_refl f, sameAll_refl r]
end
mutual
theorem sameB_symm : ∀ f g : Fm, sameB f g = sameB g f
  | .mk k nm n sc ks, .mk k' nm' n' sc' ks' => by
    simp only [sameB, sameAll_symm ks ks']
    rw [Bool.eq_iff_iff]
    simp only [Bool.and_eq_true, beq_iff_eq]
    constructor
    · rintro ⟨⟨⟨⟨rfl, h⟩, rfl⟩, rfl⟩, h2⟩; exact ⟨⟨⟨⟨rfl, h.symm⟩, rfl⟩, rfl⟩, h2⟩
    · rintro ⟨⟨⟨⟨rfl, h⟩, rfl⟩, rfl⟩, h2⟩; exact ⟨⟨⟨⟨rfl, h.symm⟩, rfl⟩, rfl⟩, h2⟩
theorem sameAll_symm : ∀ ks ls : List Fm, sameAll ks ls = sameAll ls ks
  | [], [] => rfl
  | f :: r, g :: s => by simp [sameAll, sameB_symm f g, sameAll_symm r s]
  | [], _ :: _ => by simp [sameAll]
  | _ :: _, [] => by simp [sameAll]
end
theorem take_beq_succ (l m : List Int) (j : Nat) (h1 : j < l.length) (h2 : j < m.length) : (l.take (j + 1) == m.take (j + 1)) = (l.take j == m.take j && l[j] == m[j]) := by
  induction l generalizing m j with
  | nil => simp at h1
  | cons x r ih =>
    cases m with
    | nil => simp at h2
    | cons y s =>
      cases j with
      | zero => simp
      | succ j =>
        have := ih s j (by simpa using h1) (by simpa using h2)
        have g1 : j < r.length := by simpa using h1
        have g2 : j < s.length := by simpa using h2
        simp only [List.take_succ_cons, List.getElem_cons_succ]
        show (x == y && (r.take (j + 1) == s.take (j + 1))) = ((x == y && (r.take j == s.take j)) && r[j] == s[j])
        rw [this, Bool.and_assoc]
theorem beq_no (l m : List Int) (j : Nat) (h : (l.take j == m.take j) = false) : (l == m) = false := by
  rw [beq_eq_false_iff_ne] at h ⊢
  intro e; exact h (by rw [e])
end
end Go.Proofs.Ytbclgmabidjegaa
namespace Go.Proofs.Ytbclgmabidjegaa
section
open Go.RowKit
/-- the form that lies at an address -/
def NodeAt (φ : Nat → Prop) (w : World) (p : Addr) (f : Fm) : Prop :=
  ∃ b o, p = ⟨b, o, none⟩ ∧ φ b ∧ ∃ sa scap a cap, w.cell? ⟨b, o, none⟩ = some (.int .i64 f.kind) ∧ w.cell? ⟨b, o + 1, none⟩ = some (.string f.name) ∧
      w.cell? ⟨b, o + 2, none⟩ = some (.int .i64 f.n) ∧ w.cell? ⟨b, o + 3, none⟩ = some (.slice sa f.scopes.length scap) ∧
      w.cell? ⟨b, o + 4, none⟩ = some (.slice a f.kids.length cap) ∧
      InV φ w f (.agg #[.int .i64 f.kind, .string f.name, .int .i64 f.n, .slice sa f.scopes.length scap, .slice a f.kids.length cap])
theorem NodeAt.later {φ : Nat → Prop} {w w' : World} {p : Addr} {f : Fm} (h : NodeAt φ w p f) (hs : Same φ w w') : NodeAt φ w' p f := by
  obtain ⟨b, o, rfl, hb, sa, scap, a, cap, c0, c1, c2, c3, c4, hin⟩ := h
  exact ⟨b, o, rfl, hb, sa, scap, a, cap, by rw [hs.cell hb]; exact c0, by rw [hs.cell hb]; exact c1, by rw [hs.cell hb]; exact c2, by rw [hs.cell hb]; exact c3, by rw [hs.cell hb]; exact c4, hin.later hs⟩
theorem RowIn.node {φ : Nat → Prop} {w : World} {b off : Nat} {ks : List Fm} (h : RowIn φ w b off ks) (hb : φ b) (i : Nat) (hi : i < ks.length) : NodeAt φ w ⟨b, off + i * 5, none⟩ ks[i] := by
  obtain ⟨sa, scap, a, cap, c0, c1, c2, c3, c4, hin⟩ := h.at' i hi
  exact ⟨b, _, rfl, hb, sa, scap, a, cap, c0, c1, c2, c3, c4, hin⟩
/-- where the forms of a form lie -/
theorem InV.kids {φ : Nat → Prop} {w : World} {f : Fm} {k n : Int} {nm : ByteArray} {s : Value} {a : Option Addr} {len cap : Nat} (h : InV φ w f (.agg #[.int .i64 k, .string nm, .int .i64 n, s, .slice a len cap])) :
    f.kids.length = len ∧ f.kids.length ≤ cap ∧ cap ≤ maxLen ∧ (f.kids = [] ∨ ∃ b off, a = some ⟨b, off, none⟩ ∧ φ b ∧ RowIn φ w b off f.kids) := by
  cases f with
  | mk k nm n sc ks =>
    unfold InV at h
    obtain ⟨vs, a', cap', e, _, _, _, _, h1, h2, h3⟩ := h
    injection e with e
    injection e with e
    simp only [List.cons.injEq, and_true, Value.slice.injEq] at e
    obtain ⟨_, _, _, _, rfl, rfl, rfl⟩ := e
    exact ⟨rfl, h1, h2, h3⟩
/-- pairs still to be compared -/
abbrev Pairs := List ((Addr × Fm) × (Addr × Fm))
def cellsP (l : Pairs) : List Value := l.flatMap fun x => [.pointer (some x.1.1), .pointer (some x.2.1)]
def sameP (l : Pairs) : Bool := l.all fun x => sameB x.1.2 x.2.2
def countP : Pairs → Nat
  | [] => 0
  | x :: r => x.1.2.count + countP r
theorem cellsP_append (l m : Pairs) : cellsP (l ++ m) = cellsP l ++ cellsP m := by simp [cellsP]
theorem cellsP_length (l : Pairs) : (cellsP l).length = l.length * 2 := by
  induction l with
  | nil => rfl
  | cons x r ih =>
    show ([Value.pointer (some x.1.1), Value.pointer (some x.2.1)] ++ cellsP r).length = _
    rw [List.length_append, ih]; simp; omega
theorem countP_append (l m : Pairs) : countP (l ++ m) = countP l + countP m := by
  induction l with
  | nil => simp [countP]
  | cons x r ih => simp only [List.cons_append, countP, ih]; omega
theorem length_countP (l : Pairs) : l.length ≤ countP l := by
  induction l with
  | nil => simp
  | cons x r ih => have : 1 ≤ x.1.2.count := by cases x.1.2; unfold Fm.count; omega
                   simp only [List.length_cons, countP]; omega
theorem sameP_append (l m : Pairs) : sameP (l ++ m) = (sameP l && sameP m) := by simp [sameP]
/-- the pairs of two rows -/
def kidsP (b o b' o' : Nat) : List Fm → List Fm → Pairs
  | f :: r, g :: s => ((⟨b, o, none⟩, f), (⟨b', o', none⟩, g)) :: kidsP b (o + 5) b' (o' + 5) r s
  | _, _ => []
theorem kidsP_same (b b' : Nat) : ∀ (o o' : Nat) (ks ls : List Fm), ks.length = ls.length → sameP (kidsP b o b' o' ks ls) = sameAll ks ls
  | _, _, [], [], _ => rfl
  | o, o', f :: r, g :: s, h => by
    have := kidsP_same b b' (o + 5) (o' + 5) r s (by simpa using h)
    simp only [kidsP, sameAll, sameP, List.all_cons] at this ⊢
    rw [this]
theorem kidsP_count (b b' : Nat) : ∀ (o o' : Nat) (ks ls : List Fm), ks.length = ls.length → countP (kidsP b o b' o' ks ls) = countAll ks
  | _, _, [], [], _ => rfl
  | o, o', f :: r, g :: s, h => by
    have := kidsP_count b b' (o + 5) (o' + 5) r s (by simpa using h)
    simp only [kidsP, countP, countAll, this]
theorem kidsP_take_succ (b b' : Nat) : ∀ (o o' : Nat) (ks ls : List Fm) (j : Nat) (h1 : j < ks.length) (h2 : j < ls.length),
    kidsP b o b' o' (ks.take (j + 1)) (ls.take (j + 1)) = kidsP b o b' o' (ks.take j) (ls.take j) ++ [((⟨b, o + j * 5, none⟩, ks[j]), (⟨b', o' + j * 5, none⟩, ls[j]))]
  | o, o', f :: r, g :: s, 0, _, _ => by simp [kidsP]
  | o, o', f :: r, g :: s, j + 1, h1, h2 => by
    have := kidsP_take_succ b b' (o + 5) (o' + 5) r s j (by simpa using h1) (by simpa using h2)
    simp only [List.take_succ_cons, kidsP, this, List.cons_append, List.getElem_cons_succ]
    rw [show o + 5 + j * 5 = o + (j + 1) * 5 from by omega, show o' + 5 + j * 5 = o' + (j + 1) * 5 from by omega]
theorem kidsP_length (b b' : Nat) : ∀ (o o' : Nat) (ks ls : List Fm), ks.length = ls.length → (kidsP b o b' o' ks ls).length = ks.length
  | _, _, [], [], _ => rfl
  | o, o', f :: r, g :: s, h => by
    have := kidsP_length b b' (o + 5) (o' + 5) r s (by simpa using h)
    simp only [kidsP, List.length_cons, this]
theorem take_length_eq {α : Type} {ks ls : List α} (h : ks.length = ls.length) (j : Nat) : (ks.take j).length = (ls.take j).length := by simp [List.length_take, h]
/-- the state between two rounds of the comparison -/
structure SameMid (T : TypeId) (φ : Nat → Prop) (base : Nat) (w0 wr : World) (pb : Nat) (v : Value) (l : Pairs) : Prop where
  le : base ≤ pb
  cell : wr.cell? ⟨pb, 0, none⟩ = some v
  free : wr.frozen? ⟨pb, 0, none⟩ = false
  own : wr.ownsRow base T 2 v l.length (cellsP l)
  ne : v.ownBlock ≠ some pb
  below : Below base w0 wr
  size : base ≤ wr.heap.size
  nodes : ∀ x ∈ l, NodeAt φ w0 x.1.1 x.1.2 ∧ NodeAt φ w0 x.2.1 x.2.2
theorem SameMid.pop {T : TypeId} {φ : Nat → Prop} {base : Nat} {w0 wr : World} {pb : Nat} {v : Value} {l : Pairs} {x : (Addr × Fm) × (Addr × Fm)} (h : SameMid T φ base w0 wr pb v (l ++ [x])) :
    ∃ g cap, v = .slice (some ⟨g, 0, none⟩) (l.length + 1) cap ∧ wr.ownsRow base T 2 (.slice (some ⟨g, 0, none⟩) (l.length + 1) cap) (l.length + 1) (cellsP l ++ [.pointer (some x.1.1), .pointer (some x.2.1)]) ∧ g ≠ pb ∧ base ≤ g ∧ g < wr.heap.size := by
  have ho := h.own
  rw [List.length_append, List.length_singleton] at ho
  obtain ⟨g, cap, rfl, h1, h2⟩ := ho.form (by omega)
  refine ⟨g, cap, rfl, ?_, ?_, h1, h2⟩
  · rw [cellsP_append] at ho
    exact ho
  · intro e
    exact h.ne (by simp [Value.ownBlock, e])
theorem SameMid.popped {T : TypeId} {φ : Nat → Prop} {base : Nat} {w0 wr w' : World} {pb g cap : Nat} {v : Value} {l : Pairs} {x : (Addr × Fm) × (Addr × Fm)} (h : SameMid T φ base w0 wr pb v (l ++ [x]))
    (hc : w'.cell? ⟨pb, 0, none⟩ = some (.slice (some ⟨g, 0, none⟩) l.length cap)) (hf : w'.frozen? ⟨pb, 0, none⟩ = false) (ho : w'.ownsRow base T 2 (.slice (some ⟨g, 0, none⟩) l.length cap) l.length (cellsP l)) (hne : g ≠ pb)
    (hb : Below base wr w') : SameMid T φ base w0 w' pb (.slice (some ⟨g, 0, none⟩) l.length cap) l :=
  ⟨h.le, hc, hf, ho, by simp [Value.ownBlock, hne], h.below.trans hb, Nat.le_trans h.size hb.size, fun y hy => h.nodes y (List.mem_append_left _ hy)⟩
theorem SameMid.push {T : TypeId} {φ : Nat → Prop} {base : Nat} {w0 wr w' : World} {pb g cap g' cap' : Nat} {l : Pairs} {x : (Addr × Fm) × (Addr × Fm)} (h : SameMid T φ base w0 wr pb (.slice (some ⟨g, 0, none⟩) l.length cap) l)
    (hc : w'.cell? ⟨pb, 0, none⟩ = some (.slice (some ⟨g', 0, none⟩) (l.length + 1) cap')) (hf : w'.frozen? ⟨pb, 0, none⟩ = false)
    (ho : w'.ownsRow base T 2 (.slice (some ⟨g', 0, none⟩) (l.length + 1) cap') (l.length + 1) (cellsP l ++ [.pointer (some x.1.1), .pointer (some x.2.1)])) (hne : g' ≠ pb)
    (hb : Below base wr w') (hx : NodeAt φ w0 x.1.1 x.1.2 ∧ NodeAt φ w0 x.2.1 x.2.2) : SameMid T φ base w0 w' pb (.slice (some ⟨g', 0, none⟩) (l.length + 1) cap') (l ++ [x]) :=
  ⟨h.le, hc, hf, by rw [List.length_append, List.length_singleton, cellsP_append]; exact ho, by simp [Value.ownBlock, hne], h.below.trans hb, Nat.le_trans h.size hb.size, fun y hy => by
    rcases List.mem_append.1 hy with hy | hy
    · exact h.nodes y hy
    · rw [List.mem_singleton] at hy; subst hy; exact hx⟩
theorem SameMid.move {T T' : TypeId} {φ : Nat → Prop} {base : Nat} {w0 wr : World} {pb : Nat} {v : Value} {l : Pairs} (h : SameMid T φ base w0 wr pb v l) :
    SameMid T φ base w0 (wr.alloc (.cells #[v] T')) wr.heap.size v l :=
  ⟨h.size, World.cell?_alloc_at _ _ _ _ rfl, World.frozen?_alloc_at _ _ _ _ rfl, h.own.alloc _, fun e => by have := h.own.lt _ e; omega, h.below.alloc h.size _, by have := h.size; simp; omega, h.nodes⟩
theorem ownsRow_at {w : World} {base g : Nat} {e : TypeId} {size n m cap : Nat} {xs : List Value} (h : w.ownsRow base e size (.slice (some ⟨g, 0, none⟩) n cap) m xs) :
    base ≤ g ∧ g < w.heap.size ∧ m = n ∧ n ≤ cap ∧ cap ≤ maxLen := by
  rcases h.2 with ⟨h', _⟩ | ⟨g', cap', cur, h', hb, hg, hnc, hcm, _⟩
  · simp at h'
  · simp only [Value.slice.injEq, Option.some.injEq, Addr.mk.injEq, and_true] at h'
    obtain ⟨rfl, rfl, rfl⟩ := h'
    exact ⟨hb, (Array.getElem?_eq_some_iff.1 hg).1, rfl, hnc, hcm⟩
theorem length_countAll (ks : List Fm) : ks.length ≤ countAll ks := by
  induction ks with
  | nil => simp
  | cons f r ih => have : 1 ≤ f.count := by cases f; unfold Fm.count; omega
                   simp only [List.length_cons, countAll]; omega
theorem count_eq (f : Fm) : f.count = countAll f.kids + 1 := by cases f; simp [Fm.count, Fm.kids]
end
end Go.Proofs.Ytbclgmabidjegaa
namespace Go.Proofs.Ytbclgmabidjegaa
section
open Go.RowKit
mutual
/-- a form and the forms in it, in the order of the text -/
def Fm.pre : Fm → List Fm
  | .mk k nm n sc ks => .mk k nm n sc ks :: preAll ks
def preAll : List Fm → List Fm
  | [] => []
  | f :: r => f.pre ++ preAll r
end
theorem pre_eq (f : Fm) : f.pre = f :: preAll f.kids := by cases f; simp [Fm.pre, Fm.kids]
mutual
theorem pre_length : ∀ f : Fm, f.pre.length = f.count
  | .mk k nm n sc ks => by simp only [Fm.pre, Fm.count, List.length_cons, preAll_length ks]
theorem preAll_length : ∀ ks : List Fm, (preAll ks).length = countAll ks
  | [] => rfl
  | f :: r => by simp only [preAll, countAll, List.length_append, pre_length f, preAll_length r]
end
/-- a form as it lies: what its value says of its memory -/
structure Item where
  f : Fm
  sa : Option Addr
  scap : Nat
  a : Option Addr
  cap : Nat
def Item.val (x : Item) : Value := .agg #[.int .i64 x.f.kind, .string x.f.name, .int .i64 x.f.n, .slice x.sa x.f.scopes.length x.scap, .slice x.a x.f.kids.length x.cap]
def Item.cells (x : Item) : List Value := [.int .i64 x.f.kind, .string x.f.name, .int .i64 x.f.n, .slice x.sa x.f.scopes.length x.scap, .slice x.a x.f.kids.length x.cap]
def rowOf (st : List Item) : List Value := st.flatMap Item.cells
theorem rowOf_length (st : List Item) : (rowOf st).length = st.length * 5 := by
  induction st with
  | nil => rfl
  | cons x r ih => simp only [rowOf, List.flatMap_cons, List.length_append, List.length_cons] at *; rw [ih]; simp [Item.cells]; omega
theorem rowOf_snoc (st : List Item) (x : Item) : rowOf (st ++ [x]) = rowOf st ++ x.cells := by simp [rowOf]
/-- what is still to be visited: the stack's top comes first -/
def preS (st : List Item) : List Fm := st.reverse.flatMap fun x => x.f.pre
theorem preS_snoc (st : List Item) (x : Item) : preS (st ++ [x]) = x.f.pre ++ preS st := by simp [preS]
theorem preS_kids (st its : List Item) : preS (st ++ its.reverse) = its.flatMap (fun x => x.f.pre) ++ preS st := by simp [preS]
theorem preAll_items : ∀ (its : List Item), preAll (its.map (·.f)) = its.flatMap fun x => x.f.pre
  | [] => rfl
  | x :: r => by simp only [List.map_cons, preAll, List.flatMap_cons, preAll_items r]
def countS (st : List Item) : Nat := (preS st).length
theorem countS_snoc (st : List Item) (x : Item) : countS (st ++ [x]) = x.f.count + countS st := by unfold countS; rw [preS_snoc, List.length_append, pre_length]
theorem length_countS : ∀ st : List Item, st.length ≤ countS st := by
  intro st
  unfold countS preS
  rw [← List.length_reverse]
  generalize st.reverse = l
  induction l with
  | nil => simp
  | cons x r ih =>
    rw [List.flatMap_cons, List.length_append, pre_length, List.length_cons]
    have : 1 ≤ x.f.count := by cases x.f; unfold Fm.count; omega
    omega
/-- the places of a list, from its end on -/
def downF (n : Nat) : List (Fin n) := (List.finRange n).reverse
theorem downF_length (n : Nat) : (downF n).length = n := by simp [downF]
theorem downF_take (n k : Nat) (h : k < n) : (downF n).take (k + 1) = (downF n).take k ++ [⟨n - 1 - k, by omega⟩] := by
  rw [List.take_succ_eq_append_getElem (by rw [downF_length]; exact h)]
  congr 1
  simp [downF, List.getElem_reverse]
theorem downF_all (n : Nat) : (downF n).take n = downF n := List.take_of_length_le (by rw [downF_length]; omega)
/-- the kids of a form that reads, as they lie -/
theorem kid_items {B : Nat} {w : World} {x : Item} (h : InV (· < B) w x.f x.val) : ∃ its : Fin x.f.kids.length → Item, (∀ i, (its i).f = x.f.kids[i.val] ∧ InV (· < B) w (its i).f (its i).val) ∧
    (0 < x.f.kids.length → ∃ b off, x.a = some ⟨b, off, none⟩ ∧ b < B ∧ ∀ i : Fin x.f.kids.length, w.cell? ⟨b, off + i.val * 5, none⟩ = some (.int .i64 (its i).f.kind) ∧ w.cell? ⟨b, off + i.val * 5 + 1, none⟩ = some (.string (its i).f.name) ∧
      w.cell? ⟨b, off + i.val * 5 + 2, none⟩ = some (.int .i64 (its i).f.n) ∧ w.cell? ⟨b, off + i.val * 5 + 3, none⟩ = some (.slice (its i).sa (its i).f.scopes.length (its i).scap) ∧ w.cell? ⟨b, off + i.val * 5 + 4, none⟩ = some (.slice (its i).a (its i).f.kids.length (its i).cap)) ∧
    x.f.kids.length ≤ x.cap ∧ x.cap ≤ maxLen := by
  cases x with
  | mk f sa scap a cap =>
    cases f with
    | mk k nm n sc ks =>
      unfold InV Item.val at h
      obtain ⟨vs, a', cap', e, _, _, _, hsc, hcap, hmax, hks⟩ := h
      simp only [Fm.kind, Fm.name, Fm.n, Fm.scopes, Fm.kids] at e ⊢
      injection e with e
      injection e with e
      simp only [List.cons.injEq, and_true, true_and, Value.slice.injEq] at e
      obtain ⟨rfl, rfl, rfl⟩ := e
      rcases hks with rfl | ⟨b, off, rfl, hb, hrow⟩
      · exact ⟨fun i => i.elim0, fun i => i.elim0, fun h => by simp at h, hcap, hmax⟩
      · have key : ∀ i : Fin ks.length, ∃ it : Item, it.f = ks[i.val] ∧ InV (· < B) w it.f it.val ∧ w.cell? ⟨b, off + i.val * 5, none⟩ = some (.int .i64 it.f.kind) ∧ w.cell? ⟨b, off + i.val * 5 + 1, none⟩ = some (.string it.f.name) ∧
            w.cell? ⟨b, off + i.val * 5 + 2, none⟩ = some (.int .i64 it.f.n) ∧ w.cell? ⟨b, off + i.val * 5 + 3, none⟩ = some (.slice it.sa it.f.scopes.length it.scap) ∧ w.cell? ⟨b, off + i.val * 5 + 4, none⟩ = some (.slice it.a it.f.kids.length it.cap) := fun i => by
          obtain ⟨ga, gcap, ka, kcap, p0, p1, p2, p3, p4, hin⟩ := hrow.at' i.val i.isLt
          exact ⟨⟨ks[i.val], ga, gcap, ka, kcap⟩, rfl, hin, p0, p1, p2, p3, p4⟩
        obtain ⟨its, hits⟩ := Classical.skolem.1 key
        exact ⟨its, fun i => ⟨(hits i).1, (hits i).2.1⟩, fun _ => ⟨b, off, rfl, hb, fun i => (hits i).2.2⟩, hcap, hmax⟩
theorem items_all {B : Nat} {w : World} {x : Item} {its : Fin x.f.kids.length → Item} (h : ∀ i, (its i).f = x.f.kids[i.val] ∧ InV (· < B) w (its i).f (its i).val) : ((List.finRange x.f.kids.length).map its).map (·.f) = x.f.kids := by
  apply List.ext_getElem
  · simp
  · intro i h1 h2
    simp [(h _).1]
end
end Go.Proofs.Ytbclgmabidjegaa
namespace Go.Proofs.Ytbclgmabidjegaa
section
open Go.Lib
/-- strictly ascending -/
def AscL (l : List Int) : Prop := l.Pairwise (· < ·)
theorem ascL_ext : ∀ {a b : List Int}, AscL a → AscL b → (∀ x, x ∈ a ↔ x ∈ b) → a = b
  | [], [], _, _, _ => rfl
  | [], y :: s, _, _, h => absurd ((h y).2 (by simp)) (by simp)
  | x :: r, [], _, _, h => absurd ((h x).1 (by simp)) (by simp)
  | x :: r, y :: s, ha, hb, h => by
    unfold AscL at ha hb
    rw [List.pairwise_cons] at ha hb
    have e : x = y := by
      have h1 := (h x).1 (by simp)
      have h2 := (h y).2 (by simp)
      rcases List.mem_cons.1 h1 with h1 | h1
      · exact h1
      · rcases List.mem_cons.1 h2 with h2 | h2
        · exact h2.symm
        · have := hb.1 x h1; have := ha.1 y h2; omega
    subst e
    rw [ascL_ext ha.2 hb.2 (fun z => by
      have hz := h z
      simp only [List.mem_cons] at hz
      constructor
      · intro hm
        rcases hz.1 (.inr hm) with e | e
        · have := ha.1 z hm; omega
        · exact e
      · intro hm
        rcases hz.2 (.inr hm) with e | e
        · have := hb.1 z hm; omega
        · exact e)]
theorem ascL_of_ascB : ∀ (l : List Int) (a : Int), ascB a l = true → AscL l ∧ ∀ x ∈ l, a < x ∧ x ≤ 99
  | [], _, _ => ⟨List.Pairwise.nil, fun x h => by cases h⟩
  | x :: r, a, h => by
    simp only [ascB, Bool.and_eq_true, decide_eq_true_eq] at h
    have ih := ascL_of_ascB r x h.2
    refine ⟨List.pairwise_cons.2 ⟨fun y hy => (ih.2 y hy).1, ih.1⟩, fun y hy => ?_⟩
    rcases List.mem_cons.1 hy with e | e
    · subst e; exact h.1
    · have := ih.2 y e; omega
theorem ascL_of_scopesB {l : List Int} (h : scopesB l = true) : AscL l := by
  unfold scopesB at h
  rw [Bool.and_eq_true] at h
  exact (ascL_of_ascB l 0 h.2).1
theorem AscL.le {l : List Int} (h : AscL l) : l.Pairwise (· ≤ ·) := h.imp (fun h => by omega)
theorem AscL.filter {l : List Int} (h : AscL l) (p : Int → Bool) : AscL (l.filter p) := List.Pairwise.filter _ h
/-- of a sorted row: the kept elements -/
theorem compactUpTo_asc (d : Array Int) (hs : ∀ i j, i ≤ j → j < d.size → d[i]! ≤ d[j]!) : ∀ m, m ≤ d.size →
    AscL (compactUpTo d m) ∧ ∀ x, x ∈ compactUpTo d m ↔ ∃ j, j < m ∧ d[j]! = x
  | 0, _ => ⟨List.Pairwise.nil, fun x => by simp [compactUpTo]⟩
  | m + 1, hm => by
    have ih := compactUpTo_asc d hs m (by omega)
    rw [compactUpTo_succ]
    by_cases hk : keeps d m = true
    · rw [if_pos hk]
      constructor
      · unfold AscL
        rw [List.pairwise_append]
        refine ⟨ih.1, by simp, fun a ha b hb => ?_⟩
        rw [List.mem_singleton] at hb
        subst hb
        obtain ⟨j, hj, rfl⟩ := (ih.2 a).1 ha
        unfold keeps at hk
        rw [decide_eq_true_eq] at hk
        have h1 := hs j (m - 1) (by omega) (by omega)
        have h2 := hs (m - 1) m (by omega) (by omega)
        rcases hk with hk | hk <;> omega
      · intro x
        rw [List.mem_append, ih.2, List.mem_singleton]
        constructor
        · rintro (⟨j, hj, rfl⟩ | rfl)
          · exact ⟨j, by omega, rfl⟩
          · exact ⟨m, by omega, rfl⟩
        · rintro ⟨j, hj, rfl⟩
          by_cases e : j = m
          · subst e; exact .inr rfl
          · exact .inl ⟨j, by omega, rfl⟩
    · rw [if_neg hk, List.append_nil]
      refine ⟨ih.1, fun x => ?_⟩
      rw [ih.2]
      constructor
      · rintro ⟨j, hj, rfl⟩
        exact ⟨j, by omega, rfl⟩
      · rintro ⟨j, hj, rfl⟩
        by_cases e : j = m
        · subst e
          unfold keeps at hk
          rw [decide_eq_true_eq] at hk
          exact ⟨j - 1, by omega, by omega⟩
        · exact ⟨j, by omega, rfl⟩
/-- a list as a set: ascending, each once -/
def uniqL (l : List Int) : List Int := compact (l.mergeSort fun x y => decide (x ≤ y))
theorem compact_asc (l : List Int) (h : l.Pairwise (· ≤ ·)) : AscL (compact l) ∧ ∀ x, x ∈ compact l ↔ x ∈ l := by
  have hg : ∀ i j, i ≤ j → j < l.toArray.size → l.toArray[i]! ≤ l.toArray[j]! := by
    intro i j hij hj
    have hj' : j < l.length := by simpa using hj
    rw [getElem!_pos l.toArray i (by simp; omega), getElem!_pos l.toArray j hj]
    simp only [List.getElem_toArray]
    by_cases e : i = j
    · subst e; exact Int.le_refl _
    · exact List.pairwise_iff_getElem.1 h i j (by omega) hj' (by omega)
  have := compactUpTo_asc l.toArray hg l.length (by simp)
  refine ⟨this.1, fun x => ?_⟩
  unfold compact
  rw [this.2]
  constructor
  · rintro ⟨j, hj, rfl⟩
    rw [getElem!_pos l.toArray j (by simpa using hj)]
    simp
  · intro hx
    obtain ⟨j, hj, rfl⟩ := List.mem_iff_getElem.1 hx
    exact ⟨j, hj, by rw [getElem!_pos l.toArray j (by simpa using hj)]; simp⟩
theorem sorted_le (l : List Int) : (l.mergeSort fun x y => decide (x ≤ y)).Pairwise (· ≤ ·) := by
  have := List.pairwise_mergeSort (le := fun x y : Int => decide (x ≤ y)) (fun a b c h1 h2 => by simp at *; omega) (fun a b => by simp; omega) l
  exact this.imp (fun h => by simpa using h)
theorem uniqL_asc (l : List Int) : AscL (uniqL l) := (compact_asc _ (sorted_le l)).1
theorem mem_uniqL (l : List Int) (x : Int) : x ∈ uniqL l ↔ x ∈ l := by
  unfold uniqL
  rw [(compact_asc _ (sorted_le l)).2, List.mem_mergeSort]
theorem uniqL_of_asc {l : List Int} (h : AscL l) : uniqL l = l := ascL_ext (uniqL_asc l) h (mem_uniqL l)
theorem uniqL_length (l : List Int) : (uniqL l).length ≤ l.length := by
  unfold uniqL compact compactUpTo
  rw [List.length_map]
  refine Nat.le_trans (List.length_filter_le _ _) ?_
  simp [List.length_mergeSort]
/-- what is in the first list and not in the second, as a set -/
def diffL (a b : List Int) : List Int := (uniqL a).filter fun x => !b.contains x
theorem diffL_asc (a b : List Int) : AscL (diffL a b) := (uniqL_asc a).filter _
theorem mem_diffL (a b : List Int) (x : Int) : x ∈ diffL a b ↔ x ∈ a ∧ x ∉ b := by
  unfold diffL
  rw [List.mem_filter, mem_uniqL]
  simp
theorem diffL_length (a b : List Int) : (diffL a b).length ≤ a.length := Nat.le_trans (List.length_filter_le _ _) (uniqL_length a)
/-- what is in just one of two lists, as a set -/
def symL (a b : List Int) : List Int := uniqL (diffL a b ++ diffL b a)
end
end Go.Proofs.Ytbclgmabidjegaa
namespace Go.Proofs.Ytbclgmabidjegaa
section
theorem isB_node {d : Nat} {k : Int} {nm : ByteArray} {n : Int} {sc : List Int} {ks : List Fm} (hd : isB d (.mk k nm n sc ks) = true) :
    scopesB sc = true ∧ (k ≠ 1 → sc = []) ∧ ∀ y ∈ ks, ∃ d', isB d' y = true := by
  cases d with
  | zero => simp [isB] at hd
  | succ d =>
    unfold isB at hd
    split at hd
    · rename_i h1
      simp only [Bool.and_eq_true, List.isEmpty_iff] at hd
      exact ⟨hd.1.2, fun h => absurd h1 h, fun y hy => by rw [hd.2] at hy; cases hy⟩
    · split at hd
      · simp only [Bool.and_eq_true, List.isEmpty_iff] at hd
        exact ⟨by rw [hd.1.2]; rfl, fun _ => hd.1.2, fun y hy => by rw [hd.2] at hy; cases hy⟩
      · simp only [Bool.and_eq_true, List.isEmpty_iff, List.all_eq_true] at hd
        exact ⟨by rw [hd.1.2]; rfl, fun _ => hd.1.2, fun y hy => ⟨d, hd.2 y hy⟩⟩
theorem formB_isB {f : Fm} (h : formB f = true) : isB 40 f = true := by
  unfold formB at h
  rw [Bool.and_eq_true] at h
  exact h.1
theorem scopes_length {l : List Int} (h : scopesB l = true) : l.length ≤ 24 := by
  unfold scopesB at h
  rw [Bool.and_eq_true, decide_eq_true_eq] at h
  exact h.1
theorem scopes_bounds {l : List Int} (h : scopesB l = true) : ∀ n ∈ l, -9223372036854775808 ≤ n ∧ n ≤ 9223372036854775807 := by
  intro n hn
  unfold scopesB at h
  rw [Bool.and_eq_true] at h
  have := (ascL_of_ascB l 0 h.2).2 n hn
  omega
end
end Go.Proofs.Ytbclgmabidjegaa
namespace Go.Proofs.Ytbclgmabidjegaa
section
open Go.RowKit
set_option linter.unusedVariables false
section
variable (chg : Int → List Int → List Int)
mutual
/-- a form with the scopes of each of its nodes changed -/
def Fm.chg : Fm → Fm
  | .mk k nm n sc ks => .mk k nm n (chg k sc) (chgAll ks)
def chgAll : List Fm → List Fm
  | [] => []
  | f :: r => f.chg :: chgAll r
end
end
variable {chg : Int → List Int → List Int}
theorem chgAll_length (ks : List Fm) : (chgAll chg ks).length = ks.length := by
  induction ks with
  | nil => simp [chgAll]
  | cons f r ih => simp [chgAll, ih]
theorem chg_eq (f : Fm) : f.chg chg = .mk f.kind f.name f.n (chg f.kind f.scopes) (chgAll chg f.kids) := by cases f; simp [Fm.chg, Fm.kind, Fm.name, Fm.n, Fm.scopes, Fm.kids]
/-- a node that is done: its five cells, and the form of its own that they are -/
def Fin (chg : Int → List Int → List Int) (w : World) (x : Addr × Fm) (bs : List Nat) : Prop :=
  ∃ b o, x.1 = ⟨b, o, none⟩ ∧ ∃ sa scap a cap, w.cell? ⟨b, o, none⟩ = some (.int .i64 x.2.kind) ∧ w.cell? ⟨b, o + 1, none⟩ = some (.string x.2.name) ∧ w.cell? ⟨b, o + 2, none⟩ = some (.int .i64 x.2.n) ∧
    w.cell? ⟨b, o + 3, none⟩ = some (.slice sa (chg x.2.kind x.2.scopes).length scap) ∧ w.cell? ⟨b, o + 4, none⟩ = some (.slice a x.2.kids.length cap) ∧ (∀ j, j < 5 → w.frozen? ⟨b, o + j, none⟩ = false) ∧
    OwnV w (x.2.chg chg) (.agg #[.int .i64 x.2.kind, .string x.2.name, .int .i64 x.2.n, .slice sa (chg x.2.kind x.2.scopes).length scap, .slice a x.2.kids.length cap]) bs
/-- each of the forms is done, in blocks of its own -/
def Fins (chg : Int → List Int → List Int) (w : World) : List (Addr × Fm) → List (List Nat) → Prop
  | [], [] => True
  | x :: l, bs :: bl => Fin chg w x bs ∧ Fins chg w l bl
  | _, _ => False
theorem Fins.append {w : World} : ∀ {l m : List (Addr × Fm)} {bl : List (List Nat)}, Fins chg w (l ++ m) bl → ∃ b1 b2, bl = b1 ++ b2 ∧ Fins chg w l b1 ∧ Fins chg w m b2
  | [], m, bl, h => ⟨[], bl, rfl, trivial, h⟩
  | x :: l, m, [], h => by simp [Fins] at h
  | x :: l, m, b :: bl, h => by
    obtain ⟨h1, h2⟩ := h
    obtain ⟨b1, b2, rfl, h3, h4⟩ := Fins.append h2
    exact ⟨b :: b1, b2, rfl, ⟨h1, h3⟩, h4⟩
theorem Fins.snoc {w : World} : ∀ {l : List (Addr × Fm)} {bl : List (List Nat)} {x : Addr × Fm} {bs : List Nat}, Fins chg w l bl → Fin chg w x bs → Fins chg w (l ++ [x]) (bl ++ [bs])
  | [], [], x, bs, _, h => ⟨h, trivial⟩
  | [], _ :: _, _, _, h, _ => by simp [Fins] at h
  | _ :: _, [], _, _, h, _ => by simp [Fins] at h
  | y :: l, b :: bl, x, bs, h, g => ⟨h.1, Fins.snoc h.2 g⟩
/-- the nodes of a row -/
def itemsOf (b : Nat) : Nat → List Fm → List (Addr × Fm)
  | _, [] => []
  | off, f :: r => (⟨b, off, none⟩, f) :: itemsOf b (off + 5) r
theorem itemsOf_length (b : Nat) : ∀ (ks : List Fm) (off : Nat), (itemsOf b off ks).length = ks.length
  | [], _ => rfl
  | f :: r, off => by simp [itemsOf, itemsOf_length b r (off + 5)]
theorem itemsOf_take_succ (b : Nat) : ∀ (ks : List Fm) (off j : Nat) (h : j < ks.length), itemsOf b off (ks.take (j + 1)) = itemsOf b off (ks.take j) ++ [(⟨b, off + j * 5, none⟩, ks[j])]
  | f :: r, off, 0, _ => by simp [itemsOf]
  | f :: r, off, j + 1, h => by
    have := itemsOf_take_succ b r (off + 5) j (by simpa using h)
    simp only [List.take_succ_cons, itemsOf, this, List.cons_append, List.getElem_cons_succ]
    rw [show off + 5 + j * 5 = off + (j + 1) * 5 from by omega]
theorem itemsOf_mem (b : Nat) : ∀ (ks : List Fm) (off : Nat) (x : Addr × Fm), x ∈ itemsOf b off ks → ∃ i, i < ks.length ∧ x.1 = ⟨b, off + i * 5, none⟩
  | f :: r, off, x, h => by
    rcases List.mem_cons.1 h with rfl | h
    · exact ⟨0, by simp, rfl⟩
    · obtain ⟨i, hi, e⟩ := itemsOf_mem b r (off + 5) x h
      exact ⟨i + 1, by simpa using hi, by rw [e]; congr 1; omega⟩
theorem Fins.row {w : World} (b : Nat) : ∀ (ks : List Fm) (off : Nat) (bl : List (List Nat)), Fins chg w (itemsOf b off ks) bl → RowOwn w b off (chgAll chg ks) bl.flatten
  | [], off, [], _ => by simp [chgAll, RowOwn]
  | [], off, _ :: _, h => by simp [itemsOf, Fins] at h
  | f :: r, off, [], h => by simp [itemsOf, Fins] at h
  | f :: r, off, bs :: bl, h => by
    obtain ⟨⟨b', o', e, sa, scap, a, cap, c0, c1, c2, c3, c4, hf, hown⟩, h2⟩ := h
    injection e with e1 e2
    subst e1 e2
    have := Fins.row b r (off + 5) bl h2
    simp only [chgAll, List.flatten_cons]
    unfold RowOwn
    exact ⟨bs, bl.flatten, rfl, ⟨_, _, _, _, _, c0, c1, c2, c3, c4, hf, hown⟩, this⟩
/-- a cell of the one is none of the other's -/
def ApartI (x y : Addr × Fm) : Prop := x.1.block ≠ y.1.block ∨ x.1.off + 5 ≤ y.1.off ∨ y.1.off + 5 ≤ x.1.off
theorem itemsOf_apart (b : Nat) : ∀ (ks : List Fm) (off : Nat), (itemsOf b off ks).Pairwise ApartI
  | [], _ => List.Pairwise.nil
  | f :: r, off => by
    refine List.Pairwise.cons (fun y hy => ?_) (itemsOf_apart b r (off + 5))
    obtain ⟨i, _, e⟩ := itemsOf_mem b r (off + 5) y hy
    unfold ApartI
    rw [e]
    exact .inr (.inl (by show off + 5 ≤ off + 5 + i * 5; omega))
/-- a node that is not done: as it was in the form that came in -/
def Todo (φ : Nat → Prop) (w0 w : World) (x : Addr × Fm) : Prop :=
  ∃ b o, x.1 = ⟨b, o, none⟩ ∧ ∃ sa scap a cap, w.cell? ⟨b, o, none⟩ = some (.int .i64 x.2.kind) ∧ w.cell? ⟨b, o + 1, none⟩ = some (.string x.2.name) ∧ w.cell? ⟨b, o + 2, none⟩ = some (.int .i64 x.2.n) ∧
    w.cell? ⟨b, o + 3, none⟩ = some (.slice sa x.2.scopes.length scap) ∧ w.cell? ⟨b, o + 4, none⟩ = some (.slice a x.2.kids.length cap) ∧ (∀ j, j < 5 → w.frozen? ⟨b, o + j, none⟩ = false) ∧
    InV φ w0 x.2 (.agg #[.int .i64 x.2.kind, .string x.2.name, .int .i64 x.2.n, .slice sa x.2.scopes.length scap, .slice a x.2.kids.length cap])
/-- the state between two rounds -/
structure ChgMid (chg : Int → List Int → List Int) (base : Nat) (w0 wr : World) (root : Addr × Fm) (l : List (Addr × Fm)) (D : Nat → Nat → Prop) (E : List Nat) : Prop where
  below : Below base w0 wr
  size : base ≤ wr.heap.size
  todo : ∀ x ∈ l, Todo (· < base) w0 wr x ∧ base ≤ x.1.block ∧ x.1.block < wr.heap.size
  apart : l.Pairwise ApartI
  free : ∀ x ∈ l, ∀ j, j < 5 → ¬ D x.1.block (x.1.off + j)
  dlt : ∀ b o, D b o → b < wr.heap.size
  wand : ∀ (w' : World) (bl : List (List Nat)), (∀ b o, D b o → w'.cell? ⟨b, o, none⟩ = wr.cell? ⟨b, o, none⟩ ∧ w'.frozen? ⟨b, o, none⟩ = wr.frozen? ⟨b, o, none⟩) → Fins chg w' l bl →
    ∃ bs, Fin chg w' root bs ∧ bs.Perm (E ++ bl.flatten)
  enew : E.Nodup ∧ (∀ c ∈ E, base ≤ c ∧ c < wr.heap.size) ∧ AllPlain wr E
theorem ChgMid.start {base : Nat} {w0 wr : World} {root : Addr × Fm} (hb : Below base w0 wr) (hs : base ≤ wr.heap.size) (ht : Todo (· < base) w0 wr root) (h1 : base ≤ root.1.block) (h2 : root.1.block < wr.heap.size) :
    ChgMid chg base w0 wr root [root] (fun _ _ => False) [] :=
  ⟨hb, hs, fun x hx => by rw [List.mem_singleton] at hx; subst hx; exact ⟨ht, h1, h2⟩, by simp, fun x _ j _ h => h, fun _ _ h => h.elim, fun w' bl _ hf => by
    match bl, hf with
    | [bs], hf => exact ⟨bs, hf.1, by simp⟩
    | [], hf => simp [Fins] at hf
    | _ :: _ :: _, hf => simp [Fins] at hf, List.nodup_nil, fun c hc => (by cases hc), AllPlain.nil _⟩
theorem ChgMid.ends {base : Nat} {w0 wr : World} {root : Addr × Fm} {D : Nat → Nat → Prop} {E : List Nat} (h : ChgMid chg base w0 wr root [] D E) :
    ∃ bs, Fin chg wr root bs ∧ NewBs bs base wr.heap.size ∧ AllPlain wr bs ∧ ∀ c ∈ bs, c ∈ E := by
  obtain ⟨bs, h1, h2⟩ := h.wand wr [] (fun _ _ _ => ⟨rfl, rfl⟩) trivial
  simp only [List.flatten_nil, List.append_nil] at h2
  exact ⟨bs, h1, ⟨h2.nodup_iff.2 h.enew.1, fun c hc => h.enew.2.1 c (h2.mem_iff.1 hc)⟩, fun c hc => h.enew.2.2 c (h2.mem_iff.1 hc), fun c hc => h2.mem_iff.1 hc⟩
/-- the world turns, but for new blocks, outside all that matters -/
theorem ChgMid.later {base : Nat} {w0 wr w' : World} {root : Addr × Fm} {l : List (Addr × Fm)} {D : Nat → Nat → Prop} {E : List Nat} (h : ChgMid chg base w0 wr root l D E) (hb : Below base wr w') (hz : wr.heap.size ≤ w'.heap.size)
    (hk : ∀ k, (∃ x ∈ l, x.1.block = k) ∨ (∃ o, D k o) ∨ k ∈ E → w'.heap[k]? = wr.heap[k]?) : ChgMid chg base w0 w' root l D E := by
  refine ⟨h.below.trans hb, Nat.le_trans h.size hz, fun x hx => ?_, h.apart, h.free, fun b o hd => Nat.lt_of_lt_of_le (h.dlt b o hd) hz, fun w2 bl ha hf => ?_, h.enew.1, fun c hc => ⟨(h.enew.2.1 c hc).1, Nat.lt_of_lt_of_le (h.enew.2.1 c hc).2 hz⟩, fun c hc => (h.enew.2.2 c hc).same (hk c (.inr (.inr hc)))⟩
  · obtain ⟨⟨b, o, e, sa, scap, a, cap, c0, c1, c2, c3, c4, hf, hin⟩, h1, h2⟩ := h.todo x hx
    have hs := hk x.1.block (.inl ⟨x, hx, rfl⟩)
    rw [e] at hs h1 h2
    refine ⟨⟨b, o, e, sa, scap, a, cap, ?_, ?_, ?_, ?_, ?_, fun j hj => ?_, hin⟩, by rw [e]; exact h1, by rw [e]; exact Nat.lt_of_lt_of_le h2 hz⟩
    · rw [World.cell?_of_block (a := ⟨b, o, none⟩) hs]; exact c0
    · rw [World.cell?_of_block (a := ⟨b, o + 1, none⟩) hs]; exact c1
    · rw [World.cell?_of_block (a := ⟨b, o + 2, none⟩) hs]; exact c2
    · rw [World.cell?_of_block (a := ⟨b, o + 3, none⟩) hs]; exact c3
    · rw [World.cell?_of_block (a := ⟨b, o + 4, none⟩) hs]; exact c4
    · rw [World.frozen?_of_block (a := ⟨b, o + j, none⟩) hs]; exact hf j hj
  · refine h.wand w2 bl (fun b o hd => ?_) hf
    have hs := hk b (.inr (.inl ⟨o, hd⟩))
    obtain ⟨g1, g2⟩ := ha b o hd
    exact ⟨g1.trans (World.cell?_of_block (a := ⟨b, o, none⟩) hs), g2.trans (World.frozen?_of_block (a := ⟨b, o, none⟩) hs)⟩
/-- the blocks that matter -/
def RelB (l : List (Addr × Fm)) (D : Nat → Nat → Prop) (E : List Nat) (k : Nat) : Prop := (∃ x ∈ l, x.1.block = k) ∨ (∃ o, D k o) ∨ k ∈ E
theorem ChgMid.step {base : Nat} {w0 wr w5 : World} {root : Addr × Fm} {l0 : List (Addr × Fm)} {b o : Nat} {f : Fm} {D : Nat → Nat → Prop} {E : List Nat}
    (h : ChgMid chg base w0 wr root (l0 ++ [(⟨b, o, none⟩, f)]) D E) (hb : Below base wr w5) (hz : wr.heap.size ≤ w5.heap.size)
    (hk : ∀ k, RelB l0 D E k → k ≠ b → w5.heap[k]? = wr.heap[k]?) (hkf : ∀ i, w5.frozen? ⟨b, i, none⟩ = wr.frozen? ⟨b, i, none⟩) (hkc : ∀ i, i ≠ o + 3 → i ≠ o + 4 → w5.cell? ⟨b, i, none⟩ = wr.cell? ⟨b, i, none⟩)
    (hpb : Plain wr b → Plain w5 b) {sa a : Option Addr} {scap cap : Nat} {bs1 kbs : List Nat} {kb : Nat}
    (h3 : w5.cell? ⟨b, o + 3, none⟩ = some (.slice sa (chg f.kind f.scopes).length scap)) (hI : IntOwn w5 (.slice sa (chg f.kind f.scopes).length scap) (chg f.kind f.scopes) bs1)
    (hN : NewBs (bs1 ++ kbs) wr.heap.size w5.heap.size) (hP : AllPlain w5 (bs1 ++ kbs))
    (h4 : w5.cell? ⟨b, o + 4, none⟩ = some (.slice a f.kids.length cap)) (hcap : f.kids.length ≤ cap) (hmax : cap ≤ maxLen)
    (hkids : (f.kids = [] ∧ kbs = []) ∨ (a = some ⟨kb, 0, none⟩ ∧ kbs = [kb])) (htk : ∀ x ∈ itemsOf kb 0 f.kids, Todo (· < base) w0 w5 x)
    (hfk : -9223372036854775808 ≤ f.kind ∧ f.kind ≤ 9223372036854775807) (hfn : -9223372036854775808 ≤ f.n ∧ f.n ≤ 9223372036854775807) (hnm : f.name.size ≤ maxLen) :
    ChgMid chg base w0 w5 root (l0 ++ itemsOf kb 0 f.kids) (fun c i => D c i ∨ (c = b ∧ o ≤ i ∧ i < o + 5) ∨ c ∈ bs1) (E ++ (bs1 ++ kbs)) := by
  obtain ⟨⟨b', o', e, sa0, scap0, a0, cap0, c0, c1, c2, c3, c4, hf, hin⟩, hbb, hbl⟩ := h.todo (⟨b, o, none⟩, f) (by simp)
  injection e with e1 e2
  subst e1 e2
  simp only at hbb hbl c0 c1 c2
  have hfree := h.free (⟨b, o, none⟩, f) (by simp)
  simp only at hfree
  have hDx : ∀ i, D b i → i < o ∨ o + 5 ≤ i := fun i hd => by
    by_cases h1 : o ≤ i ∧ i < o + 5
    · exfalso
      refine hfree (i - o) (by omega) ?_
      rw [show o + (i - o) = i from by omega]
      exact hd
    · omega
  have hap : ∀ y ∈ l0, ApartI y (⟨b, o, none⟩, f) := fun y hy => (List.pairwise_append.1 h.apart).2.2 y hy _ (by simp)
  have hkbn : f.kids ≠ [] → kb ∈ kbs ∧ a = some ⟨kb, 0, none⟩ := fun hn => by
    rcases hkids with ⟨h1, _⟩ | ⟨h1, h2⟩
    · exact absurd h1 hn
    · exact ⟨by rw [h2]; simp, h1⟩
  have hkmem : ∀ x ∈ itemsOf kb 0 f.kids, x.1.block = kb ∧ kb ∈ kbs := fun x hx => by
    obtain ⟨i, hi, e⟩ := itemsOf_mem kb f.kids 0 x hx
    exact ⟨by rw [e], (hkbn (by intro h0; rw [h0] at hi; simp at hi)).1⟩
  have hnew : ∀ c ∈ bs1 ++ kbs, wr.heap.size ≤ c ∧ c < w5.heap.size := hN.2
  have hn1 : ∀ c ∈ bs1, wr.heap.size ≤ c ∧ c < w5.heap.size := fun c hc => hnew c (List.mem_append_left _ hc)
  have hn2 : ∀ c ∈ kbs, wr.heap.size ≤ c ∧ c < w5.heap.size := fun c hc => hnew c (List.mem_append_right _ hc)
  obtain ⟨nd1, nd2, nd3⟩ := List.nodup_append.1 hN.1
  have hl0 : ∀ y ∈ l0, Todo (· < base) w0 wr y ∧ base ≤ y.1.block ∧ y.1.block < wr.heap.size := fun y hy => h.todo y (List.mem_append_left _ hy)
  -- cells that stay
  have hcell : ∀ c i, RelB l0 D E c → (c = b → i ≠ o + 3 ∧ i ≠ o + 4) → w5.cell? ⟨c, i, none⟩ = wr.cell? ⟨c, i, none⟩ := fun c i hr hne => by
    by_cases e : c = b
    · subst e; exact hkc i (hne rfl).1 (hne rfl).2
    · exact World.cell?_of_block (a := ⟨c, i, none⟩) (hk c hr e)
  have hfroz : ∀ c i, RelB l0 D E c → w5.frozen? ⟨c, i, none⟩ = wr.frozen? ⟨c, i, none⟩ := fun c i hr => by
    by_cases e : c = b
    · subst e; exact hkf i
    · exact World.frozen?_of_block (a := ⟨c, i, none⟩) (hk c hr e)
  refine ⟨h.below.trans hb, Nat.le_trans h.size hz, fun y hy => ?_, ?_, fun y hy j hj hd => ?_, fun c i hd => ?_, fun w' bl ha hfin => ?_, ?_, fun c hc => ?_, fun c hc => ?_⟩
  · rcases List.mem_append.1 hy with hy | hy
    · obtain ⟨⟨c, i, e, sa', scap', a', cap', d0, d1, d2, d3, d4, df, din⟩, g1, g2⟩ := hl0 y hy
      have hr : RelB l0 D E c := .inl ⟨y, hy, by rw [e]⟩
      have hne : ∀ j, j < 5 → c = b → i + j ≠ o + 3 ∧ i + j ≠ o + 4 := fun j hj ec => by
        have := hap y hy
        unfold ApartI at this
        rw [e] at this
        simp only at this
        rcases this with h1 | h1 | h1
        · exact absurd ec h1
        · omega
        · omega
      refine ⟨⟨c, i, e, sa', scap', a', cap', ?_, ?_, ?_, ?_, ?_, fun j hj => ?_, din⟩, g1, Nat.lt_of_lt_of_le g2 hz⟩
      · rw [hcell c i hr (by simpa using hne 0 (by omega))]; exact d0
      · rw [hcell c (i + 1) hr (hne 1 (by omega))]; exact d1
      · rw [hcell c (i + 2) hr (hne 2 (by omega))]; exact d2
      · rw [hcell c (i + 3) hr (hne 3 (by omega))]; exact d3
      · rw [hcell c (i + 4) hr (hne 4 (by omega))]; exact d4
      · rw [hfroz c (i + j) hr]; exact df j hj
    · obtain ⟨g1, g2⟩ := hkmem y hy
      have := hn2 kb g2
      exact ⟨htk y hy, by rw [g1]; exact Nat.le_trans h.size this.1, by rw [g1]; exact this.2⟩
  · refine List.pairwise_append.2 ⟨(List.pairwise_append.1 h.apart).1, itemsOf_apart _ _ _, fun y hy z hz' => .inl ?_⟩
    obtain ⟨g1, g2⟩ := hkmem z hz'
    have := (hl0 y hy).2.2
    have := hn2 kb g2
    omega
  · rcases List.mem_append.1 hy with hy | hy
    · rcases hd with hd | ⟨e, h1, h2⟩ | hd
      · exact h.free y (List.mem_append_left _ hy) j hj hd
      · have := hap y hy
        unfold ApartI at this
        simp only at this
        omega
      · have := (hl0 y hy).2.2
        have := hn1 _ hd
        omega
    · obtain ⟨g1, g2⟩ := hkmem y hy
      have g3 := hn2 kb g2
      rw [g1] at hd
      rcases hd with hd | ⟨e, _, _⟩ | hd
      · have := h.dlt _ _ hd; omega
      · omega
      · exact nd3 kb hd kb g2 rfl
  · rcases hd with hd | ⟨e, _, _⟩ | hd
    · exact Nat.lt_of_lt_of_le (h.dlt c i hd) hz
    · rw [e]; omega
    · exact (hn1 c hd).2
  · obtain ⟨b1, b2, rfl, f1, f2⟩ := hfin.append
    -- the node itself is done
    have hx : Fin chg w' (⟨b, o, none⟩, f) (bs1 ++ (kbs ++ b2.flatten)) := by
      have hcx : ∀ j, j < 5 → w'.cell? ⟨b, o + j, none⟩ = w5.cell? ⟨b, o + j, none⟩ ∧ w'.frozen? ⟨b, o + j, none⟩ = w5.frozen? ⟨b, o + j, none⟩ := fun j hj => ha b (o + j) (.inr (.inl ⟨rfl, by omega, by omega⟩))
      have q0 := (hcx 0 (by omega)).1.trans ((hkc (o + 0) (by omega) (by omega)).trans c0)
      have q1 := (hcx 1 (by omega)).1.trans ((hkc (o + 1) (by omega) (by omega)).trans c1)
      have q2 := (hcx 2 (by omega)).1.trans ((hkc (o + 2) (by omega) (by omega)).trans c2)
      have q3 := (hcx 3 (by omega)).1.trans h3
      have q4 := (hcx 4 (by omega)).1.trans h4
      refine ⟨b, o, rfl, sa, scap, a, cap, q0, q1, q2, q3, q4, fun j hj => (hcx j hj).2.trans ((hkf (o + j)).trans (hf j hj)), ?_⟩
      have hIw : IntOwn w' (.slice sa (chg f.kind f.scopes).length scap) (chg f.kind f.scopes) bs1 := by
        obtain ⟨ai, ci, g1, g2, g3, g4, g5⟩ := hI
        refine ⟨ai, ci, g1, g2, g3, g4, ?_⟩
        rcases g5 with g5 | ⟨bi, oi, g5, g6, g7⟩
        · exact .inl g5
        · refine .inr ⟨bi, oi, g5, g6, fun i hi => ?_⟩
          obtain ⟨k1, k2⟩ := ha bi (oi + i) (.inr (.inr (by rw [g6]; simp)))
          exact ⟨k1.trans (g7 i hi).1, k2.trans (g7 i hi).2⟩
      have hK : KidsOwn w' a cap (chgAll chg f.kids) (kbs ++ b2.flatten) := by
        refine ⟨by rw [chgAll_length]; exact hcap, hmax, ?_⟩
        rcases hkids with ⟨g1, g2⟩ | ⟨g1, g2⟩
        · left
          rw [g1] at f2
          match b2, f2 with
          | [], _ => exact ⟨by rw [g1]; simp [chgAll], by rw [g2]; rfl⟩
          | _ :: _, f2 => simp [itemsOf, Fins] at f2
        · exact .inr ⟨kb, 0, b2.flatten, g1, by rw [g2]; rfl, f2.row kb f.kids 0 b2⟩
      have := OwnV.mk (w := w') (f := f.chg chg) (sa := sa) (a := a) (scap := scap) (cap := cap) (bs1 := bs1) (bs2 := kbs ++ b2.flatten) (by rw [chg_eq]; exact hfk) (by rw [chg_eq]; exact hfn) (by rw [chg_eq]; exact hnm)
        (by rw [chg_eq]; exact hIw) (by rw [chg_eq]; exact hK)
      rw [chg_eq] at this ⊢
      simp only [Fm.kind, Fm.name, Fm.n, Fm.scopes, Fm.kids, chgAll_length] at this ⊢
      exact this
    have hag : ∀ c i, D c i → w'.cell? ⟨c, i, none⟩ = wr.cell? ⟨c, i, none⟩ ∧ w'.frozen? ⟨c, i, none⟩ = wr.frozen? ⟨c, i, none⟩ := fun c i hd => by
      obtain ⟨k1, k2⟩ := ha c i (.inl hd)
      have hr : RelB l0 D E c := .inr (.inl ⟨i, hd⟩)
      refine ⟨k1.trans (hcell c i hr fun e => ?_), k2.trans (hfroz c i hr)⟩
      subst e
      have := hDx i hd
      omega
    obtain ⟨bs, g1, g2⟩ := h.wand w' (b1 ++ [bs1 ++ (kbs ++ b2.flatten)]) hag (f1.snoc hx)
    refine ⟨bs, g1, g2.trans ?_⟩
    rw [List.flatten_append, List.flatten_append, List.flatten_cons, List.flatten_nil, List.append_nil]
    have e1 : E ++ (bs1 ++ kbs) ++ (b1.flatten ++ b2.flatten) = E ++ ((bs1 ++ kbs) ++ (b1.flatten ++ b2.flatten)) := by simp
    rw [e1]
    refine List.Perm.append_left E ?_
    have e2 : b1.flatten ++ (bs1 ++ (kbs ++ b2.flatten)) = (b1.flatten ++ (bs1 ++ kbs)) ++ b2.flatten := by simp
    have e3 : (bs1 ++ kbs) ++ (b1.flatten ++ b2.flatten) = ((bs1 ++ kbs) ++ b1.flatten) ++ b2.flatten := by simp
    rw [e2, e3]
    exact List.Perm.append_right _ List.perm_append_comm
  · refine List.nodup_append.2 ⟨h.enew.1, hN.1, fun c hc d hd e => ?_⟩
    have := (h.enew.2.1 c hc).2
    have := (hnew d hd).1
    omega
  · rcases List.mem_append.1 hc with hc | hc
    · exact ⟨(h.enew.2.1 c hc).1, Nat.lt_of_lt_of_le (h.enew.2.1 c hc).2 hz⟩
    · exact ⟨Nat.le_trans h.size (hnew c hc).1, (hnew c hc).2⟩
  · rcases List.mem_append.1 hc with hc | hc
    · by_cases e : c = b
      · subst e; exact hpb (h.enew.2.2 c hc)
      · exact (h.enew.2.2 c hc).same (hk c (.inr (.inr hc)) e)
    · exact hP c hc
/-- the values in a run of cells -/
def rowCells (w : World) (b off n : Nat) : List Value := (List.range n).map fun i => (w.cell? ⟨b, off + i, none⟩).getD (.bool false)
theorem rowCells_length (w : World) (b off n : Nat) : (rowCells w b off n).length = n := by simp [rowCells]
theorem rowCells_get (w : World) (b off n i : Nat) (hi : i < n) : (rowCells w b off n)[i]? = some ((w.cell? ⟨b, off + i, none⟩).getD (.bool false)) := by
  simp [rowCells, hi]
theorem RowIn.there {φ : Nat → Prop} {w : World} {b off : Nat} {ks : List Fm} (h : RowIn φ w b off ks) (i : Nat) (hi : i < ks.length * 5) : ∃ u, w.cell? ⟨b, off + i, none⟩ = some u ∧ u.oneCell' = true := by
  obtain ⟨j, k, hj, hk, rfl⟩ : ∃ j k, j < ks.length ∧ k < 5 ∧ i = j * 5 + k := ⟨i / 5, i % 5, by omega, by omega, by omega⟩
  obtain ⟨sa, scap, a, cap, c0, c1, c2, c3, c4, _⟩ := h.at' j hj
  rw [← Nat.add_assoc]
  match k, hk with
  | 0, _ => exact ⟨_, c0, rfl⟩
  | 1, _ => exact ⟨_, c1, rfl⟩
  | 2, _ => exact ⟨_, c2, rfl⟩
  | 3, _ => exact ⟨_, c3, rfl⟩
  | 4, _ => exact ⟨_, c4, rfl⟩
/-- the nodes of a row that was copied -/
theorem RowIn.copied {φ : Nat → Prop} {w0 w w' : World} {b off g : Nat} : ∀ {ks : List Fm} {k : Nat}, RowIn φ w0 b (off + k * 5) ks → (∀ i, i < (k + ks.length) * 5 → w'.cell? ⟨g, i, none⟩ = w0.cell? ⟨b, off + i, none⟩ ∧ w'.frozen? ⟨g, i, none⟩ = false) →
    ∀ x ∈ itemsOf g (k * 5) ks, Todo φ w0 w' x
  | f :: r, k, h, hc, x, hx => by
    have hat := h.at' 0 (by simp)
    rcases List.mem_cons.1 hx with rfl | hx
    · obtain ⟨sa, scap, a, cap, c0, c1, c2, c3, c4, hin⟩ := hat
      simp only [Nat.zero_mul, Nat.add_zero, List.getElem_cons_zero] at c0 c1 c2 c3 c4 hin
      have hl : (f :: r).length = r.length + 1 := rfl
      have q : ∀ j, j < 5 → w'.cell? ⟨g, k * 5 + j, none⟩ = w0.cell? ⟨b, off + k * 5 + j, none⟩ ∧ w'.frozen? ⟨g, k * 5 + j, none⟩ = false := fun j hj => by
        have := hc (k * 5 + j) (by omega)
        rw [← Nat.add_assoc] at this
        exact this
      exact ⟨g, k * 5, rfl, sa, scap, a, cap, (q 0 (by omega)).1.trans c0, (q 1 (by omega)).1.trans c1, (q 2 (by omega)).1.trans c2, (q 3 (by omega)).1.trans c3, (q 4 (by omega)).1.trans c4, fun j hj => (q j hj).2, hin⟩
    · unfold RowIn at h
      have h2 := h.2
      rw [show off + k * 5 + 5 = off + (k + 1) * 5 from by omega] at h2
      rw [show k * 5 + 5 = (k + 1) * 5 from by omega] at hx
      exact RowIn.copied (w := w) h2 (fun i hi => hc i (by simp only [List.length_cons]; omega)) x hx
def countI : List (Addr × Fm) → Nat
  | [] => 0
  | x :: r => x.2.count + countI r
theorem countI_append (l m : List (Addr × Fm)) : countI (l ++ m) = countI l + countI m := by
  induction l with
  | nil => simp [countI]
  | cons x r ih => simp only [List.cons_append, countI, ih]; omega
theorem countI_items (b : Nat) : ∀ (ks : List Fm) (off : Nat), countI (itemsOf b off ks) = countAll ks
  | [], _ => rfl
  | f :: r, off => by simp [itemsOf, countI, countAll, countI_items b r (off + 5)]
theorem length_countI (l : List (Addr × Fm)) : l.length ≤ countI l := by
  induction l with
  | nil => simp
  | cons x r ih => have : 1 ≤ x.2.count := by cases x.2; unfold Fm.count; omega
                   simp only [List.length_cons, countI]; omega
theorem itemsOf_snd (b : Nat) : ∀ (ks : List Fm) (off : Nat) (x : Addr × Fm), x ∈ itemsOf b off ks → x.2 ∈ ks
  | f :: r, off, x, h => by
    rcases List.mem_cons.1 h with rfl | h
    · simp
    · exact List.mem_cons_of_mem _ (itemsOf_snd b r (off + 5) x h)
theorem sz_kid {f : Fm} {g : Fm} (h : g ∈ f.kids) : g.sz ≤ f.sz := by
  cases f with
  | mk k nm n sc ks =>
    have : ∀ ks : List Fm, g ∈ ks → g.sz ≤ szAll ks := fun ks => by
      induction ks with
      | nil => intro h; cases h
      | cons x r ih =>
        intro h
        unfold szAll
        rcases List.mem_cons.1 h with rfl | h
        · omega
        · have := ih h; omega
    have := this ks h
    have e : (Fm.mk k nm n sc ks).sz = nm.size + sc.length + szAll ks := by rw [Fm.sz]
    rw [e]
    omega
theorem sz_scopes (f : Fm) : f.scopes.length ≤ f.sz ∧ f.kids.length ≤ f.sz := by
  cases f with
  | mk k nm n sc ks => have := szAll_length ks; simp only [Fm.scopes, Fm.kids]; unfold Fm.sz; omega
theorem ChgMid.relLt {base : Nat} {w0 wr : World} {root : Addr × Fm} {l : List (Addr × Fm)} {D : Nat → Nat → Prop} {E : List Nat} (h : ChgMid chg base w0 wr root l D E) {k : Nat} (hk : RelB l D E k) : k < wr.heap.size := by
  rcases hk with ⟨x, hx, rfl⟩ | ⟨o, hd⟩ | hk
  · exact (h.todo x hx).2.2
  · exact h.dlt k o hd
  · exact (h.enew.2.1 k hk).2
theorem RelB.left {l m : List (Addr × Fm)} {D : Nat → Nat → Prop} {E : List Nat} {k : Nat} (h : RelB l D E k) : RelB (l ++ m) D E k := by
  rcases h with ⟨x, hx, e⟩ | h | h
  · exact .inl ⟨x, List.mem_append_left _ hx, e⟩
  · exact .inr (.inl h)
  · exact .inr (.inr h)
/-- what must not lie where the list of work does -/
def Sep (l : List (Addr × Fm)) (D : Nat → Nat → Prop) (E : List Nat) (ro pb : Nat) (v : Value) : Prop := ∀ k, RelB l D E k ∨ k = ro → k ≠ pb ∧ v.ownBlock ≠ some k
end
end Go.Proofs.Ytbclgmabidjegaa
namespace Go.Proofs.Ytbclgmabidjegaa
section
open Go.RowKit
set_option linter.unusedVariables false
set_option linter.unusedSimpArgs false
/-- a list of forms, as a form -/
def listFm (ks : List Fm) : Fm := .mk 3 { data := #[] } 0 [] ks
def zeroForm : Fm := .mk 0 { data := #[] } 0 [] []
/-- a value of type []Form that reads as forms -/
def FormsIn (φ : Nat → Prop) (w : World) (a : Option Addr) (cap : Nat) (ks : List Fm) : Prop :=
  ks.length ≤ cap ∧ cap ≤ maxLen ∧ (ks = [] ∨ ∃ b off, a = some ⟨b, off, none⟩ ∧ φ b ∧ RowIn φ w b off ks)
theorem FormsIn.form {φ : Nat → Prop} {w : World} {a : Option Addr} {cap : Nat} {ks : List Fm} (h : FormsIn φ w a cap ks) :
    InV φ w (listFm ks) (.agg #[.int .i64 3, .string { data := #[] }, .int .i64 0, .slice none 0 0, .slice a ks.length cap]) := by
  unfold listFm InV
  exact ⟨_, a, cap, rfl, by omega, by omega, by decide, ⟨none, 0, rfl, Nat.le_refl _, Nat.zero_le _, by simp, .inl rfl⟩, h.1, h.2.1, h.2.2⟩
theorem zeroFacts {w : World} {b : Nat} {T : TypeId} (h : w.heap[b]? = some (.cells #[.int .i64 0, .string { data := #[] }, .int .i64 0, .slice none 0 0, .slice none 0 0] T (0, 0))) :
    w.cell? ⟨b, 0, none⟩ = some (.int .i64 0) ∧ w.cell? ⟨b, 1, none⟩ = some (.string { data := #[] }) ∧ w.cell? ⟨b, 2, none⟩ = some (.int .i64 0) ∧ w.cell? ⟨b, 3, none⟩ = some (.slice none 0 0) ∧ w.cell? ⟨b, 4, none⟩ = some (.slice none 0 0) ∧
      w.frozen? ⟨b, 0, none⟩ = false ∧ w.frozen? ⟨b, 1, none⟩ = false ∧ w.frozen? ⟨b, 2, none⟩ = false ∧ w.frozen? ⟨b, 3, none⟩ = false ∧ w.frozen? ⟨b, 4, none⟩ = false := by
  have hp : Plain w b := ⟨_, _, h⟩
  refine ⟨?_, ?_, ?_, ?_, ?_, hp.frozen 0, hp.frozen 1, hp.frozen 2, hp.frozen 3, hp.frozen 4⟩
  · rw [cell_of_row w _ 0 _ _ _ h]; rfl
  · rw [cell_of_row w _ 1 _ _ _ h]; rfl
  · rw [cell_of_row w _ 2 _ _ _ h]; rfl
  · rw [cell_of_row w _ 3 _ _ _ h]; rfl
  · rw [cell_of_row w _ 4 _ _ _ h]; rfl
theorem zeroThere {w : World} {b : Nat} {T : TypeId} (h : w.heap[b]? = some (.cells #[.int .i64 0, .string { data := #[] }, .int .i64 0, .slice none 0 0, .slice none 0 0] T (0, 0))) : ∀ j, j < 5 → ∃ v, w.cell? ⟨b, 0 + j, none⟩ = some v := by
  intro j hj
  obtain ⟨r0, r1, r2, r3, r4, _⟩ := zeroFacts h
  rw [Nat.zero_add]
  match j, hj with
  | 0, _ => exact ⟨_, r0⟩
  | 1, _ => exact ⟨_, r1⟩
  | 2, _ => exact ⟨_, r2⟩
  | 3, _ => exact ⟨_, r3⟩
  | 4, _ => exact ⟨_, r4⟩
theorem zeroIn (φ : Nat → Prop) (w : World) : InV φ w zeroForm (.agg #[.int .i64 0, .string { data := #[] }, .int .i64 0, .slice none 0 0, .slice none 0 0]) := by
  unfold zeroForm InV
  exact ⟨_, none, 0, rfl, by omega, by omega, by decide, ⟨none, 0, rfl, Nat.le_refl _, Nat.zero_le _, by simp, .inl rfl⟩, Nat.le_refl _, Nat.zero_le _, .inl rfl⟩
theorem zeroOwn (w : World) : OwnV w zeroForm (.agg #[.int .i64 0, .string { data := #[] }, .int .i64 0, .slice none 0 0, .slice none 0 0]) [] := by
  unfold zeroForm OwnV
  exact ⟨_, none, 0, [], [], rfl, by omega, by omega, by decide, ⟨none, 0, rfl, Nat.le_refl _, Nat.zero_le _, by simp, .inl ⟨rfl, rfl⟩⟩, Nat.le_refl _, Nat.zero_le _, rfl, .inl ⟨rfl, rfl⟩⟩
end
end Go.Proofs.Ytbclgmabidjegaa
namespace Go.Proofs.Ytbclgmabidjegaa
section
open Go.RowKit Go.Lib Go.Sort
/-- a row that a block holds whole -/
theorem ownsRow_heap {w : World} {base g : Nat} {e : TypeId} {L : List Value} {l : List Int} (hg : w.heap[g]? = some (.cells L.toArray e (0, 0))) (hL : L = l.map (Value.int .i64)) (hb : base ≤ g) (hm : l.length ≤ maxLen) :
    w.ownsRow base e 1 (.slice (some ⟨g, 0, none⟩) l.length l.length) l.length (l.map (Value.int .i64)) :=
  ⟨by simp, .inr ⟨g, l.length, L.toArray, rfl, hb, hg, Nat.le_refl _, hm, by simp [hL], by rw [hL, Nat.mul_one, List.take_of_length_le (by simp)]⟩⟩
theorem ownsRow_grow {w : World} {os : Array Obj} {base n : Nat} {e : TypeId} {v : Value} {xs : List Value} (h : w.ownsRow base e 1 v n xs) : (grow w os).ownsRow base e 1 v n xs := by
  refine ⟨h.1, h.2.imp id ?_⟩
  rintro ⟨g, cap, cur, e1, hb, hg, h1, h2, h3, h4⟩
  exact ⟨g, cap, cur, e1, hb, by rw [heap_grow_old _ _ (Array.getElem?_eq_some_iff.1 hg).1]; exact hg, h1, h2, h3, h4⟩
theorem ownsRow_base {w : World} {base base' n : Nat} {e : TypeId} {size : Nat} {v : Value} {xs : List Value} (h : w.ownsRow base e size v n xs) (hb : base' ≤ base) : w.ownsRow base' e size v n xs := by
  refine ⟨h.1, h.2.imp id ?_⟩
  rintro ⟨g, cap, cur, e1, hb', h'⟩
  exact ⟨g, cap, cur, e1, Nat.le_trans hb hb', h'⟩
theorem ownsRow_drewN {w : World} {q base n : Nat} {e : TypeId} {v : Value} {xs : List Value} (h : w.ownsRow base e 1 v n xs) : (w.drewN q).ownsRow base e 1 v n xs := h
theorem below_grow' {B : Nat} {w0 w : World} (h : Below B w0 w) (os : Array Obj) (hB : B ≤ w.heap.size) : Below B w0 (grow w os) :=
  ⟨h.os, h.tape, h.output, by rw [size_grow]; have := h.size; omega, fun k hk => by rw [heap_grow_old _ _ (by omega)]; exact h.block k hk⟩
/-- the row made, sorted -/
theorem row_sorted {w w0 : World} {base g n cap q : Nat} {e : TypeId} {l s : List Int} {os : Array Obj} (h : w.ownsRow base e 1 (.slice (some ⟨g, 0, none⟩) n cap) n (l.map (Value.int .i64))) (hb : Below base w0 w) (hs : s.length = n) :
    (grow (putRow (Value.int .i64) (Sort.ahead w q) g 0 s.toArray) os).ownsRow base e 1 (.slice (some ⟨g, 0, none⟩) n cap) n (s.map (Value.int .i64)) ∧ Below base w0 (grow (putRow (Value.int .i64) (Sort.ahead w q) g 0 s.toArray) os) := by
  have h1 := ownsRow_putRow (q := q) (ys := s) h hs (Nat.le_refl n)
  rw [List.take_of_length_le (by omega)] at h1
  have hg : base ≤ g ∧ g < w.heap.size := by
    rcases h.2 with ⟨e0, _⟩ | ⟨g', cap', cur, e0, hb, hg, _⟩
    · cases e0
    · injection e0 with e1 _ _
      injection e1 with e1
      injection e1 with e1
      subst e1
      exact ⟨hb, (Array.getElem?_eq_some_iff.1 hg).1⟩
  refine ⟨ownsRow_grow h1, below_grow' (below_putRow hb hg.1) os ?_⟩
  simp only [putRow, mapBlock, Sort.ahead, Array.size_modify]
  omega
/-- a row cut to the first of its numbers -/
theorem row_cut {w w0 : World} {base g n cap q : Nat} {e : TypeId} {l s z : List Int} (h : w.ownsRow base e 1 (.slice (some ⟨g, 0, none⟩) n cap) n (l.map (Value.int .i64))) (hb : Below base w0 w) (hs : (s ++ z).length = n) :
    (putRow (Value.int .i64) (Sort.ahead w q) g 0 (s ++ z).toArray).ownsRow base e 1 (.slice (some ⟨g, 0, none⟩) s.length cap) s.length (s.map (Value.int .i64)) ∧ Below base w0 (putRow (Value.int .i64) (Sort.ahead w q) g 0 (s ++ z).toArray) := by
  have hle : s.length ≤ n := by rw [← hs, List.length_append]; omega
  have h1 := ownsRow_putRow (q := q) (ys := s ++ z) h hs hle
  rw [List.take_left] at h1
  have hg : base ≤ g := by
    rcases h.2 with ⟨e0, _⟩ | ⟨g', cap', cur, e0, hb, hg, _⟩
    · cases e0
    · injection e0 with e1 _ _
      injection e1 with e1
      injection e1 with e1
      subst e1
      exact hb
  exact ⟨h1, below_putRow hb hg⟩
theorem row_holds {w : World} {base g n cap : Nat} {e : TypeId} {l : List Int} (h : w.ownsRow base e 1 (.slice (some ⟨g, 0, none⟩) n cap) n (l.map (Value.int .i64))) :
    Holds (Value.int .i64) w g 0 l.toArray ∧ l.length = n ∧ n ≤ cap ∧ cap ≤ maxLen ∧ base ≤ g ∧ g < w.heap.size := by
  obtain ⟨g', cap', e0, h1, h2, h3, h4, h5, h6⟩ := holds_of_ownsRow (enc := Value.int .i64) h (by simp)
  injection e0 with e1 _ e3
  injection e1 with e1
  injection e1 with e1
  subst e1 e3
  exact ⟨h6, h5, h3, h4, h1, h2⟩
theorem madeCells_ints (n : Nat) : madeCells #[.int .i64 0] n = ((List.replicate n 0).map (Value.int .i64)).toArray := by
  unfold madeCells
  apply Array.ext_getElem?
  intro i
  by_cases h : i < n
  · simp [h, Nat.mod_one]
  · simp [h]
theorem splice2 (n m : Nat) (a b : List Value) (ha : a.length = n) (hb : b.length = m) (z : List Value) (hz : z.length = n + m) : splice (splice z 0 a) n b = a ++ b := by
  subst ha hb
  unfold splice
  simp only [List.take_zero, List.nil_append, Nat.zero_add]
  rw [List.take_left' rfl, List.drop_append]
  have : (List.drop a.length z).drop b.length = [] := by apply List.drop_eq_nil_of_le; simp; omega
  simp [this]
end
end Go.Proofs.Ytbclgmabidjegaa
