/- The first texts of this seat: letters and names, forms as data, sets of scopes, validity, small walks. -/
import Derived.Test.YtcckhcedfmadeaaDrawSets
import Derived.Test.YtcckhcedfmadeaaSlim
import Derived.Test.YtcckhcedfmadeaaData
import Derived.Test.YtcckhcedfmadeaaMids
namespace Go.Proofs.Ytcckhcedfmadeaa
section
open Go.RowKit
set_option linter.unusedVariables false
set_option linter.unusedSimpArgs false
def someNames : List ByteArray := [⟨#[97]⟩, ⟨#[98]⟩, ⟨#[120]⟩, ⟨#[121]⟩, ⟨#[102]⟩, ⟨#[105, 102]⟩, ⟨#[108, 101, 116]⟩, ⟨#[43]⟩]
theorem some_size : ∀ y ∈ someNames, y.size ≤ 13 := by decide
theorem inV_leaf (φ : Nat → Prop) (w : World) (k : Int) (nm : ByteArray) (n : Int) (hk : -9223372036854775808 ≤ k ∧ k ≤ 9223372036854775807) (hn : -9223372036854775808 ≤ n ∧ n ≤ 9223372036854775807) (hm : nm.size ≤ maxLen) :
    InV φ w (.mk k nm n [] []) (.agg #[.int .i64 k, .string nm, .int .i64 n, .slice none 0 0, .slice none 0 0]) := by
  unfold InV
  exact ⟨_, none, 0, rfl, hk, hn, hm, ⟨none, 0, rfl, Nat.le_refl _, Nat.zero_le _, by simp, .inl rfl⟩, Nat.le_refl _, Nat.zero_le _, .inl rfl⟩
theorem Slim.leaf {m s k : Nat} {kd : Int} {nm : ByteArray} {n : Int} (h : nm.size ≤ s) (hm : 1 ≤ m) : Slim m s k (.mk kd nm n [] []) := by
  have := Slim.node (kd := kd) (n := n) (sc := []) h (Nat.zero_le k) (SlimAll.nil 0 s k)
  exact this.mono hm (Nat.le_refl _) (Nat.le_refl _)
/-- what a draw of a form leaves -/
def SomePost (B b p K : Nat) (ok : Fm → Prop) (w : World) (e : Ending) (w' : World) : Prop :=
  ∃ f v p', e = .returned v ∧ InV (fun k => w.heap.size ≤ k ∧ k < w'.heap.size) w' f v ∧ ok f ∧ p' ≤ p + K ∧ Rd B w' b p' ∧ Kept b 1 2 w w'
def cntS : Nat → Nat
  | 0 => 1
  | d + 1 => 3 * cntS d + 1
def pickS : Nat → Nat
  | 0 => 2
  | d + 1 => 3 * pickS d + 3
theorem cntS_pos : ∀ d, 1 ≤ cntS d
  | 0 => Nat.le_refl _
  | d + 1 => by unfold cntS; omega
set_option maxRecDepth 100000 in
set_option maxHeartbeats 1000000 in
theorem l1Name_any (s : ByteArray) (w : World) :
    Calls Try.prog 94 #[.string s] w fun e w' => e = .returned (.agg #[.int .i64 1, .string s, .int .i64 0, .slice none 0 0, .slice none 0 0]) ∧ Below w.heap.size w w' := by
  go_enter Try.func94, Try.ntmps94
  go_wp2_with fail
  refine bodyPost_ret (v := .agg #[.int .i64 1, .string s, .int .i64 0, .slice none 0 0, .slice none 0 0]) (by simp [results, Try.results94, go_sem]) rfl ?_
  exact ⟨rfl, (Below.refl _ _).alloc (Nat.le_refl _) _⟩
/-- between two rounds of the draw of a list -/
structure GrowMid (T : TypeId) (B b : Nat) (w wr : World) (rb ob base q : Nat) (gs : List Fm) (v : Value) (xs : List Value) : Prop where
  zero : wr.heap[rb]? = some (.cells #[.int .i64 0, .string { data := #[] }, .int .i64 0, .slice none 0 0, .slice none 0 0] T (0, 0))
  o0 : wr.cell? ⟨ob, 0, none⟩ = some (.int .i64 3)
  o1 : wr.cell? ⟨ob, 1, none⟩ = some (.string { data := #[] })
  o2 : wr.cell? ⟨ob, 2, none⟩ = some (.int .i64 0)
  o3 : wr.cell? ⟨ob, 3, none⟩ = some (.slice none 0 0)
  o4 : wr.cell? ⟨ob, 4, none⟩ = some v
  free : ∀ i, wr.frozen? ⟨ob, i, none⟩ = false
  own : wr.ownsRow base T 5 v gs.length xs
  vals : RowVals (fun k => base ≤ k ∧ k < wr.heap.size ∧ v.ownBlock ≠ some k) wr gs xs
  kept : Kept b 1 2 w wr
  rd : Rd B wr b q
  fix : b < w.heap.size ∧ w.heap.size ≤ rb ∧ rb < base ∧ w.heap.size ≤ ob ∧ ob < base ∧ rb ≠ ob ∧ base ≤ wr.heap.size
theorem GrowMid.step {T : TypeId} {B b : Nat} {w wr w1 w2 w3 : World} {rb ob base q q' : Nat} {gs : List Fm} {v : Value} {xs : List Value} {g : Fm} {d0 d1 d2 d3 d4 : Value} {gq qd : Nat}
    (h : GrowMid T B b w wr rb ob base q gs v xs) (hk1 : Kept b 1 2 wr w1) (hr1 : Rd B w1 b q') (hbA : Below w1.heap.size w1 w2) (hin : InV (fun k => wr.heap.size ≤ k ∧ k < w1.heap.size) w1 g (.agg #[d0, d1, d2, d3, d4]))
    (hown : w3.ownsRow base T 5 (.slice (some ⟨gq, 0, none⟩) (gs.length + 1) qd) (gs.length + 1) (xs ++ [d0, d1, d2, d3, d4])) (hgrow : w2.grownBy w3 v.ownBlock) (hat : v.ownBlock = some gq ∨ gq = w2.heap.size) :
    GrowMid T B b w (w3.setCell ⟨ob, 4, none⟩ (.slice (some ⟨gq, 0, none⟩) (gs.length + 1) qd)) rb ob base q' (gs ++ [g]) (.slice (some ⟨gq, 0, none⟩) (gs.length + 1) qd) (xs ++ [d0, d1, d2, d3, d4]) := by
  obtain ⟨f1, f2, f3, f4, f5, f6, f7⟩ := h.fix
  have hB := hr1.1
  have hs01 := hk1.size
  have hs12 := hbA.size
  have hs23 := hgrow.size
  have hvb : ∀ k, v.ownBlock = some k → base ≤ k ∧ k < wr.heap.size := fun k e => h.own.lt k e
  have hset : (w3.setCell ⟨ob, 4, none⟩ (.slice (some ⟨gq, 0, none⟩) (gs.length + 1) qd)).heap.size = w3.heap.size := by simp [World.setCell]
  have hold3 : ∀ k, k < wr.heap.size → k ≠ b → v.ownBlock ≠ some k → w3.heap[k]? = wr.heap[k]? := fun k h1 h2 h3 => by
    rw [hgrow.block k (by omega) (Ne.symm h3), hbA.block k (by omega)]
    exact hk1.block k h1 h2
  have hold : ∀ k, k < wr.heap.size → k ≠ b → v.ownBlock ≠ some k → k ≠ ob → (w3.setCell ⟨ob, 4, none⟩ (.slice (some ⟨gq, 0, none⟩) (gs.length + 1) qd)).heap[k]? = wr.heap[k]? := fun k h1 h2 h3 h4 => by
    rw [Below.heap_setCell _ _ _ _ h4]; exact hold3 k h1 h2 h3
  have hlow : ∀ k, k < base → v.ownBlock ≠ some k := fun k hk e => by have := hvb k e; omega
  have hob : ∀ i, w3.cell? ⟨ob, i, none⟩ = wr.cell? ⟨ob, i, none⟩ := fun i => World.cell?_of_block (a := ⟨ob, i, none⟩) (hold3 ob (by omega) (by omega) (hlow ob (by omega)))
  have hgq : gq ≠ ob := by
    rcases hat with e | e
    · have := hvb gq e; omega
    · omega
  have hgqv : ∀ k, k < w2.heap.size → v.ownBlock ≠ some k → (Value.slice (some ⟨gq, 0, none⟩) (gs.length + 1) qd).ownBlock ≠ some k := fun k hk hv e => by
    simp only [Value.ownBlock, Option.some.injEq] at e
    subst e
    rcases hat with e | e
    · exact hv e
    · omega
  have hr3 : Rd B w3 b q' := hr1.same fun k hk => by
    rw [hgrow.block k (by omega) (fun e => by have := hvb k e.symm; omega)]
    exact hbA.block k (by have := hr1.lt; omega)
  have hb1 : w3.heap[b]? = w1.heap[b]? := by
    rw [hgrow.block b (by omega) (fun e => by have := hvb b e.symm; omega)]
    exact hbA.block b (by omega)
  have hk3 : Kept b 1 2 w w3 := ⟨hgrow.os.trans (hbA.os.trans (hk1.os.trans h.kept.os)), hgrow.tape.trans (hbA.tape.trans (hk1.tape.trans h.kept.tape)), hgrow.output.trans (hbA.output.trans (hk1.output.trans h.kept.output)), by have := h.kept.size; omega,
    fun k h1 h2 => (hold3 k (by omega) h2 (hlow k (by omega))).trans (h.kept.block k h1 h2),
    fun o ho => (World.cell?_of_block (a := ⟨b, o, none⟩) hb1).trans ((hk1.cell o ho).trans (h.kept.cell o ho)), fun o => (World.frozen?_of_block (a := ⟨b, o, none⟩) hb1).trans ((hk1.frozen o).trans (h.kept.frozen o))⟩
  refine ⟨?_, ?_, ?_, ?_, ?_, ?_, ?_, ?_, ?_, hk3.setNew f1 f4, hr3.setOther (by omega) (by omega), f1, f2, f3, f4, f5, f6, by rw [hset]; omega⟩
  · rw [hold rb (by omega) (by omega) (hlow rb (by omega)) f6]; exact h.zero
  · rw [World.cell?_setCell_other _ _ _ _ (addr_ne (by omega)), hob]; exact h.o0
  · rw [World.cell?_setCell_other _ _ _ _ (addr_ne (by omega)), hob]; exact h.o1
  · rw [World.cell?_setCell_other _ _ _ _ (addr_ne (by omega)), hob]; exact h.o2
  · rw [World.cell?_setCell_other _ _ _ _ (addr_ne (by omega)), hob]; exact h.o3
  · exact World.cell?_setCell_same _ _ _ ((hob 4).trans h.o4)
  · intro i
    rw [World.frozen?_setCell]
    exact (World.frozen?_of_block (a := ⟨ob, i, none⟩) (hold3 ob (by omega) (by omega) (hlow ob (by omega)))).trans (h.free i)
  · rw [List.length_append, List.length_singleton]
    exact ownsRow_setFar hown hgq
  · refine RowVals.snoc (InV.mono ?_ _ _ (InV.later (w := w1) ?_ _ _ hin)) (h.vals.keep ?_ ?_)
    · rintro k ⟨k1, k2⟩
      exact ⟨by omega, by rw [hset]; omega, hgqv k (by omega) (fun e => by have := hvb k e; omega)⟩
    · rintro k ⟨k1, k2⟩
      rw [Below.heap_setCell _ _ _ _ (show k ≠ ob by omega), hgrow.block k (by omega) (fun e => by have := hvb k e.symm; omega)]
      exact hbA.block k k2
    · rintro k ⟨k1, k2, k3⟩
      exact hold k k2 (by omega) k3 (by omega)
    · rintro k ⟨k1, k2, k3⟩
      exact ⟨k1, by rw [hset]; omega, hgqv k (by omega) k3⟩
/-- at the end: what the form reads as -/
theorem GrowMid.ends {T : TypeId} {B b : Nat} {w wr : World} {rb ob base q : Nat} {gs : List Fm} {v : Value} {xs : List Value} (h : GrowMid T B b w wr rb ob base q gs v xs) :
    InV (fun k => w.heap.size ≤ k ∧ k < wr.heap.size ∧ k ≠ rb) wr (.mk 3 ByteArray.empty 0 [] gs) (.agg #[.int .i64 3, .string { data := #[] }, .int .i64 0, .slice none 0 0, v]) := by
  obtain ⟨f1, f2, f3, f4, f5, f6, f7⟩ := h.fix
  have hints : IntRow (fun k => w.heap.size ≤ k ∧ k < wr.heap.size ∧ k ≠ rb) wr (.slice none 0 0) [] := ⟨none, 0, rfl, Nat.le_refl _, Nat.zero_le _, by simp, .inl rfl⟩
  unfold InV
  rcases h.own.2 with ⟨e, h0⟩ | ⟨g, cp, cur, e, hb, hg, hnc, hcm, _⟩
  · refine ⟨_, none, 0, ?_, by omega, by omega, by simp [maxLen], hints, by omega, Nat.zero_le _, .inl (List.length_eq_zero_iff.1 h0)⟩
    rw [e, h0]; rfl
  · refine ⟨_, some ⟨g, 0, none⟩, cp, by rw [e]; rfl, by omega, by omega, by simp [maxLen], hints, hnc, hcm, .inr ⟨g, 0, rfl, ⟨by omega, (Array.getElem?_eq_some_iff.1 hg).1, by omega⟩, ?_⟩⟩
    refine RowVals.row (h.vals.keep (fun _ _ => rfl) fun k hk => ⟨by omega, hk.2.1, by omega⟩) fun j u hj => ?_
    have := h.own.cells (g := g) (by rw [e]; rfl) j u hj
    unfold Addr.add at this
    split at this <;> simp_all
theorem GrowMid.start {T : TypeId} {B b : Nat} {w W : World} {rb ob q : Nat} (hz : W.heap[rb]? = some (.cells #[.int .i64 0, .string { data := #[] }, .int .i64 0, .slice none 0 0, .slice none 0 0] T (0, 0)))
    (ho : W.heap[ob]? = some (.cells #[.int .i64 3, .string { data := #[] }, .int .i64 0, .slice none 0 0, .slice none 0 0] T (0, 0))) (hk : Kept b 1 2 w W) (hr : Rd B W b q) (f1 : b < w.heap.size) (f2 : w.heap.size ≤ rb) (f3 : rb < ob) :
    GrowMid T B b w W rb ob (ob + 1) q [] (.slice none 0 0) [] := by
  have hpl : Plain W ob := ⟨_, _, ho⟩
  have hlt : ob < W.heap.size := (Array.getElem?_eq_some_iff.1 ho).1
  exact ⟨hz, by rw [cell_of_row W ob 0 _ _ _ ho]; rfl, by rw [cell_of_row W ob 1 _ _ _ ho]; rfl, by rw [cell_of_row W ob 2 _ _ _ ho]; rfl, by rw [cell_of_row W ob 3 _ _ _ ho]; rfl, by rw [cell_of_row W ob 4 _ _ _ ho]; rfl,
    fun i => hpl.frozen i, World.ownsRow_nil _ _ _ _, rfl, hk, hr, f1, f2, by omega, by omega, by omega, by omega, by omega⟩
end
end Go.Proofs.Ytcckhcedfmadeaa
namespace Go.Proofs.Ytcckhcedfmadeaa
section
open Go.RowKit
set_option linter.unusedVariables false
set_option linter.unusedSimpArgs false
structure DressMid (T U : TypeId) (B b : Nat) (w wr : World) (rb ob lo hi q : Nat) (kd : Int) (nm : ByteArray) (n : Int) (sc : List Int) (gs : List Fm) (sa : Option Addr) (scap : Nat) (a : Option Addr) (cap : Nat) (xs : List Value) : Prop where
  zero : wr.heap[rb]? = some (.cells #[.int .i64 0, .string { data := #[] }, .int .i64 0, .slice none 0 0, .slice none 0 0] T (0, 0))
  o0 : wr.cell? ⟨ob, 0, none⟩ = some (.int .i64 kd)
  o1 : wr.cell? ⟨ob, 1, none⟩ = some (.string nm)
  o2 : wr.cell? ⟨ob, 2, none⟩ = some (.int .i64 n)
  o3 : wr.cell? ⟨ob, 3, none⟩ = some (.slice sa sc.length scap)
  o4 : wr.cell? ⟨ob, 4, none⟩ = some (.slice a gs.length cap)
  free : ∀ i, wr.frozen? ⟨ob, i, none⟩ = false
  srow : wr.ownsRow lo U 1 (.slice sa sc.length scap) sc.length (sc.map (Value.int .i64))
  krow : wr.ownsRow lo T 5 (.slice a gs.length cap) gs.length xs
  vals : RowVals (fun k => lo ≤ k ∧ k < hi ∧ k ≠ ob ∧ (Value.slice a gs.length cap).ownBlock ≠ some k ∧ (Value.slice sa sc.length scap).ownBlock ≠ some k) wr gs xs
  ne : ∀ k, (Value.slice sa sc.length scap).ownBlock = some k → k < hi ∧ k ≠ ob ∧ (Value.slice a gs.length cap).ownBlock ≠ some k
  nk : ∀ k, (Value.slice a gs.length cap).ownBlock = some k → k < hi ∧ k ≠ ob
  kept : Kept b 1 2 w wr
  rd : Rd B wr b q
  fix : b < w.heap.size ∧ w.heap.size ≤ rb ∧ rb < lo ∧ lo ≤ ob ∧ ob < hi ∧ hi ≤ wr.heap.size
section
variable {T U : TypeId} {B b : Nat} {w wr : World} {rb ob lo hi q : Nat} {kd : Int} {nm : ByteArray} {n : Int} {sc : List Int} {gs : List Fm} {sa : Option Addr} {scap : Nat} {a : Option Addr} {cap : Nat} {xs : List Value}
/-- whatever turned no block but the source's -/
theorem DressMid.keep {w1 : World} {q' : Nat} (h : DressMid T U B b w wr rb ob lo hi q kd nm n sc gs sa scap a cap xs) (hk : Kept b 1 2 wr w1) (hr : Rd B w1 b q') : DressMid T U B b w w1 rb ob lo hi q' kd nm n sc gs sa scap a cap xs := by
  obtain ⟨f1, f2, f3, f4, f5, f6⟩ := h.fix
  have hs := hk.size
  have hold : ∀ k, k < wr.heap.size → k ≠ b → w1.heap[k]? = wr.heap[k]? := hk.block
  have hob : ∀ i, w1.cell? ⟨ob, i, none⟩ = wr.cell? ⟨ob, i, none⟩ := fun i => World.cell?_of_block (a := ⟨ob, i, none⟩) (hold ob (by omega) (by omega))
  refine ⟨(hold rb (by omega) (by omega)).trans h.zero, (hob 0).trans h.o0, (hob 1).trans h.o1, (hob 2).trans h.o2, (hob 3).trans h.o3, (hob 4).trans h.o4,
    fun i => (World.frozen?_of_block (a := ⟨ob, i, none⟩) (hold ob (by omega) (by omega))).trans (h.free i), ownsRow_same h.srow fun k e => hold k (h.srow.lt k e).2 (by have := h.srow.lt k e; omega), ownsRow_same h.krow fun k e => hold k (h.krow.lt k e).2 (by have := h.krow.lt k e; omega),
    h.vals.keep (fun k hk' => hold k (by omega) (by omega)) fun k hk' => hk', h.ne, h.nk, h.kept.trans hk, hr, f1, f2, f3, f4, f5, by omega⟩
theorem DressMid.later {w1 : World} (h : DressMid T U B b w wr rb ob lo hi q kd nm n sc gs sa scap a cap xs) (hb : Below wr.heap.size wr w1) : DressMid T U B b w w1 rb ob lo hi q kd nm n sc gs sa scap a cap xs :=
  h.keep (Kept.of_below hb h.rd.lt) (h.rd.later hb)
theorem DressMid.up {hi' : Nat} (h : DressMid T U B b w wr rb ob lo hi q kd nm n sc gs sa scap a cap xs) (h1 : hi ≤ hi') (h2 : hi' ≤ wr.heap.size) : DressMid T U B b w wr rb ob lo hi' q kd nm n sc gs sa scap a cap xs := by
  obtain ⟨f1, f2, f3, f4, f5, f6⟩ := h.fix
  exact ⟨h.zero, h.o0, h.o1, h.o2, h.o3, h.o4, h.free, h.srow, h.krow, h.vals.keep (fun _ _ => rfl) fun k hk => ⟨hk.1, by omega, hk.2.2⟩, fun k e => by have := h.ne k e; exact ⟨by omega, this.2⟩, fun k e => by have := h.nk k e; exact ⟨by omega, this.2⟩, h.kept, h.rd, f1, f2, f3, f4, by omega, h2⟩
/-- a kid is replaced -/
theorem DressMid.setKid {φ : Nat → Prop} {G : Fm} {g i : Nat} {d0 d1 d2 d3 d4 : Value} (h : DressMid T U B b w wr rb ob lo hi q kd nm n sc gs sa scap (some ⟨g, 0, none⟩) cap xs) (hi' : i < gs.length) (hG : InV φ wr G (.agg #[d0, d1, d2, d3, d4]))
    (hφ : ∀ k, φ k → hi ≤ k ∧ k < wr.heap.size) :
    DressMid T U B b w (set5 wr g (i * 5) d0 d1 d2 d3 d4) rb ob lo wr.heap.size q kd nm n sc (gs.set i G) sa scap (some ⟨g, 0, none⟩) cap (set5L xs (i * 5) d0 d1 d2 d3 d4) := by
  obtain ⟨f1, f2, f3, f4, f5, f6⟩ := h.fix
  have hg := h.nk g rfl
  have hgl := h.krow.lt g rfl
  have hB := h.rd.1
  have hz := set5_size wr g (i * 5) d0 d1 d2 d3 d4
  have hold : ∀ k, k ≠ g → (set5 wr g (i * 5) d0 d1 d2 d3 d4).heap[k]? = wr.heap[k]? := fun k hk => set5_block _ _ _ _ _ _ _ _ hk
  have hob : ∀ j, (set5 wr g (i * 5) d0 d1 d2 d3 d4).cell? ⟨ob, j, none⟩ = wr.cell? ⟨ob, j, none⟩ := fun j => World.cell?_of_block (a := ⟨ob, j, none⟩) (hold ob (Ne.symm hg.2))
  have hlen : (gs.set i G).length = gs.length := by simp
  have hkr := ownsRow_set5 h.krow hi' d0 d1 d2 d3 d4
  have hvals : RowVals (fun k => lo ≤ k ∧ k < wr.heap.size ∧ k ≠ ob ∧ (Value.slice (some ⟨g, 0, none⟩) gs.length cap).ownBlock ≠ some k ∧ (Value.slice sa sc.length scap).ownBlock ≠ some k) (set5 wr g (i * 5) d0 d1 d2 d3 d4) gs xs :=
    h.vals.keep (fun k hk => hold k (fun e => hk.2.2.2.1 (by rw [e]; rfl))) fun k hk => ⟨hk.1, by omega, hk.2.2⟩
  have hG2 : InV (fun k => lo ≤ k ∧ k < wr.heap.size ∧ k ≠ ob ∧ (Value.slice (some ⟨g, 0, none⟩) gs.length cap).ownBlock ≠ some k ∧ (Value.slice sa sc.length scap).ownBlock ≠ some k) (set5 wr g (i * 5) d0 d1 d2 d3 d4) G (.agg #[d0, d1, d2, d3, d4]) :=
    InV.mono (fun k hk => by
      have h1 := hφ k hk
      refine ⟨by omega, h1.2, by omega, fun e => ?_, fun e => ?_⟩
      · have := h.nk k e; omega
      · have := h.ne k e; omega) _ _ (InV.later (fun k hk => hold k (by have := hφ k hk; omega)) _ _ hG)
  have hv2 := RowVals.set hG2 i hvals
  rw [if_pos hi'] at hv2
  refine ⟨(hold rb (by omega)).trans h.zero, (hob 0).trans h.o0, (hob 1).trans h.o1, (hob 2).trans h.o2, (hob 3).trans h.o3, (hob 4).trans (by rw [hlen]; exact h.o4), fun j => by rw [set5_frozen]; exact h.free j,
    ownsRow_same h.srow fun k e => hold k (fun e2 => by have := (h.ne k e).2.2; subst e2; exact this rfl), by rw [hlen]; exact hkr, by rw [hlen]; exact hv2, fun k e => by rw [hlen]; have := h.ne k e; exact ⟨by omega, this.2⟩, fun k e => by rw [hlen] at e; have := h.nk k e; exact ⟨by omega, this.2⟩, ?_, ?_, f1, f2, f3, f4, by omega, by rw [hz]; exact Nat.le_refl _⟩
  · unfold set5
    exact ((((h.kept.setNew f1 (by omega)).setNew f1 (by omega)).setNew f1 (by omega)).setNew f1 (by omega)).setNew f1 (by omega)
  · exact h.rd.same fun k hk => hold k (by rcases hk with hk | hk <;> omega)
/-- its scopes are replaced by a row that was made later -/
theorem DressMid.setScopes {sc' : List Int} {sa' : Option Addr} {scap' : Nat} (h : DressMid T U B b w wr rb ob lo hi q kd nm n sc gs sa scap a cap xs) (hown : wr.ownsRow hi U 1 (.slice sa' sc'.length scap') sc'.length (sc'.map (Value.int .i64))) :
    DressMid T U B b w (wr.setCell ⟨ob, 3, none⟩ (.slice sa' sc'.length scap')) rb ob lo wr.heap.size q kd nm n sc' gs sa' scap' a cap xs := by
  obtain ⟨f1, f2, f3, f4, f5, f6⟩ := h.fix
  have hB := h.rd.1
  have hold : ∀ k, k ≠ ob → (wr.setCell ⟨ob, 3, none⟩ (.slice sa' sc'.length scap')).heap[k]? = wr.heap[k]? := fun k hk => Below.heap_setCell _ _ _ _ hk
  have hz : (wr.setCell ⟨ob, 3, none⟩ (.slice sa' sc'.length scap')).heap.size = wr.heap.size := by simp [World.setCell]
  have hnew := fun k e => hown.lt k e
  refine ⟨(hold rb (by omega)).trans h.zero, ?_, ?_, ?_, World.cell?_setCell_same _ _ _ h.o3, ?_, fun i => by rw [World.frozen?_setCell]; exact h.free i, ownsRow_lo (ownsRow_same hown fun k e => hold k (by have := hnew k e; omega)) (by omega),
    ownsRow_same h.krow fun k e => hold k (h.nk k e).2, h.vals.keep (fun k hk => hold k hk.2.2.1) fun k hk => ⟨hk.1, by omega, hk.2.2.1, hk.2.2.2.1, fun e => by have := hnew k e; omega⟩, fun k e => ?_, fun k e => by have := h.nk k e; exact ⟨by omega, this.2⟩, h.kept.setNew f1 (by omega), h.rd.setOther (by omega) (by omega), f1, f2, f3, f4, by omega, by rw [hz]; exact Nat.le_refl _⟩
  · rw [World.cell?_setCell_other _ _ _ _ (addr_ne (by omega))]; exact h.o0
  · rw [World.cell?_setCell_other _ _ _ _ (addr_ne (by omega))]; exact h.o1
  · rw [World.cell?_setCell_other _ _ _ _ (addr_ne (by omega))]; exact h.o2
  · rw [World.cell?_setCell_other _ _ _ _ (addr_ne (by omega))]; exact h.o4
  · have h1 := hnew k e
    exact ⟨h1.2, by omega, fun e2 => by have := h.nk k e2; omega⟩
theorem DressMid.setKind {kd' : Int} (h : DressMid T U B b w wr rb ob lo hi q kd nm n sc gs sa scap a cap xs) : DressMid T U B b w (wr.setCell ⟨ob, 0, none⟩ (.int .i64 kd')) rb ob lo hi q kd' nm n sc gs sa scap a cap xs := by
  obtain ⟨f1, f2, f3, f4, f5, f6⟩ := h.fix
  have hB := h.rd.1
  have hold : ∀ k, k ≠ ob → (wr.setCell ⟨ob, 0, none⟩ (.int .i64 kd')).heap[k]? = wr.heap[k]? := fun k hk => Below.heap_setCell _ _ _ _ hk
  have hz : (wr.setCell ⟨ob, 0, none⟩ (.int .i64 kd')).heap.size = wr.heap.size := by simp [World.setCell]
  refine ⟨(hold rb (by omega)).trans h.zero, World.cell?_setCell_same _ _ _ h.o0, ?_, ?_, ?_, ?_, fun i => by rw [World.frozen?_setCell]; exact h.free i, ownsRow_same h.srow fun k e => hold k (h.ne k e).2.1,
    ownsRow_same h.krow fun k e => hold k (h.nk k e).2, h.vals.keep (fun k hk => hold k hk.2.2.1) fun k hk => hk, h.ne, h.nk, h.kept.setNew f1 (by omega), h.rd.setOther (by omega) (by omega), f1, f2, f3, f4, f5, by rw [hz]; exact f6⟩
  · rw [World.cell?_setCell_other _ _ _ _ (addr_ne (by omega))]; exact h.o1
  · rw [World.cell?_setCell_other _ _ _ _ (addr_ne (by omega))]; exact h.o2
  · rw [World.cell?_setCell_other _ _ _ _ (addr_ne (by omega))]; exact h.o3
  · rw [World.cell?_setCell_other _ _ _ _ (addr_ne (by omega))]; exact h.o4
theorem DressMid.setName {nm' : ByteArray} (h : DressMid T U B b w wr rb ob lo hi q kd nm n sc gs sa scap a cap xs) : DressMid T U B b w (wr.setCell ⟨ob, 1, none⟩ (.string nm')) rb ob lo hi q kd nm' n sc gs sa scap a cap xs := by
  obtain ⟨f1, f2, f3, f4, f5, f6⟩ := h.fix
  have hB := h.rd.1
  have hold : ∀ k, k ≠ ob → (wr.setCell ⟨ob, 1, none⟩ (.string nm')).heap[k]? = wr.heap[k]? := fun k hk => Below.heap_setCell _ _ _ _ hk
  have hz : (wr.setCell ⟨ob, 1, none⟩ (.string nm')).heap.size = wr.heap.size := by simp [World.setCell]
  refine ⟨(hold rb (by omega)).trans h.zero, ?_, World.cell?_setCell_same _ _ _ h.o1, ?_, ?_, ?_, fun i => by rw [World.frozen?_setCell]; exact h.free i, ownsRow_same h.srow fun k e => hold k (h.ne k e).2.1,
    ownsRow_same h.krow fun k e => hold k (h.nk k e).2, h.vals.keep (fun k hk => hold k hk.2.2.1) fun k hk => hk, h.ne, h.nk, h.kept.setNew f1 (by omega), h.rd.setOther (by omega) (by omega), f1, f2, f3, f4, f5, by rw [hz]; exact f6⟩
  · rw [World.cell?_setCell_other _ _ _ _ (addr_ne (by omega))]; exact h.o0
  · rw [World.cell?_setCell_other _ _ _ _ (addr_ne (by omega))]; exact h.o2
  · rw [World.cell?_setCell_other _ _ _ _ (addr_ne (by omega))]; exact h.o3
  · rw [World.cell?_setCell_other _ _ _ _ (addr_ne (by omega))]; exact h.o4
theorem DressMid.setN {n' : Int} (h : DressMid T U B b w wr rb ob lo hi q kd nm n sc gs sa scap a cap xs) : DressMid T U B b w (wr.setCell ⟨ob, 2, none⟩ (.int .i64 n')) rb ob lo hi q kd nm n' sc gs sa scap a cap xs := by
  obtain ⟨f1, f2, f3, f4, f5, f6⟩ := h.fix
  have hB := h.rd.1
  have hold : ∀ k, k ≠ ob → (wr.setCell ⟨ob, 2, none⟩ (.int .i64 n')).heap[k]? = wr.heap[k]? := fun k hk => Below.heap_setCell _ _ _ _ hk
  have hz : (wr.setCell ⟨ob, 2, none⟩ (.int .i64 n')).heap.size = wr.heap.size := by simp [World.setCell]
  refine ⟨(hold rb (by omega)).trans h.zero, ?_, ?_, World.cell?_setCell_same _ _ _ h.o2, ?_, ?_, fun i => by rw [World.frozen?_setCell]; exact h.free i, ownsRow_same h.srow fun k e => hold k (h.ne k e).2.1,
    ownsRow_same h.krow fun k e => hold k (h.nk k e).2, h.vals.keep (fun k hk => hold k hk.2.2.1) fun k hk => hk, h.ne, h.nk, h.kept.setNew f1 (by omega), h.rd.setOther (by omega) (by omega), f1, f2, f3, f4, f5, by rw [hz]; exact f6⟩
  · rw [World.cell?_setCell_other _ _ _ _ (addr_ne (by omega))]; exact h.o0
  · rw [World.cell?_setCell_other _ _ _ _ (addr_ne (by omega))]; exact h.o1
  · rw [World.cell?_setCell_other _ _ _ _ (addr_ne (by omega))]; exact h.o3
  · rw [World.cell?_setCell_other _ _ _ _ (addr_ne (by omega))]; exact h.o4
/-- at the end -/
theorem DressMid.ends (h : DressMid T U B b w wr rb ob lo hi q kd nm n sc gs sa scap a cap xs) (hk : -9223372036854775808 ≤ kd ∧ kd ≤ 9223372036854775807) (hn : -9223372036854775808 ≤ n ∧ n ≤ 9223372036854775807) (hm : nm.size ≤ maxLen)
    (hs : ∀ n ∈ sc, -9223372036854775808 ≤ n ∧ n ≤ 9223372036854775807) :
    InV (fun k => w.heap.size ≤ k ∧ k < wr.heap.size ∧ k ≠ rb) wr (.mk kd nm n sc gs) (.agg #[.int .i64 kd, .string nm, .int .i64 n, .slice sa sc.length scap, .slice a gs.length cap]) := by
  obtain ⟨f1, f2, f3, f4, f5, f6⟩ := h.fix
  have hints : IntRow (fun k => w.heap.size ≤ k ∧ k < wr.heap.size ∧ k ≠ rb) wr (.slice sa sc.length scap) sc := (ownsRow_intRow h.srow hs).mono fun k hk => ⟨by omega, by omega, by omega⟩
  unfold InV
  rcases h.krow.2 with ⟨e, h0⟩ | ⟨g, cp, cur, e, hb, hg, hnc, hcm, _⟩
  · injection e with e1 e2 e3
    subst e1 e3
    exact ⟨_, none, 0, rfl, hk, hn, hm, hints, by omega, Nat.zero_le _, .inl (List.length_eq_zero_iff.1 h0)⟩
  · injection e with e1 e2 e3
    subst e1 e3
    refine ⟨_, some ⟨g, 0, none⟩, cap, rfl, hk, hn, hm, hints, hnc, hcm, .inr ⟨g, 0, rfl, ⟨by omega, (Array.getElem?_eq_some_iff.1 hg).1, by omega⟩, ?_⟩⟩
    refine RowVals.row (h.vals.keep (fun _ _ => rfl) fun k hk => ⟨by omega, by omega, by omega⟩) fun j u hj => ?_
    have := h.krow.cells (g := g) rfl j u hj
    unfold Addr.add at this
    split at this <;> simp_all
/-- at the start: a copy is laid into the variable -/
theorem DressMid.start {f : Fm} {W : World} {O : Nat} (ht : TopAt T U lo W f sa scap a cap xs) (hz : W.heap[rb]? = some (.cells #[.int .i64 0, .string { data := #[] }, .int .i64 0, .slice none 0 0, .slice none 0 0] T (0, 0)))
    (hk : Kept b 1 2 w W) (hr : Rd B W b q) (f1 : b < w.heap.size) (f2 : w.heap.size ≤ rb) (f3 : rb < lo) (f4 : lo ≤ W.heap.size) :
    DressMid T U B b w (W.alloc (.cells #[.int .i64 f.kind, .string f.name, .int .i64 f.n, .slice sa f.scopes.length scap, .slice a f.kids.length cap] T)) rb W.heap.size lo (W.heap.size + 1) q f.kind f.name f.n f.scopes f.kids sa scap a cap xs := by
  have hb := below_alloc W (.cells #[.int .i64 f.kind, .string f.name, .int .i64 f.n, .slice sa f.scopes.length scap, .slice a f.kids.length cap] T)
  have hold : ∀ k, k < W.heap.size → (W.alloc (.cells #[.int .i64 f.kind, .string f.name, .int .i64 f.n, .slice sa f.scopes.length scap, .slice a f.kids.length cap] T)).heap[k]? = W.heap[k]? := hb.block
  refine ⟨(hold rb (by omega)).trans hz, World.cell?_alloc_at _ _ _ _ rfl, World.cell?_alloc_at _ _ _ _ rfl, World.cell?_alloc_at _ _ _ _ rfl, World.cell?_alloc_at _ _ _ _ rfl, World.cell?_alloc_at _ _ _ _ rfl, fun i => World.frozen?_alloc_at _ _ _ _ rfl,
    ht.srow.alloc _, ht.krow.alloc _, ht.vals.keep (fun k hk => hold k hk.2.1) fun k hk => ⟨hk.1, by omega, by omega, hk.2.2.1, hk.2.2.2⟩, fun k e => ?_, fun k e => ?_, hk.later hb f1, hr.later hb, f1, f2, f3, f4, by omega, by simp⟩
  · have h1 := ht.srow.lt k e
    refine ⟨by omega, by omega, fun e2 => ?_⟩
    rcases ht.ne with h | h
    · rw [h] at e; cases e
    · exact h (e.trans e2.symm)
  · have h1 := ht.krow.lt k e
    exact ⟨by omega, by omega⟩
end
end
end Go.Proofs.Ytcckhcedfmadeaa
