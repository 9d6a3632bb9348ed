/- A form in a variable that the model changes in place: what holds between two steps. -/
import Derived.Test.YtmakaoomdnlebaaDrawSome
namespace Go.Proofs.Ytmakaoomdnlebaa
open Go.RowKit
set_option linter.unusedVariables false
set_option linter.unusedSimpArgs false
structure DressMid (T U : TypeId) (B b : Nat) (w wr : World) (rb ob lo hi q : Nat) (kd : Int) (nm : ByteArray) (n : Int) (sc : List Int) (gs : List Fm) (sa : Option Addr) (scap : Nat) (a : Option Addr) (cap : Nat) (xs : List Value) : Prop where
  zero : wr.heap[rb]? = some (.cells #[.int .i64 0, .string { data := #[] }, .int .i64 0, .slice none 0 0, .slice none 0 0] T (0, 0))
  o0 : wr.cell? ⟨ob, 0, none⟩ = some (.int .i64 kd)
  o1 : wr.cell? ⟨ob, 1, none⟩ = some (.string nm)
  o2 : wr.cell? ⟨ob, 2, none⟩ = some (.int .i64 n)
  o3 : wr.cell? ⟨ob, 3, none⟩ = some (.slice sa sc.length scap)
  o4 : wr.cell? ⟨ob, 4, none⟩ = some (.slice a gs.length cap)
  free : ∀ i, wr.frozen? ⟨ob, i, none⟩ = false
  srow : wr.ownsRow lo U 1 (.slice sa sc.length scap) sc.length (sc.map (Value.int .i64))
  krow : wr.ownsRow lo T 5 (.slice a gs.length cap) gs.length xs
  vals : RowVals (fun k => lo ≤ k ∧ k < hi ∧ k ≠ ob ∧ (Value.slice a gs.length cap).ownBlock ≠ some k ∧ (Value.slice sa sc.length scap).ownBlock ≠ some k) wr gs xs
  ne : ∀ k, (Value.slice sa sc.length scap).ownBlock = some k → k < hi ∧ k ≠ ob ∧ (Value.slice a gs.length cap).ownBlock ≠ some k
  nk : ∀ k, (Value.slice a gs.length cap).ownBlock = some k → k < hi ∧ k ≠ ob
  kept : Kept b 1 2 w wr
  rd : Rd B wr b q
  fix : b < w.heap.size ∧ w.heap.size ≤ rb ∧ rb < lo ∧ lo ≤ ob ∧ ob < hi ∧ hi ≤ wr.heap.size
section
variable {T U : TypeId} {B b : Nat} {w wr : World} {rb ob lo hi q : Nat} {kd : Int} {nm : ByteArray} {n : Int} {sc : List Int} {gs : List Fm} {sa : Option Addr} {scap : Nat} {a : Option Addr} {cap : Nat} {xs : List Value}
/-- whatever turned no block but the source's -/
theorem DressMid.keep {w1 : World} {q' : Nat} (h : DressMid T U B b w wr rb ob lo hi q kd nm n sc gs sa scap a cap xs) (hk : Kept b 1 2 wr w1) (hr : Rd B w1 b q') : DressMid T U B b w w1 rb ob lo hi q' kd nm n sc gs sa scap a cap xs := by
  obtain ⟨f1, f2, f3, f4, f5, f6⟩ := h.fix
  have hs := hk.size
  have hold : ∀ k, k < wr.heap.size → k ≠ b → w1.heap[k]? = wr.heap[k]? := hk.block
  have hob : ∀ i, w1.cell? ⟨ob, i, none⟩ = wr.cell? ⟨ob, i, none⟩ := fun i => World.cell?_of_block (a := ⟨ob, i, none⟩) (hold ob (by omega) (by omega))
  refine ⟨(hold rb (by omega) (by omega)).trans h.zero, (hob 0).trans h.o0, (hob 1).trans h.o1, (hob 2).trans h.o2, (hob 3).trans h.o3, (hob 4).trans h.o4,
    fun i => (World.frozen?_of_block (a := ⟨ob, i, none⟩) (hold ob (by omega) (by omega))).trans (h.free i), ownsRow_same h.srow fun k e => hold k (h.srow.lt k e).2 (by have := h.srow.lt k e; omega), ownsRow_same h.krow fun k e => hold k (h.krow.lt k e).2 (by have := h.krow.lt k e; omega),
    h.vals.keep (fun k hk' => hold k (by omega) (by omega)) fun k hk' => hk', h.ne, h.nk, h.kept.trans hk, hr, f1, f2, f3, f4, f5, by omega⟩
theorem DressMid.later {w1 : World} (h : DressMid T U B b w wr rb ob lo hi q kd nm n sc gs sa scap a cap xs) (hb : Below wr.heap.size wr w1) : DressMid T U B b w w1 rb ob lo hi q kd nm n sc gs sa scap a cap xs :=
  h.keep (Kept.of_below hb h.rd.lt) (h.rd.later hb)
theorem DressMid.up {hi' : Nat} (h : DressMid T U B b w wr rb ob lo hi q kd nm n sc gs sa scap a cap xs) (h1 : hi ≤ hi') (h2 : hi' ≤ wr.heap.size) : DressMid T U B b w wr rb ob lo hi' q kd nm n sc gs sa scap a cap xs := by
  obtain ⟨f1, f2, f3, f4, f5, f6⟩ := h.fix
  exact ⟨h.zero, h.o0, h.o1, h.o2, h.o3, h.o4, h.free, h.srow, h.krow, h.vals.keep (fun _ _ => rfl) fun k hk => ⟨hk.1, by omega, hk.2.2⟩, fun k e => by have := h.ne k e; exact ⟨by omega, this.2⟩, fun k e => by have := h.nk k e; exact ⟨by omega, this.2⟩, h.kept, h.rd, f1, f2, f3, f4, by omega, h2⟩
/-- a kid is replaced -/
theorem DressMid.setKid {φ : Nat → Prop} {G : Fm} {g i : Nat} {d0 d1 d2 d3 d4 : Value} (h : DressMid T U B b w wr rb ob lo hi q kd nm n sc gs sa scap (some ⟨g, 0, none⟩) cap xs) (hi' : i < gs.length) (hG : InV φ wr G (.agg #[d0, d1, d2, d3, d4]))
    (hφ : ∀ k, φ k → hi ≤ k ∧ k < wr.heap.size) :
    DressMid T U B b w (set5 wr g (i * 5) d0 d1 d2 d3 d4) rb ob lo wr.heap.size q kd nm n sc (gs.set i G) sa scap (some ⟨g, 0, none⟩) cap (set5L xs (i * 5) d0 d1 d2 d3 d4) := by
  obtain ⟨f1, f2, f3, f4, f5, f6⟩ := h.fix
  have hg := h.nk g rfl
  have hgl := h.krow.lt g rfl
  have hB := h.rd.1
  have hz := set5_size wr g (i * 5) d0 d1 d2 d3 d4
  have hold : ∀ k, k ≠ g → (set5 wr g (i * 5) d0 d1 d2 d3 d4).heap[k]? = wr.heap[k]? := fun k hk => set5_block _ _ _ _ _ _ _ _ hk
  have hob : ∀ j, (set5 wr g (i * 5) d0 d1 d2 d3 d4).cell? ⟨ob, j, none⟩ = wr.cell? ⟨ob, j, none⟩ := fun j => World.cell?_of_block (a := ⟨ob, j, none⟩) (hold ob (Ne.symm hg.2))
  have hlen : (gs.set i G).length = gs.length := by simp
  have hkr := ownsRow_set5 h.krow hi' d0 d1 d2 d3 d4
  have hvals : RowVals (fun k => lo ≤ k ∧ k < wr.heap.size ∧ k ≠ ob ∧ (Value.slice (some ⟨g, 0, none⟩) gs.length cap).ownBlock ≠ some k ∧ (Value.slice sa sc.length scap).ownBlock ≠ some k) (set5 wr g (i * 5) d0 d1 d2 d3 d4) gs xs :=
    h.vals.keep (fun k hk => hold k (fun e => hk.2.2.2.1 (by rw [e]; rfl))) fun k hk => ⟨hk.1, by omega, hk.2.2⟩
  have hG2 : InV (fun k => lo ≤ k ∧ k < wr.heap.size ∧ k ≠ ob ∧ (Value.slice (some ⟨g, 0, none⟩) gs.length cap).ownBlock ≠ some k ∧ (Value.slice sa sc.length scap).ownBlock ≠ some k) (set5 wr g (i * 5) d0 d1 d2 d3 d4) G (.agg #[d0, d1, d2, d3, d4]) :=
    InV.mono (fun k hk => by
      have h1 := hφ k hk
      refine ⟨by omega, h1.2, by omega, fun e => ?_, fun e => ?_⟩
      · have := h.nk k e; omega
      · have := h.ne k e; omega) _ _ (InV.later (fun k hk => hold k (by have := hφ k hk; omega)) _ _ hG)
  have hv2 := RowVals.set hG2 i hvals
  rw [if_pos hi'] at hv2
  refine ⟨(hold rb (by omega)).trans h.zero, (hob 0).trans h.o0, (hob 1).trans h.o1, (hob 2).trans h.o2, (hob 3).trans h.o3, (hob 4).trans (by rw [hlen]; exact h.o4), fun j => by rw [set5_frozen]; exact h.free j,
    ownsRow_same h.srow fun k e => hold k (fun e2 => by have := (h.ne k e).2.2; subst e2; exact this rfl), by rw [hlen]; exact hkr, by rw [hlen]; exact hv2, fun k e => by rw [hlen]; have := h.ne k e; exact ⟨by omega, this.2⟩, fun k e => by rw [hlen] at e; have := h.nk k e; exact ⟨by omega, this.2⟩, ?_, ?_, f1, f2, f3, f4, by omega, by rw [hz]; exact Nat.le_refl _⟩
  · unfold set5
    exact ((((h.kept.setNew f1 (by omega)).setNew f1 (by omega)).setNew f1 (by omega)).setNew f1 (by omega)).setNew f1 (by omega)
  · exact h.rd.same fun k hk => hold k (by rcases hk with hk | hk <;> omega)
/-- its scopes are replaced by a row that was made later -/
theorem DressMid.setScopes {sc' : List Int} {sa' : Option Addr} {scap' : Nat} (h : DressMid T U B b w wr rb ob lo hi q kd nm n sc gs sa scap a cap xs) (hown : wr.ownsRow hi U 1 (.slice sa' sc'.length scap') sc'.length (sc'.map (Value.int .i64))) :
    DressMid T U B b w (wr.setCell ⟨ob, 3, none⟩ (.slice sa' sc'.length scap')) rb ob lo wr.heap.size q kd nm n sc' gs sa' scap' a cap xs := by
  obtain ⟨f1, f2, f3, f4, f5, f6⟩ := h.fix
  have hB := h.rd.1
  have hold : ∀ k, k ≠ ob → (wr.setCell ⟨ob, 3, none⟩ (.slice sa' sc'.length scap')).heap[k]? = wr.heap[k]? := fun k hk => Below.heap_setCell _ _ _ _ hk
  have hz : (wr.setCell ⟨ob, 3, none⟩ (.slice sa' sc'.length scap')).heap.size = wr.heap.size := by simp [World.setCell]
  have hnew := fun k e => hown.lt k e
  refine ⟨(hold rb (by omega)).trans h.zero, ?_, ?_, ?_, World.cell?_setCell_same _ _ _ h.o3, ?_, fun i => by rw [World.frozen?_setCell]; exact h.free i, ownsRow_lo (ownsRow_same hown fun k e => hold k (by have := hnew k e; omega)) (by omega),
    ownsRow_same h.krow fun k e => hold k (h.nk k e).2, h.vals.keep (fun k hk => hold k hk.2.2.1) fun k hk => ⟨hk.1, by omega, hk.2.2.1, hk.2.2.2.1, fun e => by have := hnew k e; omega⟩, fun k e => ?_, fun k e => by have := h.nk k e; exact ⟨by omega, this.2⟩, h.kept.setNew f1 (by omega), h.rd.setOther (by omega) (by omega), f1, f2, f3, f4, by omega, by rw [hz]; exact Nat.le_refl _⟩
  · rw [World.cell?_setCell_other _ _ _ _ (addr_ne (by omega))]; exact h.o0
  · rw [World.cell?_setCell_other _ _ _ _ (addr_ne (by omega))]; exact h.o1
  · rw [World.cell?_setCell_other _ _ _ _ (addr_ne (by omega))]; exact h.o2
  · rw [World.cell?_setCell_other _ _ _ _ (addr_ne (by omega))]; exact h.o4
  · have h1 := hnew k e
    exact ⟨h1.2, by omega, fun e2 => by have := h.nk k e2; omega⟩
theorem DressMid.setKind {kd' : Int} (h : DressMid T U B b w wr rb ob lo hi q kd nm n sc gs sa scap a cap xs) : DressMid T U B b w (wr.setCell ⟨ob, 0, none⟩ (.int .i64 kd')) rb ob lo hi q kd' nm n sc gs sa scap a cap xs := by
  obtain ⟨f1, f2, f3, f4, f5, f6⟩ := h.fix
  have hB := h.rd.1
  have hold : ∀ k, k ≠ ob → (wr.setCell ⟨ob, 0, none⟩ (.int .i64 kd')).heap[k]? = wr.heap[k]? := fun k hk => Below.heap_setCell _ _ _ _ hk
  have hz : (wr.setCell ⟨ob, 0, none⟩ (.int .i64 kd')).heap.size = wr.heap.size := by simp [World.setCell]
  refine ⟨(hold rb (by omega)).trans h.zero, World.cell?_setCell_same _ _ _ h.o0, ?_, ?_, ?_, ?_, fun i => by rw [World.frozen?_setCell]; exact h.free i, ownsRow_same h.srow fun k e => hold k (h.ne k e).2.1,
    ownsRow_same h.krow fun k e => hold k (h.nk k e).2, h.vals.keep (fun k hk => hold k hk.2.2.1) fun k hk => hk, h.ne, h.nk, h.kept.setNew f1 (by omega), h.rd.setOther (by omega) (by omega), f1, f2, f3, f4, f5, by rw [hz]; exact f6⟩
  · rw [World.cell?_setCell_other _ _ _ _ (addr_ne (by omega))]; exact h.o1
  · rw [World.cell?_setCell_other _ _ _ _ (addr_ne (by omega))]; exact h.o2
  · rw [World.cell?_setCell_other _ _ _ _ (addr_ne (by omega))]; exact h.o3
  · rw [World.cell?_setCell_other _ _ _ _ (addr_ne (by omega))]; exact h.o4
theorem DressMid.setName {nm' : ByteArray} (h : DressMid T U B b w wr rb ob lo hi q kd nm n sc gs sa scap a cap xs) : DressMid T U B b w (wr.setCell ⟨ob, 1, none⟩ (.string nm')) rb ob lo hi q kd nm' n sc gs sa scap a cap xs := by
  obtain ⟨f1, f2, f3, f4, f5, f6⟩ := h.fix
  have hB := h.rd.1
  have hold : ∀ k, k ≠ ob → (wr.setCell ⟨ob, 1, none⟩ (.string nm')).heap[k]? = wr.heap[k]? := fun k hk => Below.heap_setCell _ _ _ _ hk
  have hz : (wr.setCell ⟨ob, 1, none⟩ (.string nm')).heap.size = wr.heap.size := by simp [World.setCell]
  refine ⟨(hold rb (by omega)).trans h.zero, ?_, World.cell?_setCell_same _ _ _ h.o1, ?_, ?_, ?_, fun i => by rw [World.frozen?_setCell]; exact h.free i, ownsRow_same h.srow fun k e => hold k (h.ne k e).2.1,
    ownsRow_same h.krow fun k e => hold k (h.nk k e).2, h.vals.keep (fun k hk => hold k hk.2.2.1) fun k hk => hk, h.ne, h.nk, h.kept.setNew f1 (by omega), h.rd.setOther (by omega) (by omega), f1, f2, f3, f4, f5, by rw [hz]; exact f6⟩
  · rw [World.cell?_setCell_other _ _ _ _ (addr_ne (by omega))]; exact h.o0
  · rw [World.cell?_setCell_other _ _ _ _ (addr_ne (by omega))]; exact h.o2
  · rw [World.cell?_setCell_other _ _ _ _ (addr_ne (by omega))]; exact h.o3
  · rw [World.cell?_setCell_other _ _ _ _ (addr_ne (by omega))]; exact h.o4
theorem DressMid.setN {n' : Int} (h : DressMid T U B b w wr rb ob lo hi q kd nm n sc gs sa scap a cap xs) : DressMid T U B b w (wr.setCell ⟨ob, 2, none⟩ (.int .i64 n')) rb ob lo hi q kd nm n' sc gs sa scap a cap xs := by
  obtain ⟨f1, f2, f3, f4, f5, f6⟩ := h.fix
  have hB := h.rd.1
  have hold : ∀ k, k ≠ ob → (wr.setCell ⟨ob, 2, none⟩ (.int .i64 n')).heap[k]? = wr.heap[k]? := fun k hk => Below.heap_setCell _ _ _ _ hk
  have hz : (wr.setCell ⟨ob, 2, none⟩ (.int .i64 n')).heap.size = wr.heap.size := by simp [World.setCell]
  refine ⟨(hold rb (by omega)).trans h.zero, ?_, ?_, World.cell?_setCell_same _ _ _ h.o2, ?_, ?_, fun i => by rw [World.frozen?_setCell]; exact h.free i, ownsRow_same h.srow fun k e => hold k (h.ne k e).2.1,
    ownsRow_same h.krow fun k e => hold k (h.nk k e).2, h.vals.keep (fun k hk => hold k hk.2.2.1) fun k hk => hk, h.ne, h.nk, h.kept.setNew f1 (by omega), h.rd.setOther (by omega) (by omega), f1, f2, f3, f4, f5, by rw [hz]; exact f6⟩
  · rw [World.cell?_setCell_other _ _ _ _ (addr_ne (by omega))]; exact h.o0
  · rw [World.cell?_setCell_other _ _ _ _ (addr_ne (by omega))]; exact h.o1
  · rw [World.cell?_setCell_other _ _ _ _ (addr_ne (by omega))]; exact h.o3
  · rw [World.cell?_setCell_other _ _ _ _ (addr_ne (by omega))]; exact h.o4
/-- at the end -/
theorem DressMid.ends (h : DressMid T U B b w wr rb ob lo hi q kd nm n sc gs sa scap a cap xs) (hk : -9223372036854775808 ≤ kd ∧ kd ≤ 9223372036854775807) (hn : -9223372036854775808 ≤ n ∧ n ≤ 9223372036854775807) (hm : nm.size ≤ maxLen)
    (hs : ∀ n ∈ sc, -9223372036854775808 ≤ n ∧ n ≤ 9223372036854775807) :
    InV (fun k => w.heap.size ≤ k ∧ k < wr.heap.size ∧ k ≠ rb) wr (.mk kd nm n sc gs) (.agg #[.int .i64 kd, .string nm, .int .i64 n, .slice sa sc.length scap, .slice a gs.length cap]) := by
  obtain ⟨f1, f2, f3, f4, f5, f6⟩ := h.fix
  have hints : IntRow (fun k => w.heap.size ≤ k ∧ k < wr.heap.size ∧ k ≠ rb) wr (.slice sa sc.length scap) sc := (ownsRow_intRow h.srow hs).mono fun k hk => ⟨by omega, by omega, by omega⟩
  unfold InV
  rcases h.krow.2 with ⟨e, h0⟩ | ⟨g, cp, cur, e, hb, hg, hnc, hcm, _⟩
  · injection e with e1 e2 e3
    subst e1 e3
    exact ⟨_, none, 0, rfl, hk, hn, hm, hints, by omega, Nat.zero_le _, .inl (List.length_eq_zero_iff.1 h0)⟩
  · injection e with e1 e2 e3
    subst e1 e3
    refine ⟨_, some ⟨g, 0, none⟩, cap, rfl, hk, hn, hm, hints, hnc, hcm, .inr ⟨g, 0, rfl, ⟨by omega, (Array.getElem?_eq_some_iff.1 hg).1, by omega⟩, ?_⟩⟩
    refine RowVals.row (h.vals.keep (fun _ _ => rfl) fun k hk => ⟨by omega, by omega, by omega⟩) fun j u hj => ?_
    have := h.krow.cells (g := g) rfl j u hj
    unfold Addr.add at this
    split at this <;> simp_all
/-- at the start: a copy is laid into the variable -/
theorem DressMid.start {f : Fm} {W : World} {O : Nat} (ht : TopAt T U lo W f sa scap a cap xs) (hz : W.heap[rb]? = some (.cells #[.int .i64 0, .string { data := #[] }, .int .i64 0, .slice none 0 0, .slice none 0 0] T (0, 0)))
    (hk : Kept b 1 2 w W) (hr : Rd B W b q) (f1 : b < w.heap.size) (f2 : w.heap.size ≤ rb) (f3 : rb < lo) (f4 : lo ≤ W.heap.size) :
    DressMid T U B b w (W.alloc (.cells #[.int .i64 f.kind, .string f.name, .int .i64 f.n, .slice sa f.scopes.length scap, .slice a f.kids.length cap] T)) rb W.heap.size lo (W.heap.size + 1) q f.kind f.name f.n f.scopes f.kids sa scap a cap xs := by
  have hb := below_alloc W (.cells #[.int .i64 f.kind, .string f.name, .int .i64 f.n, .slice sa f.scopes.length scap, .slice a f.kids.length cap] T)
  have hold : ∀ k, k < W.heap.size → (W.alloc (.cells #[.int .i64 f.kind, .string f.name, .int .i64 f.n, .slice sa f.scopes.length scap, .slice a f.kids.length cap] T)).heap[k]? = W.heap[k]? := hb.block
  refine ⟨(hold rb (by omega)).trans hz, World.cell?_alloc_at _ _ _ _ rfl, World.cell?_alloc_at _ _ _ _ rfl, World.cell?_alloc_at _ _ _ _ rfl, World.cell?_alloc_at _ _ _ _ rfl, World.cell?_alloc_at _ _ _ _ rfl, fun i => World.frozen?_alloc_at _ _ _ _ rfl,
    ht.srow.alloc _, ht.krow.alloc _, ht.vals.keep (fun k hk => hold k hk.2.1) fun k hk => ⟨hk.1, by omega, by omega, hk.2.2.1, hk.2.2.2⟩, fun k e => ?_, fun k e => ?_, hk.later hb f1, hr.later hb, f1, f2, f3, f4, by omega, by simp⟩
  · have h1 := ht.srow.lt k e
    refine ⟨by omega, by omega, fun e2 => ?_⟩
    rcases ht.ne with h | h
    · rw [h] at e; cases e
    · exact h (e.trans e2.symm)
  · have h1 := ht.krow.lt k e
    exact ⟨by omega, by omega⟩
end
end Go.Proofs.Ytmakaoomdnlebaa
