/- The first texts of this seat: letters and names, forms as data, sets of scopes, validity, small walks. -/
import Derived.Test.YtjhhbbdfoephfaaChecked
import Derived.Test.YtjhhbbdfoephfaaData
import Derived.RangeFuncBox
import Derived.RangeFuncNested
import Derived.RangeFuncBound
import Derived.RangeFuncCalls
import Derived.RangeFuncLeaves
import Derived.Shelf.Abstract
import Derived.Shelf.RegionOpen
import Derived.WalkKit
import Derived.OwnWalkIn
import Derived.TacticsInMore
import Derived.LoopNIn
import Derived.LoopIn
import Derived.Sort.Row
import Derived.Test.YtjhhbbdfoephfaaPop
import Derived.Test.YtjhhbbdfoephfaaRounds
import Derived.Test.YtjhhbbdfoephfaaEndAt
import Derived.Test.YtjhhbbdfoephfaaMids
namespace Go.Proofs.Ytjhhbbdfoephfaa
section
open Go.RowKit Go.Shelf
set_option linter.unusedVariables false
set_option linter.unusedSimpArgs false
attribute [local go_sem] Oper.semAt_some
theorem backward_any (a : Option Addr) (len cap : Nat) (w : World) :
    Calls Try.prog 49 #[.slice a len cap] w fun e w' =>
      e = .returned (.func (.func 60) #[] #[.pointer (some ⟨w.heap.size, 0, none⟩)]) ∧ w' = w.alloc (.cells #[.slice a len cap] 28) := by
  go_enter Try.func49, Try.ntmps49
  go_wp2_with fail
  go_ret
  exact ⟨rfl, rfl⟩
/-- what a round keeps -/
def KeepB (B Bs : Nat) (W W' : World) : Prop := ∀ k, k < B ∨ k = Bs → W'.heap[k]? = W.heap[k]?
theorem KeepB.trans {B Bs : Nat} {a b c : World} (h : KeepB B Bs a b) (g : KeepB B Bs b c) : KeepB B Bs a c := fun k hk => (g k hk).trans (h k hk)
/-- what the iterator reads -/
structure KidRow (B : Nat) (x : Item) (its : _root_.Fin x.f.kids.length → Item) (w : World) : Prop where
  cap : x.f.kids.length ≤ x.cap ∧ x.cap ≤ maxLen
  row : 0 < x.f.kids.length → ∃ b off, x.a = some ⟨b, off, none⟩ ∧ b < B ∧ ∀ i : _root_.Fin x.f.kids.length, w.cell? ⟨b, off + i.val * 5, none⟩ = some (.int .i64 (its i).f.kind) ∧ w.cell? ⟨b, off + i.val * 5 + 1, none⟩ = some (.string (its i).f.name) ∧
      w.cell? ⟨b, off + i.val * 5 + 2, none⟩ = some (.int .i64 (its i).f.n) ∧ w.cell? ⟨b, off + i.val * 5 + 3, none⟩ = some (.slice (its i).sa (its i).f.scopes.length (its i).scap) ∧ w.cell? ⟨b, off + i.val * 5 + 4, none⟩ = some (.slice (its i).a (its i).f.kids.length (its i).cap)
theorem KidRow.keep {B Bs : Nat} {x : Item} {its : _root_.Fin x.f.kids.length → Item} {w w' : World} (h : KidRow B x its w) (hk : KeepB B Bs w w') : KidRow B x its w' := by
  refine ⟨h.cap, fun hp => ?_⟩
  obtain ⟨b, off, e, hb, hc⟩ := h.row hp
  refine ⟨b, off, e, hb, fun i => ?_⟩
  have hs : ∀ o, w'.cell? ⟨b, o, none⟩ = w.cell? ⟨b, o, none⟩ := fun o => World.cell?_of_block (a := ⟨b, o, none⟩) (hk b (.inl hb))
  rw [hs, hs, hs, hs, hs]
  exact hc i
set_option maxRecDepth 100000 in
set_option maxHeartbeats 2000000 in
theorem backward1_in (n : Nat) (hn : 1 ≤ n) (l Bs B : Nat) (x : Item) (its : _root_.Fin x.f.kids.length → Item) (J Jx : List (_root_.Fin x.f.kids.length) → World → Prop)
    (hY : ∀ pre i W, J pre W → pre.length < x.f.kids.length → YieldAt Fence.wide (n - 1) Try.prog l #[.int .i64 (i.val : Int), (its i).val] W fun e W' =>
      (e = .returned (.bool true) ∧ J (pre ++ [i]) W' ∧ KeepB B Bs W W') ∨ (e = .returned (.bool false) ∧ Jx (pre ++ [i]) W'))
    (W : World) (hBs : W.cell? ⟨Bs, 0, none⟩ = some (.slice x.a x.f.kids.length x.cap)) (hc : KidRow B x its W) (h0 : J [] W) :
    CallsIn Fence.wide n Try.prog 60 #[.func (.yield l) #[] #[], .pointer (some ⟨Bs, 0, none⟩)] W fun e W' => (∃ v, e = .returned v) ∧
      ((∃ ys, ys = downF x.f.kids.length ∧ J ys W') ∨ (∃ pre, True ∧ Jx pre W')) := by
  obtain ⟨hcap, hmax⟩ := hc.cap
  unfold maxLen at hmax
  refine callsIn_of_wp Try.func60 rfl trivial ?_ rfl
  simp only [Try.ntmps60, List.size_toArray, List.length_cons, List.length_nil, Nat.reduceAdd, Nat.reduceSub, Array.replicate_succ, Array.replicate_zero, List.push_toArray, List.append_toArray, List.nil_append, List.cons_append]
  have HC := Lib.hid hc
  clear hc
  gi_wp2
  gi_loopw [3] (fun i wr => ∃ k m : Nat, k + m = x.f.kids.length ∧ i = .int .i64 ((m : Int) - 1) ∧ J ((downF x.f.kids.length).take k) wr ∧ KeepB B Bs W wr)
    (fun i _ => (intOf i + 1).toNat)
  case atStart => exact ⟨0, x.f.kids.length, by omega, rfl, h0, fun _ _ => rfl⟩
  case round =>
    obtain ⟨k, m, hkm, rfl, hJs, hkp⟩ := hrel
    have HKP := Lib.hid hkp
    have hbs : wr.cell? ⟨Bs, 0, none⟩ = some (.slice x.a x.f.kids.length x.cap) := (World.cell?_of_block (a := ⟨Bs, 0, none⟩) (hkp Bs (.inr rfl))).trans hBs
    clear hkp
    cases m with
    | succ m =>
      have hlt : m < x.f.kids.length := by omega
      obtain ⟨fn, tmps, assign, body, hy, hR⟩ := hY _ ⟨m, hlt⟩ wr hJs (by rw [List.length_take, downF_length]; omega)
      have HTK : Hid ((downF x.f.kids.length).take (k + 1) = (downF x.f.kids.length).take k ++ [⟨m, hlt⟩]) := by
        unfold Hid
        rw [downF_take _ _ (by omega)]
        congr 3
        omega
      obtain ⟨b, off, ea, hb, hcs⟩ := (HC.out.keep HKP.out).row (by omega)
      obtain ⟨c0, c1, c2, c3, c4⟩ := hcs ⟨m, hlt⟩
      rw [ea] at hbs
      simp only at hy c0 c1 c2 c3 c4
      unfold Item.val at hy
      generalize its ⟨m, hlt⟩ = y at hy c0 c1 c2 c3 c4
      rw [show (((m + 1 : Nat) : Int) - 1) = (m : Int) by omega]
      have hlt' : (m : Int) < x.f.kids.length := by omega
      clear hcs hb ea
      gi_wp2
      refine hR.mono ?_
      rintro e W3 (⟨rfl, hJ3, hk3⟩ | ⟨rfl, hJx3⟩)
      · gi_wp2
        go_roundw
        case rel => exact ⟨k + 1, m, by omega, rfl, by rw [HTK.out]; exact hJ3, HKP.out.trans hk3⟩
        case measure => simp [intOf]
      · gi_wp2
        refine bodyPost_ret (results_none rfl _ _ _) rfl ?_
        exact ⟨⟨_, rfl⟩, .inr ⟨_, trivial, hJx3⟩⟩
    | zero =>
      obtain rfl : k = x.f.kids.length := by omega
      rw [downF_all] at hJs
      gi_wp2
      go_end0
      exact ⟨⟨_, rfl⟩, .inl ⟨_, rfl, hJs⟩⟩
theorem backward_stops (n : Nat) (hn : 1 ≤ n) (Bs B : Nat) (x : Item) (its : _root_.Fin x.f.kids.length → Item) (w : World) (hB : B ≤ w.heap.size) (hBl : Bs < w.heap.size)
    (hBs : w.cell? ⟨Bs, 0, none⟩ = some (.slice x.a x.f.kids.length x.cap)) (hc : KidRow B x its w) :
    SeqStopsK Fence.wide n Try.prog 60 #[.pointer (some ⟨Bs, 0, none⟩)] (fun i : _root_.Fin x.f.kids.length => #[Value.int .i64 (i.val : Int), (its i).val]) (KeepB B Bs)
      (fun ys => ys = downF x.f.kids.length) (fun _ => True) x.f.kids.length w := fun l J Jx W hW _ _ hY h0 => by
  have hk : KeepB B Bs w W := fun k hk => hW.block k (by omega)
  exact backward1_in n hn l Bs B x its J Jx hY W ((hW.cell (p := ⟨Bs, 0, none⟩) hBl).trans hBs) (hc.keep hk) h0
end
end Go.Proofs.Ytjhhbbdfoephfaa
namespace Go.Proofs.Ytjhhbbdfoephfaa
section
open Go.RowKit
theorem setCell_comm (w : World) (a b : Nat) (i j : Nat) (u v : Value) (h : a ≠ b) : (w.setCell ⟨a, i, none⟩ u).setCell ⟨b, j, none⟩ v = (w.setCell ⟨b, j, none⟩ v).setCell ⟨a, i, none⟩ u := by
  rw [Sort.setCell_eq, Sort.setCell_eq, Sort.setCell_eq, Sort.setCell_eq]
  unfold Sort.mapBlock
  congr 1
  apply Array.ext_getElem?
  intro k
  simp only [Array.getElem?_modify]
  by_cases hb : b = k
  · subst hb
    simp [h]
  · by_cases ha : a = k
    · simp [ha, hb]
    · simp [ha, hb]
theorem set5_setCell (w : World) (g o pb : Nat) (c0 c1 c2 c3 c4 v : Value) (h : g ≠ pb) : set5 (w.setCell ⟨pb, 0, none⟩ v) g o c0 c1 c2 c3 c4 = (set5 w g o c0 c1 c2 c3 c4).setCell ⟨pb, 0, none⟩ v := by
  unfold set5
  rw [setCell_comm w pb g _ _ _ _ (Ne.symm h), setCell_comm _ pb g _ _ _ _ (Ne.symm h), setCell_comm _ pb g _ _ _ _ (Ne.symm h), setCell_comm _ pb g _ _ _ _ (Ne.symm h), setCell_comm _ pb g _ _ _ _ (Ne.symm h)]
theorem set5_world (w : World) (g o pb : Nat) (c0 c1 c2 c3 c4 v : Value) : ((set5 w g o c0 c1 c2 c3 c4).setCell ⟨pb, 0, none⟩ v).os = w.os ∧ ((set5 w g o c0 c1 c2 c3 c4).setCell ⟨pb, 0, none⟩ v).tape = w.tape ∧ ((set5 w g o c0 c1 c2 c3 c4).setCell ⟨pb, 0, none⟩ v).output = w.output ∧
    ((set5 w g o c0 c1 c2 c3 c4).setCell ⟨pb, 0, none⟩ v).heap.size = w.heap.size := by
  refine ⟨?_, ?_, ?_, ?_⟩
  · simp only [set5, World.setCell]
  · simp only [set5, World.setCell]
  · simp only [set5, World.setCell]
  · simp [set5, World.setCell]
theorem keeps_set5 (w : World) (g o pb : Nat) (c0 c1 c2 c3 c4 v : Value) : KeepsOthers w ((set5 w g o c0 c1 c2 c3 c4).setCell ⟨pb, 0, none⟩ v) := by
  unfold set5
  exact (((((KeepsOthers.setCell _ _ _).trans (KeepsOthers.setCell _ _ _)).trans (KeepsOthers.setCell _ _ _)).trans (KeepsOthers.setCell _ _ _)).trans (KeepsOthers.setCell _ _ _)).trans (KeepsOthers.setCell _ _ _)
theorem set5_list (xs : List Value) (n : Nat) (hx : xs.length = n) (z0 z1 z2 z3 z4 u0 u1 u2 u3 u4 : Value) :
    (((((xs ++ [z0, z1, z2, z3, z4]).set n u0).set (n + 1) u1).set (n + 2) u2).set (n + 3) u3).set (n + 4) u4 = xs ++ [u0, u1, u2, u3, u4] := by
  subst hx
  simp
theorem ownsRow_set5v {w : World} {base g cap n : Nat} {e : TypeId} {xs : List Value} {z0 z1 z2 z3 z4 : Value} (u0 u1 u2 u3 u4 : Value) (hx : xs.length = n * 5)
    (h : w.ownsRow base e 5 (.slice (some ⟨g, 0, none⟩) (n + 1) cap) (n + 1) (xs ++ [z0, z1, z2, z3, z4])) :
    (set5 w g (n * 5) u0 u1 u2 u3 u4).ownsRow base e 5 (.slice (some ⟨g, 0, none⟩) (n + 1) cap) (n + 1) (xs ++ [u0, u1, u2, u3, u4]) := by
  have h1 := ((((h.stored (n * 5) u0).1.stored (n * 5 + 1) u1).1.stored (n * 5 + 2) u2).1.stored (n * 5 + 3) u3).1.stored (n * 5 + 4) u4
  rw [set5_list _ _ hx] at h1
  exact h1.1
/-- the stack, in its box -/
structure Stack (T : TypeId) (base : Nat) (pb g cap : Nat) (st : List Item) (W : World) : Prop where
  box : W.cell? ⟨pb, 0, none⟩ = some (.slice (some ⟨g, 0, none⟩) st.length cap)
  free : W.frozen? ⟨pb, 0, none⟩ = false
  row : W.ownsRow base T 5 (.slice (some ⟨g, 0, none⟩) st.length cap) st.length (rowOf st)
  apart : g ≠ pb
  low : base ≤ pb
theorem Stack.same {T : TypeId} {base pb g cap : Nat} {st : List Item} {W W' : World} (h : Stack T base pb g cap st W) (hp : W'.heap[pb]? = W.heap[pb]?) (hg : W'.heap[g]? = W.heap[g]?) : Stack T base pb g cap st W' := by
  refine ⟨(World.cell?_of_block (a := ⟨pb, 0, none⟩) hp).trans h.box, (World.frozen?_of_block (a := ⟨pb, 0, none⟩) hp).trans h.free, ⟨h.row.1, ?_⟩, h.apart, h.low⟩
  rcases h.row.2 with ⟨e, h'⟩ | ⟨g', cap', cur, e, h1, h2, h3⟩
  · cases e
  · have e' := e
    injection e' with e1 _ _
    injection e1 with e1
    injection e1 with e1
    exact .inr ⟨g', cap', cur, e, h1, by rw [← e1, hg, e1]; exact h2, h3⟩
/-- one more on the stack -/
theorem Stack.pushed {T : TypeId} {base pb g cap : Nat} {st : List Item} {W : World} {z0 z1 z2 z3 z4 u : Value} (y : Item) (hbox : W.cell? ⟨pb, 0, none⟩ = some u) (hfree : W.frozen? ⟨pb, 0, none⟩ = false)
    (hrow : W.ownsRow base T 5 (.slice (some ⟨g, 0, none⟩) (st.length + 1) cap) (st.length + 1) (rowOf st ++ [z0, z1, z2, z3, z4])) (hne : g ≠ pb) (hlow : base ≤ pb) :
    Stack T base pb g cap (st ++ [y]) ((set5 W g (st.length * 5) (.int .i64 y.f.kind) (.string y.f.name) (.int .i64 y.f.n) (.slice y.sa y.f.scopes.length y.scap) (.slice y.a y.f.kids.length y.cap)).setCell ⟨pb, 0, none⟩ (.slice (some ⟨g, 0, none⟩) (st.length + 1) cap)) := by
  have h1 := ownsRow_set5v (.int .i64 y.f.kind) (.string y.f.name) (.int .i64 y.f.n) (.slice y.sa y.f.scopes.length y.scap) (.slice y.a y.f.kids.length y.cap) (rowOf_length st) hrow
  have hp : (set5 W g (st.length * 5) (.int .i64 y.f.kind) (.string y.f.name) (.int .i64 y.f.n) (.slice y.sa y.f.scopes.length y.scap) (.slice y.a y.f.kids.length y.cap)).heap[pb]? = W.heap[pb]? := set5_block _ _ _ _ _ _ _ _ (Ne.symm hne)
  have hc := (World.cell?_of_block (a := ⟨pb, 0, none⟩) hp).trans hbox
  have hf := (World.frozen?_of_block (a := ⟨pb, 0, none⟩) hp).trans hfree
  refine ⟨?_, by rw [World.frozen?_setCell]; exact hf, ?_, hne, hlow⟩
  · rw [List.length_append]; exact World.cell?_setCell_same _ _ _ hc
  · have h2 := ownsRow_setFar (o := 0) (u := .slice (some ⟨g, 0, none⟩) (st.length + 1) cap) h1 hne
    rw [rowOf_snoc, List.length_append]
    exact h2
/-- what is no cells may turn, beyond B: cells lie as they lay -/
theorem cells_kept {W W' : World} {row : Option Nat} {B k : Nat} {c : Array Value} {t : TypeId} {fr : Nat × Nat} (hg : W.grownBy W' row) (hr : ∀ r, row = some r → B ≤ r ∧ ∃ o : Obj, W.heap[r]? = some o ∧ o.isCells = false)
    (h : W.heap[k]? = some (.cells c t fr)) : W'.heap[k]? = W.heap[k]? :=
  hg.block k (Array.getElem?_eq_some_iff.1 h).1 fun e => by
    obtain ⟨_, o, ho, hc⟩ := hr k e.symm
    rw [h] at ho
    injection ho with ho
    rw [← ho] at hc
    cases hc
theorem cell_cells {W : World} {k o : Nat} {u : Value} (h : W.cell? ⟨k, o, none⟩ = some u) : ∃ c t fr, W.heap[k]? = some (.cells c t fr) := by
  obtain ⟨c, t, fr, h1, _⟩ := Sort.cells_of_cell? h
  exact ⟨c, t, fr, h1⟩
theorem Stack.kept {T : TypeId} {base pb g cap : Nat} {st : List Item} {W W' : World} {row : Option Nat} {B : Nat} (h : Stack T base pb g cap st W) (hg : W.grownBy W' row) (hr : ∀ r, row = some r → B ≤ r ∧ ∃ o : Obj, W.heap[r]? = some o ∧ o.isCells = false) :
    Stack T base pb g cap st W' := by
  obtain ⟨c, t, fr, h1⟩ := cell_cells h.box
  refine h.same (cells_kept hg hr h1) ?_
  rcases h.row.2 with ⟨e, h'⟩ | ⟨g', cap', cur, e, _, h2, _⟩
  · cases e
  · injection e with e1 _ _
    injection e1 with e1
    injection e1 with e1
    rw [e1]
    exact cells_kept hg hr h2
/-- between two rounds of the inner loop -/
def RoundI (T : TypeId) (base pb g : Nat) (st0 : List Item) {α : Type} (its : α → Item) (w5 : World) (pre : List α) (W : World) : Prop :=
  ∃ g' cap', Stack T base pb g' cap' (st0 ++ pre.map its) W ∧ (g' = g ∨ w5.heap.size ≤ g') ∧ W.os = w5.os ∧ W.tape = w5.tape ∧ W.output = w5.output ∧ w5.heap.size ≤ W.heap.size ∧ ∀ k, k < w5.heap.size → k ≠ pb → k ≠ g → W.heap[k]? = w5.heap[k]?
theorem RoundI.own {T : TypeId} {base pb g : Nat} {st0 : List Item} {α : Type} {its : α → Item} {w5 : World} : OwnFrom w5.heap.size (RoundI T base pb g st0 its w5) := by
  rintro pre W W' row ⟨g', cap', h1, h2, h3, h4, h5, h6, h7⟩ hg hr
  refine ⟨g', cap', h1.kept hg hr, h2, hg.os.trans h3, hg.tape.trans h4, hg.output.trans h5, Nat.le_trans h6 hg.size, fun k hk n1 n2 => ?_⟩
  rw [hg.block k (by omega) (fun e => by have := (hr k e.symm).1; omega)]
  exact h7 k hk n1 n2
/-- the loop's variable, in its box -/
def KidAx (pb B : Nat) {α : Type} (its : α → Item) (fr : α → Nat → Act) (x : α) (a : Act) (W : World) : Prop :=
  ∃ Bx, B ≤ Bx ∧ Bx ≠ pb ∧ FormBox W Bx (its x).f (its x).sa (its x).scap (its x).a (its x).cap ∧ (∃ v, W.cell? ⟨pb, 0, none⟩ = some v ∧ v.ownBlock ≠ some Bx) ∧ a = fr x Bx
theorem KidAx.own {pb B B' : Nat} {α : Type} {its : α → Item} {fr : α → Nat → Act} (x : α) (a : Act) : OwnFrom B' (fun (_ : Unit) W => KidAx pb B its fr x a W) := by
  rintro _ W W' row ⟨Bx, h1, h2, h3, ⟨v, h4, h5⟩, h6⟩ hg hr
  obtain ⟨c, t, f, hb⟩ := cell_cells h3.1
  obtain ⟨c', t', f', hp⟩ := cell_cells h4
  have e := cells_kept hg hr hb
  have e' := cells_kept hg hr hp
  obtain ⟨a0, a1, a2, a3, a4⟩ := h3
  exact ⟨Bx, h1, h2, ⟨(World.cell?_of_block (a := ⟨Bx, 0, none⟩) e).trans a0, (World.cell?_of_block (a := ⟨Bx, 1, none⟩) e).trans a1, (World.cell?_of_block (a := ⟨Bx, 2, none⟩) e).trans a2, (World.cell?_of_block (a := ⟨Bx, 3, none⟩) e).trans a3, (World.cell?_of_block (a := ⟨Bx, 4, none⟩) e).trans a4⟩,
    ⟨v, (World.cell?_of_block (a := ⟨pb, 0, none⟩) e').trans h4, h5⟩, h6⟩
end
end Go.Proofs.Ytjhhbbdfoephfaa
namespace Go.Proofs.Ytjhhbbdfoephfaa
section
open Go.RowKit Go.Shelf
set_option linter.unusedVariables false
set_option linter.unusedSimpArgs false
attribute [local go_sem] Oper.semAt_some
/-- the world turns only in the blocks 'E', and in new ones -/
structure OnlyE (E : Nat → Prop) (w w' : World) : Prop where
  os : w'.os = w.os
  tape : w'.tape = w.tape
  output : w'.output = w.output
  size : w.heap.size ≤ w'.heap.size
  block : ∀ k, k < w.heap.size → ¬ E k → w'.heap[k]? = w.heap[k]?
/-- what is asked of the function that visits: 'I pre E' holds behind the forms 'pre', 'E' being the blocks that it minds -/
structure Visitor (okF : Fm → Prop) (B gf : Nat) (lb : Array Value) (I : List Fm → (Nat → Prop) → World → Prop) : Prop where
  eg : ∀ args w, (callFunc gf args).run Try.prog w = .ok (.enter gf args) w
  still : ∀ (pre : List Fm) (E : Nat → Prop) (W W' : World), I pre E W → W'.os = W.os → W'.tape = W.tape → W'.output = W.output → W.heap.size ≤ W'.heap.size → (∀ k, E k → W'.heap[k]? = W.heap[k]?) → I pre E W'
  calls : ∀ (pre : List Fm) (E : Nat → Prop) (x : Item) (W : World), I pre E W → pre.length ≤ 1048577 → okF x.f → (∀ k, E k → B ≤ k ∧ k < W.heap.size) → InV (· < B) W x.f x.val → Calls Try.prog gf (#[x.val] ++ lb) W fun e W' => e = .returned (.tuple #[]) ∧
    ∃ E', I (pre ++ [x.f]) E' W' ∧ OnlyE E W W' ∧ (∀ k, E' k → (E k ∨ W.heap.size ≤ k) ∧ k < W'.heap.size)
/-- the marks of the loops that are over -/
def marks (Ds : List Nat) : List Deferred := Ds.map fun D => { target := .collected D, args := #[] }
/-- between two rounds -/
structure VisMid (okF : Fm → Prop) (B : Nat) (I : List Fm → (Nat → Prop) → World → Prop) (E0 : Nat → Prop) (f : Fm) (w : World) (pb g cap : Nat) (st : List Item) (V : List Fm) (E : Nat → Prop) (Ds : List Nat) (W : World) : Prop where
  stack : Stack 30 w.heap.size pb g cap st W
  seen : V ++ preS st = f.pre
  inv : I V E W
  only : OnlyE E0 w W
  minds : ∀ k, E k → (E0 k ∨ w.heap.size ≤ k) ∧ k < W.heap.size
  apart : ¬ E pb ∧ ¬ E g
  reads : ∀ y ∈ st, InV (· < B) W y.f y.val ∧ okF y.f
  marks : Ds.Nodup ∧ ∀ D ∈ Ds, w.heap.size ≤ D ∧ W.heap[D]? = some (.deferred (some [])) ∧ ¬ E D
/-- what the loads of the inner region read -/
def VisHeld (pb Bx : Nat) (sv c0 c1 c2 c3 c4 : Value) (w' : World) : Prop :=
  w'.cell? ⟨pb, 0, none⟩ = some sv ∧ w'.cell? ⟨Bx, 0, none⟩ = some c0 ∧ w'.cell? ⟨Bx, 1, none⟩ = some c1 ∧ w'.cell? ⟨Bx, 2, none⟩ = some c2 ∧ w'.cell? ⟨Bx, 3, none⟩ = some c3 ∧ w'.cell? ⟨Bx, 4, none⟩ = some c4
/-- the way out, past the marks -/
theorem leaves_marks {n : Nat} {P : Program} {fn : Func} {tmps : Array Value} {R : Ending → World → Prop} : ∀ (Ds : List Nat) (W : World), Ds.Nodup → (∀ D ∈ Ds, W.heap[D]? = some (.deferred (some []))) →
    (∀ W' : World, W'.os = W.os → W'.tape = W.tape → W'.output = W.output → W'.heap.size = W.heap.size → (∀ k, k ∉ Ds → W'.heap[k]? = W.heap[k]?) → LeavesInM Fence.wide n P fn tmps R [] .returning W') →
    LeavesInM Fence.wide n P fn tmps R (marks Ds) .returning W
  | [], W, _, _, h => h W rfl rfl rfl rfl fun _ _ => rfl
  | D :: Ds, W, hn, hd, h => by
    refine ⟨by simp, .inl ⟨D, _, rfl, run_takeDeferred (hd D (by simp)), ?_⟩⟩
    rw [List.nodup_cons] at hn
    have hput : ∀ k, k ≠ D → (W.putObj D (.deferred none)).heap[k]? = W.heap[k]? := fun k hk => by simp [World.putObj, Array.getElem?_setIfInBounds, Ne.symm hk]
    refine leaves_marks Ds _ hn.2 (fun k hk => by rw [hput k (fun e => hn.1 (by rw [← e]; exact hk))]; exact hd k (by simp [hk])) (fun W' h1 h2 h3 h4 h5 => ?_)
    refine h W' h1 h2 h3 (by rw [h4]; simp [World.putObj]) (fun k hk => ?_)
    rw [List.mem_cons, not_or] at hk
    rw [h5 k hk.2, hput k hk.1]
set_option maxRecDepth 100000 in
set_option maxHeartbeats 4000000 in
theorem visit_any (okF : Fm → Prop) (hkid : ∀ z, okF z → ∀ c ∈ z.kids, okF c) (B gf : Nat) (lb : Array Value) (I : List Fm → (Nat → Prop) → World → Prop) (hvis : Visitor okF B gf lb I) (x : Item) (E0 : Nat → Prop) (w : World) (hB : B ≤ w.heap.size) (hE : ∀ k, E0 k → B ≤ k ∧ k < w.heap.size) (h0 : I [] E0 w)
    (hv : InV (· < B) w x.f x.val) (hc : x.f.count ≤ 1048577) (hend : EndlessAt x.val w) (hok : okF x.f) :
    Calls Try.prog 33 #[x.val, .func (.func gf) #[] lb] w fun e w' => e = .returned (.tuple #[]) ∧
      ∃ E', I x.f.pre E' w' ∧ OnlyE E0 w w' ∧ (∀ k, E' k → (E0 k ∨ w.heap.size ≤ k) ∧ k < w'.heap.size) := by
  have HVIS := Lib.hid hvis
  have HE := Lib.hid hE
  have H0 := Lib.hid h0
  have HV := Lib.hid hv
  have HEND := Lib.hid hend
  have HKID := Lib.hid hkid
  have HOKX := Lib.hid hok
  have heg := hvis.eg
  clear hvis hE h0 hv hend hkid hok
  refine (callsIn_wide (n := 4)).1 (callsIn_of_wp_marks Try.func33 rfl trivial ?_ rfl)
  refine wpIn_wide.2 ?_
  simp only [Try.ntmps33, List.size_toArray, List.length_cons, List.length_nil, Nat.reduceAdd, Nat.reduceSub, Array.replicate_succ, Array.replicate_zero, List.push_toArray, List.append_toArray, List.nil_append, List.cons_append]
  unfold Item.val
  go_wp2_with fail
  refine (HEND.out _ (below_alloc w _)).mono ?_
  rintro e w1 ⟨rfl, hb1⟩
  have hX := (FormBox.fresh w x.f x.sa x.a x.scap x.cap 30).later hb1
  have hs1 : w.heap.size + 1 ≤ w1.heap.size := by have := hb1.size; simpa using this
  have HB1 : Hid (Below w.heap.size w w1) := (below_alloc w _).trans (hb1.mono (by simp))
  obtain ⟨x0, x1, x2, x3, x4⟩ := hX
  clear hb1
  go_wp2_with fail
  have HMID : Hid (VisMid okF B I E0 x.f w (w1.heap.size + 1) w1.heap.size 1 [x] [] E0 [] ((w1.alloc (.cells #[.int .i64 x.f.kind, .string x.f.name, .int .i64 x.f.n, .slice x.sa x.f.scopes.length x.scap, .slice x.a x.f.kids.length x.cap] 30)).alloc (.cells #[.slice (some ⟨w1.heap.size, 0, none⟩) 1 1] 28))) := by
    have hbA : Below w1.heap.size w1 ((w1.alloc (.cells #[.int .i64 x.f.kind, .string x.f.name, .int .i64 x.f.n, .slice x.sa x.f.scopes.length x.scap, .slice x.a x.f.kids.length x.cap] 30)).alloc (.cells #[.slice (some ⟨w1.heap.size, 0, none⟩) 1 1] 28)) := ((Below.refl _ w1).alloc (Nat.le_refl _) _).alloc (by simp) _
    have hbW : Below w.heap.size w ((w1.alloc (.cells #[.int .i64 x.f.kind, .string x.f.name, .int .i64 x.f.n, .slice x.sa x.f.scopes.length x.scap, .slice x.a x.f.kids.length x.cap] 30)).alloc (.cells #[.slice (some ⟨w1.heap.size, 0, none⟩) 1 1] 28)) := HB1.out.trans (hbA.mono (by omega))
    refine ⟨⟨World.cell?_alloc_at _ _ _ _ (by simp), World.frozen?_alloc_at _ _ _ _ (by simp), ?_, by omega, by omega⟩, by simp [preS], ?_, ⟨hbW.os, hbW.tape, hbW.output, hbW.size, fun k hk _ => hbW.block k hk⟩, ?_, ?_, ?_, ?_⟩
    · have := World.ownsRow_lit (base := w.heap.size) (e := 30) (size := 5) w1 #[.int .i64 x.f.kind, .string x.f.name, .int .i64 x.f.n, .slice x.sa x.f.scopes.length x.scap, .slice x.a x.f.kids.length x.cap] 1 (by omega) (by unfold maxLen; omega) (by simp)
      exact this.alloc _
    · exact HVIS.out.still _ _ _ _ H0.out hbW.os hbW.tape hbW.output hbW.size fun k hk => hbW.block k (HE.out k hk).2
    · intro k hk
      have := HE.out k hk
      exact ⟨.inl hk, by simp; omega⟩
    · exact ⟨fun h => by have := HE.out _ h; omega, fun h => by have := HE.out _ h; omega⟩
    · intro y hy
      rw [List.mem_singleton] at hy
      subst hy
      exact ⟨InV.later (same_below (hbW.mono hB)) _ _ HV.out, HOKX.out⟩
    · exact ⟨List.nodup_nil, fun D hD => by cases hD⟩
  refine wp_loop_ghost_k (fun n a W => ∃ (pb g cap : Nat) (st : List Item) (V : List Fm) (E : Nat → Prop) (Ds : List Nat) (u5 u12 u13 u14 u15 u16 u17 u18 u19 u20 u21 u30 : Value),
    a = { tmps := #[(.agg #[.int .i64 x.f.kind, .string x.f.name, .int .i64 x.f.n, .slice x.sa x.f.scopes.length x.scap, .slice x.a x.f.kids.length x.cap]), .func (.func gf) #[] lb, .pointer (some ⟨w.heap.size, 0, none⟩), undef, .pointer (some ⟨pb, 0, none⟩), u5, undef, undef, (.agg #[.int .i64 x.f.kind, .string x.f.name, .int .i64 x.f.n, .slice x.sa x.f.scopes.length x.scap, .slice x.a x.f.kids.length x.cap]), .bool false, (.agg #[.int .i64 x.f.kind, .string x.f.name, .int .i64 x.f.n, .slice x.sa x.f.scopes.length x.scap, .slice x.a x.f.kids.length x.cap]), .slice (some ⟨w1.heap.size, 0, none⟩) 1 1,
      u12, u13, u14, u15, u16, u17, u18, u19, u20, u21, undef, undef, undef, undef, undef, undef, undef, undef, u30], defers := marks Ds } ∧ VisMid okF B I E0 x.f w pb g cap st V E Ds W ∧ n = countS st) (countS [x]) ?_ ?_
  · exact ⟨_, _, _, _, _, _, _, _, _, _, _, _, _, _, _, _, _, _, _, rfl, HMID.out, rfl⟩
  · rintro n a W ⟨pb, g, cap, st, V, E, Ds, u5, u12, u13, u14, u15, u16, u17, u18, u19, u20, u21, u30, rfl, hm, rfl⟩ J K hJ hK
    have HM := Lib.hid hm
    have HJ := Lib.hid hJ
    have HK := Lib.hid hK
    have hbox := hm.stack.box
    clear hm hJ hK x0 x1 x2 x3 x4 HMID
    rcases List.eq_nil_or_concat st with rfl | ⟨st0, y, rfl⟩
    · simp only [List.length_nil] at hbox
      go_wp2_with fail
      have hm := HM.out
      show LeavesInM Fence.wide 4 Try.prog Try.f33 _ _ (marks Ds) .returning W
      refine leaves_marks Ds W hm.marks.1 (fun D hD => (hm.marks.2 D hD).2.1) fun W' h1 h2 h3 h4 h5 => ?_
      refine ⟨_, results_none rfl _ _ _, rfl, E, ?_, ?_, ?_⟩
      · have hV : V = x.f.pre := by have := hm.seen; simpa [preS] using this
        rw [← hV]
        exact HVIS.out.still _ _ _ _ hm.inv h1 h2 h3 (by omega) fun k hk => h5 k (fun hD => (hm.marks.2 k hD).2.2 hk)
      · exact ⟨h1.trans hm.only.os, h2.trans hm.only.tape, h3.trans hm.only.output, by rw [h4]; exact hm.only.size, fun k hk hn => (h5 k (fun hD => by have := (hm.marks.2 k hD).1; omega)).trans (hm.only.block k hk hn)⟩
      · intro k hk
        have := hm.minds k hk
        exact ⟨this.1, by omega⟩
    · have hcs := countS_snoc st0 y
      rw [List.concat_eq_append] at HM hbox
      try rw [List.concat_eq_append] at HK
      have hm := HM.out
      have hfree := hm.stack.free
      have hrow := hm.stack.row
      rw [rowOf_snoc] at hrow
      simp only [List.length_append, List.length_cons, List.length_nil, Nat.zero_add] at hbox hrow
      have HROW := Lib.hid hrow
      have hgp := hm.stack.apart
      have hlow := hm.stack.low
      have hbw := hm.only.size
      clear hm hrow
      go_wp2_with fail
      refine (popForm_any w.heap.size pb g cap st0.length (rowOf st0) y.f.kind y.f.n y.f.name y.sa y.a y.f.scopes.length y.scap y.f.kids.length y.cap W hbox hfree HROW.out (rowOf_length st0) hgp hlow hbw).mono ?_
      rintro e w2 ⟨rfl, hpop⟩
      have HPOP := Lib.hid hpop
      clear hpop hbox hfree
      go_wp2_with fail
      obtain ⟨w3, hw3⟩ : ∃ w3, w3 = w2.alloc (.cells #[.int .i64 y.f.kind, .string y.f.name, .int .i64 y.f.n, .slice y.sa y.f.scopes.length y.scap, .slice y.a y.f.kids.length y.cap] 30) := ⟨_, rfl⟩
      rw [← hw3]
      have hm := HM.out
      obtain ⟨p1, p2, p3, p4, p5, p6⟩ := HPOP.out
      have hs3 : w3.heap.size = w2.heap.size + 1 := by rw [hw3]; simp
      have hb23 : Below w2.heap.size w2 w3 := by rw [hw3]; exact below_alloc w2 _
      have hsame3 : ∀ k, k < W.heap.size → k ≠ pb → w3.heap[k]? = W.heap[k]? := fun k h1 h2 => (hb23.block k (by omega)).trans (p5 k h1 h2)
      have hEl : ∀ k, E k → B ≤ k ∧ k < W.heap.size ∧ k ≠ pb ∧ k ≠ g := fun k hk => by
        have h1 := hm.minds k hk
        refine ⟨?_, h1.2, fun e => hm.apart.1 (by rw [← e]; exact hk), fun e => hm.apart.2 (by rw [← e]; exact hk)⟩
        rcases h1.1 with h | h
        · exact (HE.out k h).1
        · omega
      have hI3 : I V E w3 := HVIS.out.still _ _ _ _ hm.inv (hb23.os.trans p6.os) (hb23.tape.trans p6.tape) (hb23.output.trans p6.output) (by omega) fun k hk => hsame3 k (hEl k hk).2.1 (hEl k hk).2.2.1
      have hrd : ∀ z ∈ st0 ++ [y], InV (· < B) w3 z.f z.val := fun z hz => InV.later (fun k (hk : k < B) => hsame3 k (by omega) (by omega)) _ _ (hm.reads z hz).1
      have hgl := hm.stack.row.lt g rfl
      have hpbl : pb < W.heap.size := cell_lt hm.stack.box
      have hy3 : FormBox w3 w2.heap.size y.f y.sa y.scap y.a y.cap := by rw [hw3]; exact FormBox.fresh w2 y.f y.sa y.a y.scap y.cap 30
      have HY3 := Lib.hid hy3
      have HS3 := Lib.hid hsame3
      have HEL := Lib.hid hEl
      have HRD := Lib.hid hrd
      have HP1 := Lib.hid ((hb23.cell (p := ⟨pb, 0, none⟩) (show pb < w2.heap.size by omega)).trans p1)
      have HP2 := Lib.hid ((hb23.frozen (p := ⟨pb, 0, none⟩) (show pb < w2.heap.size by omega)).trans p2)
      have HP3 : Hid (w3.ownsRow w.heap.size 30 5 (.slice (some ⟨g, 0, none⟩) st0.length cap) st0.length (rowOf st0)) := by unfold Hid; rw [hw3]; exact p3.alloc _
      have HB3 : Hid (w3.os = w.os ∧ w3.tape = w.tape ∧ w3.output = w.output) := ⟨hb23.os.trans (p6.os.trans hm.only.os), hb23.tape.trans (p6.tape.trans hm.only.tape), hb23.output.trans (p6.output.trans hm.only.output)⟩
      have hVl : V.length ≤ 1048577 := by
        have h1 := congrArg List.length hm.seen
        rw [List.length_append, pre_length] at h1
        omega
      refine (HVIS.out.calls V E y w3 hI3 hVl (hm.reads y (by simp)).2 (fun k hk => by have := hEl k hk; exact ⟨this.1, by omega⟩) (hrd y (by simp))).mono ?_
      clear hVl hI3 hsame3 hEl hrd hy3 p1 p2 p3 p5 p6 hb23 hm HPOP hw3
      rintro e w4 ⟨rfl, E', hI4, ho4, hE4⟩
      have hs4 := ho4.size
      have hns : ∀ k, k < w3.heap.size → ¬ E k → w4.heap[k]? = w3.heap[k]? := ho4.block
      have hnp : ¬ E pb := HM.out.apart.1
      have hng : ¬ E g := HM.out.apart.2
      have hnb : ¬ E w2.heap.size := fun h => by have := (HEL.out _ h).2.1; omega
      have HI4 := Lib.hid hI4
      have HO4 := Lib.hid ho4
      have HE4 := Lib.hid hE4
      have hy4 : w4.cell? ⟨w2.heap.size, 4, none⟩ = some (.slice y.a y.f.kids.length y.cap) := (World.cell?_of_block (a := ⟨w2.heap.size, 4, none⟩) (hns w2.heap.size (by omega) hnb)).trans HY3.out.2.2.2.2
      have HY4 := Lib.hid hy4
      have hin4 : ∀ z ∈ st0 ++ [y], InV (· < B) w4 z.f z.val := fun z hz => InV.later (fun k (hk : k < B) => hns k (by omega) (fun h => by have := (HEL.out k h).1; omega)) _ _ (HRD.out z hz)
      have HIN4 := Lib.hid hin4
      have HK4 : Hid (Stack 30 w.heap.size pb g cap st0 w4) :=
        Stack.same (W := w3) ⟨HP1.out, HP2.out, HP3.out, hgp, hlow⟩ (hns pb (by omega) hnp) (hns g (by omega) hng)
      have HD4 : Hid (∀ D ∈ Ds, w4.heap[D]? = some (.deferred (some [])) ∧ ¬ E D ∧ w.heap.size ≤ D ∧ D < W.heap.size ∧ D ≠ pb ∧ D ≠ g) := fun D hD => by
        have h1 := HM.out.marks.2 D hD
        have hl : D < W.heap.size := (Array.getElem?_eq_some_iff.1 h1.2.1).1
        have hdp : D ≠ pb := fun e => by
          obtain ⟨c, t, fr, h2⟩ := cell_cells HM.out.stack.box
          rw [← e, h1.2.1] at h2
          cases h2
        have hdg : D ≠ g := fun e => by
          rcases HM.out.stack.row.2 with ⟨e', _⟩ | ⟨g', cap', cur, e', _, h2, _⟩
          · cases e'
          · injection e' with e1 _ _
            injection e1 with e1
            injection e1 with e1
            rw [← e1, ← e, h1.2.1] at h2
            cases h2
        exact ⟨(hns D (by omega) h1.2.2).trans ((HS3.out D hl hdp).trans h1.2.1), h1.2.2, h1.1, hl, hdp, hdg⟩
      clear hI4 ho4 hE4 hns hin4
      go_wp2_with fail
      refine (backward_any y.a y.f.kids.length y.cap w4).mono ?_
      rintro e w5 ⟨rfl, hw5⟩
      rw [hw5]
      clear hw5 hy4 w5
      go_wp2_with fail
      obtain ⟨w5, hw5⟩ : ∃ w5, w5 = w4.alloc (.cells #[.slice y.a y.f.kids.length y.cap] 28) := ⟨_, rfl⟩
      rw [← hw5]
      have hs5 : w5.heap.size = w4.heap.size + 1 := by rw [hw5]; simp
      have hb45 : Below w4.heap.size w4 w5 := by rw [hw5]; exact below_alloc w4 _
      have hBs : w5.cell? ⟨w4.heap.size, 0, none⟩ = some (.slice y.a y.f.kids.length y.cap) := by rw [hw5]; exact World.cell?_alloc_at _ _ _ _ rfl
      have hin5 : InV (· < B) w5 y.f y.val := InV.later (same_below (hb45.mono (by omega))) _ _ (HIN4.out y (by simp))
      obtain ⟨its, hits, hrow5, hcap5⟩ := kid_items hin5
      have hK5 : Stack 30 w.heap.size pb g cap st0 w5 := HK4.out.same (hb45.block _ (by omega)) (hb45.block _ (by omega))
      have hkr : KidRow B y its w5 := ⟨hcap5, hrow5⟩
      have HW5 := Lib.hid hw5
      have HITS := Lib.hid hits
      have HK5 := Lib.hid hK5
      clear hw5 hits hrow5 hcap5
      have hQ : ¬ LetsOut (Exit.inBlock 3 (ownPostG w5.heap.size (KeepB B w4.heap.size) (RoundI 30 w.heap.size pb g st0 its w5) (fun _ _ _ => False) [] w5)) := fun ⟨_, _, h⟩ => h
      refine wpIn_wide.1 (wpIn_rangeFunc_ownH (F := Fence.wide) (n := 4) rfl (by omega) (gf := 60) (lb := #[.pointer (some ⟨w4.heap.size, 0, none⟩)]) rfl trivial
        (enters_of Try.func60 (by kernel_rfl) rfl)
        (backward_stops 3 (by omega) w4.heap.size B y its w5 (by omega) (by omega) hBs hkr) (fun h g => h.trans g)
        (fun W' l o o' hl _ _ _ k hk => World.putObj_heap_other (by omega)) (Below.refl _ _) (fun _ => rfl)
        (RoundI 30 w.heap.size pb g st0 its w5) (fun _ _ _ => False) RoundI.own (fun _ _ _ _ _ h _ _ => h)
        ⟨g, cap, by simpa using HK5.out, .inl rfl, rfl, rfl, rfl, Nat.le_refl _, fun _ _ _ _ => rfl⟩
        (KidAx pb w5.heap.size its (fun i Bx => { tmps := #[.agg #[.int .i64 x.f.kind, .string x.f.name, .int .i64 x.f.n, .slice x.sa x.f.scopes.length x.scap, .slice x.a x.f.kids.length x.cap], .func (.func gf) #[] lb, .pointer (some ⟨w.heap.size, 0, none⟩), undef, .pointer (some ⟨pb, 0, none⟩), .pointer (some ⟨w2.heap.size, 0, none⟩), undef, .pointer (some ⟨Bx, 0, none⟩), .agg #[.int .i64 x.f.kind, .string x.f.name, .int .i64 x.f.n, .slice x.sa x.f.scopes.length x.scap, .slice x.a x.f.kids.length x.cap], .bool false, .agg #[.int .i64 x.f.kind, .string x.f.name, .int .i64 x.f.n, .slice x.sa x.f.scopes.length x.scap, .slice x.a x.f.kids.length x.cap], .slice (some ⟨w1.heap.size, 0, none⟩) 1 1, .slice (some ⟨g, 0, none⟩) (st0.length + 1) cap, .int .i64 ((st0.length : Int) + 1), .bool true, .agg #[.int .i64 y.f.kind, .string y.f.name, .int .i64 y.f.n, .slice y.sa y.f.scopes.length y.scap, .slice y.a y.f.kids.length y.cap], .func (.func gf) #[] lb, .agg #[.int .i64 y.f.kind, .string y.f.name, .int .i64 y.f.n, .slice y.sa y.f.scopes.length y.scap, .slice y.a y.f.kids.length y.cap], .tuple #[], .pointer (some ⟨w2.heap.size, 4, none⟩), .slice y.a y.f.kids.length y.cap, .func (.func 60) #[] #[.pointer (some ⟨w4.heap.size, 0, none⟩)], .int .i64 (i.val : Int), .agg #[.int .i64 (its i).f.kind, .string (its i).f.name, .int .i64 (its i).f.n, .slice (its i).sa (its i).f.scopes.length (its i).scap, .slice (its i).a (its i).f.kids.length (its i).cap], undef, undef, undef, undef, undef, undef, u30], defers := [] })) KidAx.own ?assign ?body ?done ?stop)
      case assign =>
        intro l pre i W' K' hI hK'
        have hI' := hI
        obtain ⟨g', cap', hst, hg', _, _, _, hsz, _⟩ := hI'
        unfold Item.val
        gi_wp2
        refine hK' _ _ ((KeepsOthers.alloc _ _).from _) (fun k hk => (below_alloc W' _).block k (by omega)) (RoundI.own.alloc _ hI) ⟨W'.heap.size, hsz, by omega, FormBox.fresh W' (its i).f (its i).sa (its i).a (its i).scap (its i).cap 30, ⟨_, ((below_alloc W' _).cell (p := ⟨pb, 0, none⟩) (cell_lt hst.box)).trans hst.box, ?_⟩, ?_⟩
        · have := (hst.row.lt g' rfl).2
          simp only [Value.ownBlock, ne_eq, Option.some.injEq]
          omega
        · rfl
      case body =>
        rintro l pre i a' Wr hl hloop hI ⟨Bx, hBx, hBp, ⟨b0, b1, b2, b3, b4⟩, ⟨v, hv, hvn⟩, rfl⟩ hlt
        obtain ⟨g', cap', hst, hg', ho1, ho2, ho3, hsz, hsm⟩ := hI
        obtain rfl : v = .slice (some ⟨g', 0, none⟩) (st0 ++ pre.map its).length cap' := by
          have := hv.symm.trans hst.box
          injection this
        have hQ' : ¬ LetsOut (Exit.inBlock 3 (ownPostG w5.heap.size (KeepB B w4.heap.size) (RoundI 30 w.heap.size pb g st0 its w5) (fun _ _ _ => False) (pre ++ [i]) Wr)) := fun ⟨_, _, h⟩ => h
        obtain ⟨st, hst'⟩ : ∃ st, st = st0 ++ pre.map its := ⟨_, rfl⟩
        rw [← hst'] at hst hv hvn
        have HSTE := Lib.hid hst'
        have HST := Lib.hid hst
        have HSM := Lib.hid hsm
        have HOS : Hid (Wr.os = w5.os ∧ Wr.tape = w5.tape ∧ Wr.output = w5.output) := ⟨ho1, ho2, ho3⟩
        have hrow := hst.row
        have hfr := hst.free
        have hgp' := hst.apart
        have hgb : g' ≠ Bx := fun e => hvn (by simp [Value.ownBlock, e])
        have hgl' := (hst.row.lt g' rfl)
        have hpbw : pb < Wr.heap.size := cell_lt hv
        have hbxw : Bx < Wr.heap.size := cell_lt b0
        have hstl : st.length ≤ 1048577 := by
          have h1 := congrArg List.length HM.out.seen
          rw [preS_snoc, List.length_append, List.length_append, pre_length, pre_length] at h1
          have h2 := length_countS st0
          unfold countS at h2
          have h3 := length_countAll y.f.kids
          have h4 := count_eq y.f
          rw [hst', List.length_append, List.length_map]
          omega
        have HS5 := Lib.hid hs5
        clear hst hsm ho1 ho2 ho3 hst' hs5
        dsimp only
        refine wpIn_block ?_
        obtain ⟨i0, hi0, hz0, hz1, hz2⟩ := info_parts Try.infoFm
        have hS0 : VisHeld pb Bx (.slice (some ⟨g', 0, none⟩) st.length cap') (.int .i64 (its i).f.kind) (.string (its i).f.name) (.int .i64 (its i).f.n) (.slice (its i).sa (its i).f.scopes.length (its i).scap) (.slice (its i).a (its i).f.kids.length (its i).cap) Wr.drew := ⟨hv, b0, b1, b2, b3, b4⟩
        refine uptos_begin_in (VisHeld pb Bx (.slice (some ⟨g', 0, none⟩) st.length cap') (.int .i64 (its i).f.kind) (.string (its i).f.name) (.int .i64 (its i).f.n) (.slice (its i).sa (its i).f.scopes.length (its i).scap) (.slice (its i).a (its i).f.kids.length (its i).cap)) [5, 6, 7] (by kernel_rfl) (by kernel_rfl) hQ' ?_
        refine uptos_take (i := 0) (d := some 24) (v := ?_) rfl rfl (by kernel_rfl) (by kernel_rfl) (by kernel_rfl) (by kernel_rfl) (fun _ _ _ h => h) (Or.inl ⟨by rfl, ?_⟩) hS0 ?_
        rotate_left
        · (intro wS hSw; obtain ⟨_, _, _, _, _, _⟩ := hSw; go_simp; try with_reducible rfl)
        try simp only [Act.put, List.setIfInBounds_toArray, List.set_cons_zero, List.set_cons_succ]
        refine uptos_take (i := 1) (d := some 25) (v := ?_) rfl rfl (by kernel_rfl) (by kernel_rfl) (by kernel_rfl) (by kernel_rfl) (fun _ _ _ h => h) (Or.inl ⟨by rfl, ?_⟩) hS0 ?_
        rotate_left
        · (intro wS hSw; obtain ⟨_, _, _, _, _, _⟩ := hSw; go_simp; try with_reducible rfl)
        try simp only [Act.put, List.setIfInBounds_toArray, List.set_cons_zero, List.set_cons_succ]
        refine uptos_take (i := 2) (d := some 26) (v := ?_) rfl rfl (by kernel_rfl) (by kernel_rfl) (by kernel_rfl) (by kernel_rfl) (fun _ _ _ h => h) (Or.inl ⟨by rfl, ?_⟩) hS0 ?_
        rotate_left
        · (intro wS hSw; obtain ⟨_, _, _, _, _, _⟩ := hSw; go_simp; try with_reducible rfl)
        try simp only [Act.put, List.setIfInBounds_toArray, List.set_cons_zero, List.set_cons_succ]
        refine uptos_one (i := 3) (by kernel_rfl) rfl (fun K2 hK2 => ?_)
        go_simp
        have hbA : Below Wr.heap.size Wr (Wr.alloc (Obj.cells #[.int .i64 0, .string { data := #[] }, .int .i64 0, .slice none 0 0, .slice none 0 0] 30)).drew := ((Below.refl _ Wr).alloc (Nat.le_refl _) _).drew
        have hS1 : (VisHeld pb Bx (.slice (some ⟨g', 0, none⟩) st.length cap') (.int .i64 (its i).f.kind) (.string (its i).f.name) (.int .i64 (its i).f.n) (.slice (its i).sa (its i).f.scopes.length (its i).scap) (.slice (its i).a (its i).f.kids.length (its i).cap) (Wr.alloc (Obj.cells #[.int .i64 0, .string { data := #[] }, .int .i64 0, .slice none 0 0, .slice none 0 0] 30)).drew) := ⟨cell_later' hbA hv, cell_later' hbA b0, cell_later' hbA b1, cell_later' hbA b2, cell_later' hbA b3, cell_later' hbA b4⟩
        refine hK2.out _ _ (.inr hS1) ?_
        clear hK2 K2
        refine uptos_oper (i := 4) ⟨some 28, .call { callee := .builtin .append, args := #[.tmp 24, .tmp 27], argTypes := #[28, 28] }, 28, _, _, _⟩ (by kernel_rfl) rfl rfl (fun K3 hK3 => ?_)
        refine wp_append_lies _ (.tmp 24) (.tmp 27) 28 rfl w.heap.size 30 i0 _ 5 80 Try.underlying28 hi0 hz0 hz1 hz2 rfl (by omega) _ st.length (rowOf st) (by rfl) ((hrow.alloc _).drew)
          ⟨Wr.heap.size, 0, none⟩ 1 1 [.int .i64 0, .string { data := #[] }, .int .i64 0, .slice none 0 0, .slice none 0 0] (by rfl) (by rfl) (World.news_of_block (cs := #[.int .i64 0, .string { data := #[] }, .int .i64 0, .slice none 0 0, .slice none 0 0]) (t := 30) (fr := (0, 0)) (heap_alloc_new Wr _)) (by simp [Value.oneCell'])
          (by omega) (by unfold maxLen; omega) (by omega) (by simp; omega) (Wr.heap.size + 1) (by simp) ?_
        intro gq qd w6 hown1 hgrow hat hlt4
        have hgq : gq = g' ∨ gq = Wr.heap.size + 1 := by
          rcases hat with h | h
          · simp [Value.ownBlock] at h; exact .inl h.symm
          · exact .inr h
        have hgp2 : gq ≠ pb := by rcases hgq with h | h <;> omega
        have hsame6 : ∀ k, k < Wr.heap.size → k ≠ g' → w6.heap[k]? = Wr.heap[k]? := fun k h1 h2 => (hgrow.block k (by simp; omega) (by simp [Value.ownBlock, h2])).trans (hbA.block k h1)
        have hS6 : (VisHeld pb Bx (.slice (some ⟨g', 0, none⟩) st.length cap') (.int .i64 (its i).f.kind) (.string (its i).f.name) (.int .i64 (its i).f.n) (.slice (its i).sa (its i).f.scopes.length (its i).scap) (.slice (its i).a (its i).f.kids.length (its i).cap) w6) := by
          have e1 := hsame6 pb hpbw (Ne.symm hgp')
          have e2 := hsame6 Bx hbxw (Ne.symm hgb)
          exact ⟨(World.cell?_of_block (a := ⟨pb, 0, none⟩) e1).trans hv, (World.cell?_of_block (a := ⟨Bx, 0, none⟩) e2).trans b0, (World.cell?_of_block (a := ⟨Bx, 1, none⟩) e2).trans b1, (World.cell?_of_block (a := ⟨Bx, 2, none⟩) e2).trans b2, (World.cell?_of_block (a := ⟨Bx, 3, none⟩) e2).trans b3, (World.cell?_of_block (a := ⟨Bx, 4, none⟩) e2).trans b4⟩
        refine hK3.out _ _ (.inr hS6) ?_
        clear hK3 K3
        have hc6 := hS6.1
        have hf6 : w6.frozen? ⟨pb, 0, none⟩ = false := (World.frozen?_of_block (a := ⟨pb, 0, none⟩) (hsame6 pb hpbw (Ne.symm hgp'))).trans hfr
        have hcells : ∀ j, j < 5 → ∃ u, w6.cell? ⟨gq, st.length * 5 + j, none⟩ = some u := fun j hj => by
          rw [hown1.cellAt (st.length * 5 + j) (by omega)]
          exact ⟨_, List.getElem?_eq_getElem (by rw [List.length_append, rowOf_length]; simp; omega)⟩
        obtain ⟨u0, k0⟩ := hcells 0 (by omega)
        obtain ⟨u1, k1⟩ := hcells 1 (by omega)
        obtain ⟨u2, k2⟩ := hcells 2 (by omega)
        obtain ⟨u3, k3⟩ := hcells 3 (by omega)
        obtain ⟨u4, k4⟩ := hcells 4 (by omega)
        rw [Nat.add_zero] at k0
        have m0 := hown1.frozenAt (st.length * 5)
        have m1 := hown1.frozenAt (st.length * 5 + 1)
        have m2 := hown1.frozenAt (st.length * 5 + 2)
        have m3 := hown1.frozenAt (st.length * 5 + 3)
        have m4 := hown1.frozenAt (st.length * 5 + 4)
        have KEY : Hid (∀ Z, Z = (set5 w6 gq (st.length * 5) (.int .i64 (its i).f.kind) (.string (its i).f.name) (.int .i64 (its i).f.n) (.slice (its i).sa (its i).f.scopes.length (its i).scap) (.slice (its i).a (its i).f.kids.length (its i).cap)).setCell ⟨pb, 0, none⟩ (.slice (some ⟨gq, 0, none⟩) (st.length + 1) qd) →
            KeepsFrom w5.heap.size Wr Z ∧ KeepB B w4.heap.size Wr Z ∧ RoundI 30 w.heap.size pb g st0 its w5 (pre ++ [i]) Z) := by
          intro Z hZ
          have hs5 := HS5.out
          have hS := Stack.pushed (its i) hc6 hf6 hown1 hgp2 hlow
          rw [← hZ] at hS
          have hz6 : Wr.heap.size ≤ w6.heap.size := by have := hgrow.size; simp at this; omega
          obtain ⟨n1, n2, n3, n4⟩ := set5_world w6 gq (st.length * 5) pb (.int .i64 (its i).f.kind) (.string (its i).f.name) (.int .i64 (its i).f.n) (.slice (its i).sa (its i).f.scopes.length (its i).scap) (.slice (its i).a (its i).f.kids.length (its i).cap) (.slice (some ⟨gq, 0, none⟩) (st.length + 1) qd)
          rw [← hZ] at n1 n2 n3 n4
          have hzs : Z.heap.size = w6.heap.size := n4
          have hsz' : ∀ k, k < Wr.heap.size → k ≠ pb → k ≠ g' → Z.heap[k]? = Wr.heap[k]? := fun k h1 h2 h3 => by
            rw [hZ, Below.heap_setCell _ _ _ _ h2, set5_block _ _ _ _ _ _ _ _ (show k ≠ gq by rcases hgq with h | h <;> omega)]
            exact hsame6 k h1 h3
          obtain ⟨o1, o2, o3⟩ := HOS.out
          have hk : KeepsOthers Wr Z := by
            have k1 := (KeepsOthers.alloc Wr (Obj.cells #[.int .i64 0, .string { data := #[] }, .int .i64 0, .slice none 0 0, .slice none 0 0] 30)).trans (KeepsOthers.drew _)
            have k2 := KeepsOthers.of_grownBy hgrow (fun j o hj ho => by
              have e : g' = j := by simpa [Value.ownBlock] using hj
              rcases hrow.2 with ⟨e', _⟩ | ⟨g2, cap2, cur, e', _, h2, _⟩
              · cases e'
              · injection e' with e1 _ _
                injection e1 with e1
                injection e1 with e1
                have h3 := hbA.block g' hgl'.2
                rw [e1, h2] at h3
                rw [← e, e1, h3] at ho
                injection ho with ho
                rw [← ho]
                rfl)
            have k4 := keeps_set5 w6 gq (st.length * 5) pb (.int .i64 (its i).f.kind) (.string (its i).f.name) (.int .i64 (its i).f.n) (.slice (its i).sa (its i).f.scopes.length (its i).scap) (.slice (its i).a (its i).f.kids.length (its i).cap) (.slice (some ⟨gq, 0, none⟩) (st.length + 1) qd)
            rw [hZ]
            exact (k1.trans k2).trans k4
          refine ⟨hk.from _, fun k hk' => hsz' k ?_ ?_ ?_, ?_⟩
          · rcases hk' with h | h <;> omega
          · rcases hk' with h | h <;> omega
          · have hgw := (HK5.out.row.lt g rfl)
            rcases hg' with e | e <;> rcases hk' with h | h <;> omega
          · refine ⟨gq, qd, ?_, ?_, ?_, ?_, ?_, by omega, fun k h1 h2 h3 => ?_⟩
            · rw [List.map_append, ← List.append_assoc, ← HSTE.out]
              exact hS
            · rcases hgq with e | e
              · rw [e]; exact hg'
              · exact .inr (by omega)
            · exact n1.trans ((hgrow.os.trans hbA.os).trans o1)
            · exact n2.trans ((hgrow.tape.trans hbA.tape).trans o2)
            · exact n3.trans ((hgrow.output.trans hbA.output).trans o3)
            · rw [hsz' k (by omega) h2 (by rcases hg' with e | e <;> omega)]
              exact HSM.out k h1 h2 h3
        have hka := KEY.out _ rfl
        have hkb := KEY.out _ (set5_setCell w6 gq (st.length * 5) pb (.int .i64 (its i).f.kind) (.string (its i).f.name) (.int .i64 (its i).f.n) (.slice (its i).sa (its i).f.scopes.length (its i).scap) (.slice (its i).a (its i).f.kids.length (its i).cap) (.slice (some ⟨gq, 0, none⟩) (st.length + 1) qd) hgp2)
        unfold set5 at hka hkb
        have HKA := Lib.hid hka
        have HKB := Lib.hid hkb
        clear KEY hka hkb
        clear hat hgq hsame6 hcells hown1 hgrow hS1 hS6 hbA
        have hix : (st.length : Int) < (st.length : Int) + 1 := by omega
        refine uptos_rest (by kernel_rfl) ?_
        refine any_two (i := 5) (j := 7) (by kernel_rfl) rfl rfl (fun K4 hK4 => ?_) (fun K4 hK4 => ?_)
        · go_simp
          refine hK4.out _ _ ?_
          clear hK4 K4
          refine any_two (i := 6) (j := 7) (by kernel_rfl) rfl rfl (fun K4 hK4 => ?_) (fun K4 hK4 => ?_)
          · go_simp
            refine hK4.out _ _ ?_
            clear hK4 K4
            refine any_one (i := 7) (by kernel_rfl) rfl (fun K4 hK4 => ?_)
            go_simp
            refine hK4.out _ _ (any_done (by kernel_rfl) ?_ _)
            exact HKA.out
          · go_simp
            refine hK4.out _ _ ?_
            clear hK4 K4
            refine any_one (i := 6) (by kernel_rfl) rfl (fun K4 hK4 => ?_)
            go_simp
            refine hK4.out _ _ (any_done (by kernel_rfl) ?_ _)
            exact HKB.out
        · go_simp
          refine hK4.out _ _ ?_
          clear hK4 K4
          refine any_one (i := 5) (by kernel_rfl) rfl (fun K4 hK4 => ?_)
          go_simp
          refine hK4.out _ _ ?_
          clear hK4 K4
          refine any_one (i := 6) (by kernel_rfl) rfl (fun K4 hK4 => ?_)
          go_simp
          refine hK4.out _ _ (any_done (by kernel_rfl) ?_ _)
          exact HKB.out
      case done =>
        rintro D ys W6 hD rfl hI hD6
        obtain ⟨g', cap', hst, hg', ho1, ho2, ho3, hsz, hsm⟩ := hI
        have hbox := hst.box
        have HST := Lib.hid hst
        have HSM := Lib.hid hsm
        have HOS : Hid (W6.os = w5.os ∧ W6.tape = w5.tape ∧ W6.output = w5.output) := ⟨ho1, ho2, ho3⟩
        have hfin : ((downF y.f.kids.length).map its) = ((List.finRange y.f.kids.length).map its).reverse := by unfold downF; rw [List.map_reverse]
        rw [hfin] at HST hbox
        have HFIN := Lib.hid hfin
        obtain ⟨st', hst'⟩ : ∃ st', st' = st0 ++ ((List.finRange y.f.kids.length).map its).reverse := ⟨_, rfl⟩
        rw [← hst'] at HST hbox
        have HSTE := Lib.hid hst'
        clear hst hsm ho1 ho2 ho3 hfin hst'
        go_wp2_with fail
        have hm := HM.out
        have hpre : preS st' = preAll y.f.kids ++ preS st0 := by rw [HSTE.out, preS_kids, ← preAll_items, items_all HITS.out]
        have hst := HST.out
        have hgl' := (hst.row.lt g' rfl).2
        have hpb6 : pb < W6.heap.size := cell_lt hst.box
        obtain ⟨o1, o2, o3⟩ := HOS.out
        obtain ⟨q1, q2, q3⟩ := HB3.out
        have hbA := below_alloc W6 (.cells #[.slice (some ⟨g', 0, none⟩) st'.length cap'] 28)
        have hs7 : (W6.alloc (.cells #[.slice (some ⟨g', 0, none⟩) st'.length cap'] 28)).heap.size = W6.heap.size + 1 := by simp
        have h47 : ∀ k, k < w4.heap.size → k ≠ pb → k ≠ g → (W6.alloc (.cells #[.slice (some ⟨g', 0, none⟩) st'.length cap'] 28)).heap[k]? = w4.heap[k]? := fun k h1 h2 h3 =>
          (hbA.block k (by omega)).trans ((HSM.out k (by omega) h2 h3).trans (hb45.block k h1))
        have hEg : ∀ k, E' k → k ≠ pb ∧ k ≠ g ∧ k < w4.heap.size := fun k hk => by
          obtain ⟨h1, h2⟩ := HE4.out k hk
          refine ⟨fun e => ?_, fun e => ?_, h2⟩
          · rw [e] at h1
            rcases h1 with h | h
            · exact hnp h
            · omega
          · rw [e] at h1
            rcases h1 with h | h
            · exact hng h
            · omega
        refine HK.out _ _ (Handed.intro (countS st') ?_ (HJ.out _ _ _ ⟨W6.heap.size, g', cap', st', V ++ [y.f], E', D :: Ds, _, _, _, _, _, _, _, _, _, _, _, _, rfl, ?_, rfl⟩))
        · have h1 := count_eq y.f
          try rw [List.concat_eq_append]
          rw [hcs]
          unfold countS
          rw [hpre, List.length_append, preAll_length]
          omega
        · refine ⟨⟨World.cell?_alloc_at _ _ _ _ rfl, World.frozen?_alloc_at _ _ _ _ rfl, hst.row.alloc _, by omega, by omega⟩, ?_, ?_, ?_, ?_, ?_, ?_, ?_⟩
          · rw [hpre]
            have h1 := hm.seen
            rw [preS_snoc, pre_eq y.f] at h1
            rw [← h1]
            simp
          · exact HVIS.out.still _ _ _ _ HI4.out ((hbA.os.trans o1).trans hb45.os) ((hbA.tape.trans o2).trans hb45.tape) ((hbA.output.trans o3).trans hb45.output) (by omega) fun k hk => by
              obtain ⟨h1, h2, h3⟩ := hEg k hk
              exact h47 k h3 h1 h2
          · refine ⟨(hbA.os.trans o1).trans (hb45.os.trans (HO4.out.os.trans q1)), (hbA.tape.trans o2).trans (hb45.tape.trans (HO4.out.tape.trans q2)), (hbA.output.trans o3).trans (hb45.output.trans (HO4.out.output.trans q3)), by omega, fun k hk hn => ?_⟩
            rw [h47 k (by omega) (by omega) (by omega), HO4.out.block k (by omega) (fun h => by
              rcases (hm.minds k h).1 with h' | h'
              · exact hn h'
              · omega), HS3.out k (by omega) (by omega)]
            exact hm.only.block k hk hn
          · intro k hk
            obtain ⟨h1, h2⟩ := HE4.out k hk
            refine ⟨?_, by omega⟩
            rcases h1 with h | h
            · exact (hm.minds k h).1
            · exact .inr (by omega)
          · refine ⟨fun h => by have := (hEg _ h).2.2; omega, fun h => ?_⟩
            obtain ⟨h1, h2, h3⟩ := hEg _ h
            rcases hg' with e | e
            · exact h2 e
            · omega
          · intro z hz
            rw [HSTE.out] at hz
            rcases List.mem_append.1 hz with hz | hz
            · exact ⟨InV.later (fun k (hk : k < B) => h47 k (by omega) (by omega) (by omega)) _ _ (HIN4.out z (List.mem_append_left _ hz)), (hm.reads z (List.mem_append_left _ hz)).2⟩
            · rw [List.mem_reverse] at hz
              obtain ⟨i, _, rfl⟩ := List.mem_map.1 hz
              exact ⟨InV.later (fun k (hk : k < B) => (hbA.block k (by omega)).trans (HSM.out k (by omega) (by omega) (by omega))) _ _ (HITS.out i).2, by
                rw [(HITS.out i).1]
                exact HKID.out y.f (hm.reads y (by simp)).2 _ (List.getElem_mem _)⟩
          · refine ⟨List.nodup_cons.2 ⟨fun h => by have := (HD4.out D h).2.2.2.1; omega, hm.marks.1⟩, fun D' hD' => ?_⟩
            rcases List.mem_cons.1 hD' with rfl | hD'
            · have hlD := (Array.getElem?_eq_some_iff.1 hD6).1
              exact ⟨by omega, (hbA.block _ hlD).trans hD6, fun h => by have := (hEg _ h).2.2; omega⟩
            · obtain ⟨h1, h2, h3, h4, h5, h6⟩ := HD4.out D' hD'
              exact ⟨h3, (h47 D' (by omega) h5 h6).trans h1, fun h => by
                rcases (HE4.out D' h).1 with h' | h'
                · exact h2 h'
                · omega⟩
      case stop =>
        rintro D c pre W' _ _ h _
        exact h.elim
end
end Go.Proofs.Ytjhhbbdfoephfaa
namespace Go.Proofs.Ytjhhbbdfoephfaa
open Go.RowKit
theorem ownsRow_sameS {w w' : World} {base n g cap : Nat} {e : TypeId} {xs : List Value} (h : w.ownsRow base e 1 (.slice (some ⟨g, 0, none⟩) n cap) n xs) (hs : w'.heap[g]? = w.heap[g]?) : w'.ownsRow base e 1 (.slice (some ⟨g, 0, none⟩) n cap) n xs := by
  refine ⟨h.1, ?_⟩
  rcases h.2 with ⟨e', _⟩ | ⟨g', cap', cur, e', h1, h2, h3⟩
  · cases e'
  · have e'' := e'
    injection e'' with e1 _ _
    injection e1 with e1
    injection e1 with e1
    exact .inr ⟨g', cap', cur, e', h1, by rw [← e1, hs, e1]; exact h2, h3⟩
end Go.Proofs.Ytjhhbbdfoephfaa
