/- The contracts of the searches for a hit's place, the model's and the program's. -/
import Derived.Test.YtnogpaflibghhaaFindHM
import Derived.Test.YtnogpaflibghhaaSpecHV
import Derived.Test.YtnogpaflibghhaaSpecSame
import Derived.Test.YtnogpaflibghhaaSame
import Derived.Test.YtnogpaflibghhaaHitKit
import Derived.Test.YtnogpaflibghhaaImplSame
import Derived.Test.YtnogpaflibghhaaEndDag
namespace Go.Proofs.Ytnogpaflibghhaa.HI
open Go.RowKit
set_option linter.unusedVariables false
set_option linter.unusedSimpArgs false
set_option maxRecDepth 100000 in
set_option maxHeartbeats 4000000 in
theorem l4Find_any (B : Nat) (l : List Ht) (f : Fm) (a : Option Addr) (cap : Nat) (v : Value) (w : World) (hB : B ≤ w.heap.size) (hl : HitsIn (· < B) w a cap l) (hv : InV (· < B) w f v) :
    Calls Try.prog 90 #[.slice a l.length cap, v] w fun e w' => (∃ r, e = .returned (.int .i64 r) ∧ IdxH (hasN f) l r) ∧ Below w.heap.size w w' := by
  have HL := Lib.hid hl
  have HV := Lib.hid hv
  obtain ⟨fs, ft, fa, fc, rfl⟩ := hv.form
  obtain ⟨hcap, hmax, hrow⟩ := hl
  unfold maxLen at hmax
  have HROW := Lib.hid hrow
  clear hv hrow
  go_enter Try.func90, Try.ntmps90
  go_wp2_with fail
  obtain ⟨w0, hw0⟩ : ∃ w0, w0 = w.alloc (.cells #[.int .i64 f.kind, .string f.name, .int .i64 f.n, .slice fs f.scopes.length ft, .slice fa f.kids.length fc] 33) := ⟨_, rfl⟩
  have hb0 : Below w.heap.size w w0 := by rw [hw0]; exact below_alloc w _
  have hs0 : w0.heap.size = w.heap.size + 1 := by rw [hw0]; simp
  have hf0 : FormBox w0 w.heap.size f fs ft fa fc := by rw [hw0]; exact FormBox.fresh w f fs fa ft fc _
  have HF0 := Lib.hid hf0
  have HB0 := Lib.hid hb0
  rw [← hw0]
  clear hw0 hf0 hb0
  go_loopw [5] (fun i wr => ∃ j : Nat, j ≤ l.length ∧ i = .int .i64 j ∧ (l.take j).any (hasN f) = false ∧ Below w0.heap.size w0 wr) (fun i _ => l.length - (intOf i).toNat)
  case atStart => exact ⟨0, Nat.zero_le _, rfl, by simp, Below.refl _ _⟩
  case round =>
    obtain ⟨j, hj, rfl, hno, hb⟩ := hrel
    have HNO := Lib.hid hno
    have HB := Lib.hid hb
    have hsz := hb.size
    have hfb := HF0.out.later hb
    have hbb : Below w.heap.size w wr := HB0.out.trans (hb.mono (by omega))
    have HBB := Lib.hid hbb
    clear hno hb
    by_cases hlt : j < l.length
    · rcases HROW.out with h0 | ⟨b, off, rfl, hbB, hr⟩
      · exfalso; rw [h0] at hlt; simp at hlt
      have hr1 := hr.later (same_below (HBB.out.mono hB)) b hbB
      obtain ⟨e0, e1, e2, e3, e4, e5, e6, e7, e8, e9, q0, q1, q2, q3, q4, q5, q6, q7, q8, q9, q10, q11, hin⟩ := hr1.at' j hlt
      obtain ⟨x1, x2, x3, x4, x5, x6, x7, x8, x9, xa, ee, _, hnm, _⟩ := InH.form hin
      have hnm' : InV (· < B) wr l[j].name (.agg #[.int .i64 l[j].name.kind, .string l[j].name.name, .int .i64 l[j].name.n, .slice e0 l[j].name.scopes.length e1, .slice e2 l[j].name.kids.length e3]) := by
        injection ee with ee
        injection ee with ee
        simp only [List.cons.injEq, Value.slice.injEq, and_true, true_and] at ee
        obtain ⟨⟨rfl, rfl⟩, ⟨rfl, rfl⟩, _⟩ := ee
        exact hnm
      have HNM := Lib.hid hnm'
      have HNX := Lib.hid (any_take_succH (hasN f) l j hlt)
      have hj0 : (0 : Int) ≤ (j : Int) := by omega
      have hj1 : (j : Int) < (l.length : Int) := by omega
      clear hr hr1 hin ee hnm hnm' hbb
      go_wp2_with fail
      refine upto_begin (fun W => FormBox W w.heap.size f fs ft fa fc ∧ W.cell? ⟨b, off + j * 12, none⟩ = some (.int .i64 l[j].name.kind) ∧ W.cell? ⟨b, off + j * 12 + 1, none⟩ = some (.string l[j].name.name) ∧ W.cell? ⟨b, off + j * 12 + 2, none⟩ = some (.int .i64 l[j].name.n) ∧ W.cell? ⟨b, off + j * 12 + 3, none⟩ = some (.slice e0 l[j].name.scopes.length e1) ∧ W.cell? ⟨b, off + j * 12 + 4, none⟩ = some (.slice e2 l[j].name.kids.length e3)) 7 (by kernel_rfl) ?_
      obtain ⟨u, hu⟩ : ∃ u, u = wr.drew := ⟨_, rfl⟩
      rw [← hu]
      have hb : Below wr.heap.size wr u := by rw [hu]; exact (Below.refl _ _).drew
      have hS0 : (fun W => FormBox W w.heap.size f fs ft fa fc ∧ W.cell? ⟨b, off + j * 12, none⟩ = some (.int .i64 l[j].name.kind) ∧ W.cell? ⟨b, off + j * 12 + 1, none⟩ = some (.string l[j].name.name) ∧ W.cell? ⟨b, off + j * 12 + 2, none⟩ = some (.int .i64 l[j].name.n) ∧ W.cell? ⟨b, off + j * 12 + 3, none⟩ = some (.slice e0 l[j].name.scopes.length e1) ∧ W.cell? ⟨b, off + j * 12 + 4, none⟩ = some (.slice e2 l[j].name.kids.length e3)) u := ⟨hfb.later hb, cell_later' hb q0, cell_later' hb q1, cell_later' hb q2, cell_later' hb q3, cell_later' hb q4⟩
      have HBU : Hid (Below w0.heap.size w0 u) := HB.out.trans (hb.mono (by omega))
      have HBV : Hid (Below w.heap.size w u) := HBB.out.trans (hb.mono (by omega))
      have HNU := Lib.hid (InV.later (same_below (hb.mono (by omega))) _ _ HNM.out)
      have hsu := hb.size
      clear hb hu
      refine upto_take (i := 0) (d := some 12) (v := ?_) rfl rfl (by kernel_rfl) (by kernel_rfl) (by kernel_rfl) (by kernel_rfl) (fun _ _ _ h => h) (Or.inl ⟨by rfl, ?_⟩) hS0 ?_
      rotate_left
      · (intro wS hSw; obtain ⟨⟨_, _, _, _, _⟩, _, _, _, _, _⟩ := hSw; go_simp; try with_reducible rfl)
      try simp only [Act.put, List.setIfInBounds_toArray, List.set_cons_zero, List.set_cons_succ]
      refine upto_take (i := 1) (d := some 13) (v := ?_) rfl rfl (by kernel_rfl) (by kernel_rfl) (by kernel_rfl) (by kernel_rfl) (fun _ _ _ h => h) (Or.inl ⟨by rfl, ?_⟩) hS0 ?_
      rotate_left
      · (intro wS hSw; obtain ⟨⟨_, _, _, _, _⟩, _, _, _, _, _⟩ := hSw; go_simp; try with_reducible rfl)
      try simp only [Act.put, List.setIfInBounds_toArray, List.set_cons_zero, List.set_cons_succ]
      refine upto_take (i := 2) (d := some 14) (v := ?_) rfl rfl (by kernel_rfl) (by kernel_rfl) (by kernel_rfl) (by kernel_rfl) (fun _ _ _ h => h) (Or.inl ⟨by rfl, ?_⟩) hS0 ?_
      rotate_left
      · (intro wS hSw; obtain ⟨⟨_, _, _, _, _⟩, _, _, _, _, _⟩ := hSw; go_simp; try with_reducible rfl)
      try simp only [Act.put, List.setIfInBounds_toArray, List.set_cons_zero, List.set_cons_succ]
      refine upto_take (i := 3) (d := some 15) (v := ?_) rfl rfl (by kernel_rfl) (by kernel_rfl) (by kernel_rfl) (by kernel_rfl) (fun _ _ _ h => h) (Or.inl ⟨by rfl, ?_⟩) hS0 ?_
      rotate_left
      · (intro wS hSw; obtain ⟨⟨_, _, _, _, _⟩, _, _, _, _, _⟩ := hSw; go_simp; try with_reducible rfl)
      try simp only [Act.put, List.setIfInBounds_toArray, List.set_cons_zero, List.set_cons_succ]
      refine upto_take (i := 4) (d := some 16) (v := ?_) rfl rfl (by kernel_rfl) (by kernel_rfl) (by kernel_rfl) (by kernel_rfl) (fun _ _ _ h => h) (Or.inl ⟨by rfl, ?_⟩) hS0 ?_
      rotate_left
      · (intro wS hSw; obtain ⟨⟨_, _, _, _, _⟩, _, _, _, _, _⟩ := hSw; go_simp; try with_reducible rfl)
      try simp only [Act.put, List.setIfInBounds_toArray, List.set_cons_zero, List.set_cons_succ]
      refine upto_take (i := 5) (d := some 17) (v := ?_) rfl rfl (by kernel_rfl) (by kernel_rfl) (by kernel_rfl) (by kernel_rfl) (fun _ _ _ h => h) (Or.inl ⟨by rfl, ?_⟩) hS0 ?_
      rotate_left
      · (intro wS hSw; obtain ⟨⟨_, _, _, _, _⟩, _, _, _, _, _⟩ := hSw; go_simp; try with_reducible rfl)
      try simp only [Act.put, List.setIfInBounds_toArray, List.set_cons_zero, List.set_cons_succ]
      refine upto_one (i := 6) (by kernel_rfl) rfl (fun K hK => ?_)
      go_simp
      refine (specSame_any B l[j].name f _ _ u (by omega) HNU.out (InV.later (same_below (HBV.out.mono hB)) _ _ HV.out)).mono ?_
      rintro e w1 ⟨rfl, hb1⟩
      have HB1 : Hid (Below w0.heap.size w0 w1) := HBU.out.trans (hb1.mono (by omega))
      have hS1 : (fun W => FormBox W w.heap.size f fs ft fa fc ∧ W.cell? ⟨b, off + j * 12, none⟩ = some (.int .i64 l[j].name.kind) ∧ W.cell? ⟨b, off + j * 12 + 1, none⟩ = some (.string l[j].name.name) ∧ W.cell? ⟨b, off + j * 12 + 2, none⟩ = some (.int .i64 l[j].name.n) ∧ W.cell? ⟨b, off + j * 12 + 3, none⟩ = some (.slice e0 l[j].name.scopes.length e1) ∧ W.cell? ⟨b, off + j * 12 + 4, none⟩ = some (.slice e2 l[j].name.kids.length e3)) w1 := ⟨hS0.1.later hb1, cell_later' hb1 hS0.2.1, cell_later' hb1 hS0.2.2.1, cell_later' hb1 hS0.2.2.2.1, cell_later' hb1 hS0.2.2.2.2.1, cell_later' hb1 hS0.2.2.2.2.2⟩
      refine hK.out _ _ (.inr hS1) ?_
      clear hK K hb1 hS0 hS1
      refine upto_done (by kernel_rfl) ?_ _
      cases hx : sameB l[j].name f with
      | true =>
        have HY : Hid (IdxH (hasN f) l j) := .inr ⟨j, hlt, rfl, hx, HNO.out⟩
        go_wp2_with fail
        go_ret
        exact ⟨⟨_, rfl, HY.out⟩, HB0.out.trans (HB1.out.mono (by omega))⟩
      | false =>
        have HY : Hid ((l.take (j + 1)).any (hasN f) = false) := by unfold Hid; rw [HNX.out, HNO.out]; show (false || sameB l[j].name f) = false; rw [hx]; rfl
        go_wp2_with fail
        go_roundw
        case rel => exact ⟨j + 1, by omega, by go_num, HY.out, HB1.out⟩
        case measure => simp [intOf]; omega
    · obtain rfl : j = l.length := by omega
      have HY : Hid (IdxH (hasN f) l (-1)) := .inl ⟨rfl, by have := HNO.out; rw [List.take_length] at this; exact this⟩
      go_wp2_with fail
      go_ret
      exact ⟨⟨_, rfl, HY.out⟩, HBB.out⟩
end Go.Proofs.Ytnogpaflibghhaa.HI
namespace Go.Proofs.Ytnogpaflibghhaa.HO
open Go.RowKit
set_option linter.unusedVariables false
set_option linter.unusedSimpArgs false
/-- a hit in a box -/
def PBoxA (w : World) (b : Nat) (c0 c1 c2 c3 c4 c5 c6 c7 c8 c9 c10 c11 : Value) : Prop := w.cell? ⟨b, 0, none⟩ = some c0 ∧ w.cell? ⟨b, 1, none⟩ = some c1 ∧ w.cell? ⟨b, 2, none⟩ = some c2 ∧ w.cell? ⟨b, 3, none⟩ = some c3 ∧ w.cell? ⟨b, 4, none⟩ = some c4 ∧ w.cell? ⟨b, 5, none⟩ = some c5 ∧ w.cell? ⟨b, 6, none⟩ = some c6 ∧ w.cell? ⟨b, 7, none⟩ = some c7 ∧ w.cell? ⟨b, 8, none⟩ = some c8 ∧ w.cell? ⟨b, 9, none⟩ = some c9 ∧ w.cell? ⟨b, 10, none⟩ = some c10 ∧ w.cell? ⟨b, 11, none⟩ = some c11
theorem PBoxA.keep {w w' : World} {b : Nat} {c0 c1 c2 c3 c4 c5 c6 c7 c8 c9 c10 c11 : Value} (h : PBoxA w b c0 c1 c2 c3 c4 c5 c6 c7 c8 c9 c10 c11) (hs : w'.heap[b]? = w.heap[b]?) : PBoxA w' b c0 c1 c2 c3 c4 c5 c6 c7 c8 c9 c10 c11 := by
  obtain ⟨x0, x1, x2, x3, x4, x5, x6, x7, x8, x9, x10, x11⟩ := h
  exact ⟨(World.cell?_of_block (a := ⟨b, 0, none⟩) hs).trans x0, (World.cell?_of_block (a := ⟨b, 1, none⟩) hs).trans x1, (World.cell?_of_block (a := ⟨b, 2, none⟩) hs).trans x2, (World.cell?_of_block (a := ⟨b, 3, none⟩) hs).trans x3, (World.cell?_of_block (a := ⟨b, 4, none⟩) hs).trans x4, (World.cell?_of_block (a := ⟨b, 5, none⟩) hs).trans x5, (World.cell?_of_block (a := ⟨b, 6, none⟩) hs).trans x6, (World.cell?_of_block (a := ⟨b, 7, none⟩) hs).trans x7, (World.cell?_of_block (a := ⟨b, 8, none⟩) hs).trans x8, (World.cell?_of_block (a := ⟨b, 9, none⟩) hs).trans x9, (World.cell?_of_block (a := ⟨b, 10, none⟩) hs).trans x10, (World.cell?_of_block (a := ⟨b, 11, none⟩) hs).trans x11⟩
theorem PBoxA.later {w w' : World} {b : Nat} {c0 c1 c2 c3 c4 c5 c6 c7 c8 c9 c10 c11 : Value} (h : PBoxA w b c0 c1 c2 c3 c4 c5 c6 c7 c8 c9 c10 c11) (hb : Below w.heap.size w w') : PBoxA w' b c0 c1 c2 c3 c4 c5 c6 c7 c8 c9 c10 c11 := h.keep (hb.block b (cell_lt h.1))
theorem hitsPl {w w' : World} {a : Option Addr} {cap : Nat} {l : List Ht} (hb : Below w.heap.size w w') (h : HitsIn (Pl w.heap.size w) w a cap l) : HitsIn (Pl w'.heap.size w') w' a cap l :=
  (h.later (fun k hk => hb.block k hk.1)).mono (fun k hk => ⟨Nat.lt_of_lt_of_le hk.1 hb.size, hk.2.same (hb.block k hk.1)⟩)
/-- a hit where it lies, and a flag -/
def OfPost (l : List Ht) (f : Fm) (w : World) (e : Ending) (w' : World) : Prop := ∃ (R : Ht) (ok : Bool) (s1 : Option Addr) (t1 : Nat) (k1 : Option Addr) (l1 : Nat) (s2 : Option Addr) (t2 : Nat) (k2 : Option Addr) (l2 : Nat) (a : Option Addr) (cap : Nat), e = .returned (.tuple #[.agg #[.int .i64 R.name.kind, .string R.name.name, .int .i64 R.name.n, .slice s1 R.name.scopes.length t1, .slice k1 R.name.kids.length l1, .int .i64 R.depth, .int .i64 R.one.kind, .string R.one.name, .int .i64 R.one.n, .slice s2 R.one.scopes.length t2, .slice k2 R.one.kids.length l2, .slice a R.many.length cap], .bool ok]) ∧ InH (Pl w'.heap.size w') w' R (.agg #[.int .i64 R.name.kind, .string R.name.name, .int .i64 R.name.n, .slice s1 R.name.scopes.length t1, .slice k1 R.name.kids.length l1, .int .i64 R.depth, .int .i64 R.one.kind, .string R.one.name, .int .i64 R.one.n, .slice s2 R.one.scopes.length t2, .slice k2 R.one.kids.length l2, .slice a R.many.length cap]) ∧
  ((ok = true ∧ l.find? (hasN f) = some R) ∨ (ok = false ∧ l.find? (hasN f) = none ∧ R = zeroH)) ∧ Below w.heap.size w w'
set_option maxRecDepth 100000 in
set_option maxHeartbeats 4000000 in
theorem hitOf_any (l : List Ht) (f : Fm) (a : Option Addr) (cap : Nat) (v : Value) (w : World) (hl : HitsIn (Pl w.heap.size w) w a cap l) (hv : InV (· < w.heap.size) w f v) (hnm : ∀ x ∈ l, isNameB x.name = true) :
    Calls Try.prog 92 #[.slice a l.length cap, v] w (OfPost l f w) := by
  have HL := Lib.hid hl
  have HV := Lib.hid hv
  obtain ⟨fs, ft, fa, fc, rfl⟩ := hv.form
  obtain ⟨hcap, hmax, hrow⟩ := hl
  unfold maxLen at hmax
  have HROW := Lib.hid hrow
  have HNM := Lib.hid hnm
  clear hv hrow hnm
  go_enter Try.func92, Try.ntmps92
  go_wp2_with fail
  obtain ⟨w0, hw0⟩ : ∃ w0, w0 = (w.alloc (.cells #[.int .i64 f.kind, .string f.name, .int .i64 f.n, .slice fs f.scopes.length ft, .slice fa f.kids.length fc] 33)).alloc (.cells #[.int .i64 0, .string { data := #[] }, .int .i64 0, .slice none 0 0, .slice none 0 0, .int .i64 0, .int .i64 0, .string { data := #[] }, .int .i64 0, .slice none 0 0, .slice none 0 0, .slice none 0 0] 60) := ⟨_, rfl⟩
  have hb0 : Below w.heap.size w w0 := by rw [hw0]; exact (below_alloc w _).alloc (by simp) _
  have hs0 : w0.heap.size = w.heap.size + 2 := by rw [hw0]; simp
  have hf0 : FormBox w0 w.heap.size f fs ft fa fc := by rw [hw0]; exact (FormBox.fresh w f fs fa ft fc _).later (below_alloc _ _)
  have hz0 : w0.heap[w.heap.size + 1]? = some (.cells #[.int .i64 0, .string { data := #[] }, .int .i64 0, .slice none 0 0, .slice none 0 0, .int .i64 0, .int .i64 0, .string { data := #[] }, .int .i64 0, .slice none 0 0, .slice none 0 0, .slice none 0 0] 60 (0, 0)) := by
    rw [hw0]
    have := heap_alloc_new (w.alloc (.cells #[.int .i64 f.kind, .string f.name, .int .i64 f.n, .slice fs f.scopes.length ft, .slice fa f.kids.length fc] 33)) (.cells #[.int .i64 0, .string { data := #[] }, .int .i64 0, .slice none 0 0, .slice none 0 0, .int .i64 0, .int .i64 0, .string { data := #[] }, .int .i64 0, .slice none 0 0, .slice none 0 0, .slice none 0 0] 60)
    rw [size_alloc'] at this
    exact this
  have HF0 := Lib.hid hf0
  have HB0 := Lib.hid hb0
  have HZ0 := Lib.hid hz0
  rw [← hw0]
  clear hw0 hf0 hb0 hz0
  go_loopw [10, 7] (fun i u wr => ∃ j : Nat, j ≤ l.length ∧ i = .int .i64 j ∧ (l.take j).any (hasN f) = false ∧ Below w0.heap.size w0 wr) (fun i _ _ => l.length - (intOf i).toNat)
  case atStart => exact ⟨0, Nat.zero_le _, rfl, by simp, Below.refl _ _⟩
  case round =>
    obtain ⟨j, hj, rfl, hno, hb⟩ := hrel
    have HNO := Lib.hid hno
    have hsz := hb.size
    have hfb := HF0.out.later hb
    have hbb : Below w.heap.size w wr := HB0.out.trans (hb.mono (by omega))
    have HBB := Lib.hid hbb
    have hzr := (hb.block _ (by omega)).trans HZ0.out
    have HB := Lib.hid hb
    clear hno hb
    by_cases hlt : j < l.length
    · rcases HROW.out with h0 | ⟨b, off, rfl, hbB, hr⟩
      · exfalso; rw [h0] at hlt; simp at hlt
      obtain ⟨e0, e1, e2, e3, e4, e5, e6, e7, e8, e9, q0, q1, q2, q3, q4, q5, q6, q7, q8, q9, q10, q11, hin⟩ := hr.at' j hlt
      have hcx : ∀ i, wr.cell? ⟨b, i, none⟩ = w.cell? ⟨b, i, none⟩ := fun i => HBB.out.cell (p := ⟨b, i, none⟩) hbB.1
      have q0 := (hcx _).trans q0
      have q1 := (hcx _).trans q1
      have q2 := (hcx _).trans q2
      have q3 := (hcx _).trans q3
      have q4 := (hcx _).trans q4
      have q5 := (hcx _).trans q5
      have q6 := (hcx _).trans q6
      have q7 := (hcx _).trans q7
      have q8 := (hcx _).trans q8
      have q9 := (hcx _).trans q9
      have q10 := (hcx _).trans q10
      have q11 := (hcx _).trans q11
      have HIN := Lib.hid hin
      obtain ⟨x1, x2, x3, x4, x5, x6, x7, x8, x9, xa, ee, _, hnm, _⟩ := InH.form hin
      have hnm' : InV (· < w.heap.size) w l[j].name (.agg #[.int .i64 l[j].name.kind, .string l[j].name.name, .int .i64 l[j].name.n, .slice e0 l[j].name.scopes.length e1, .slice e2 l[j].name.kids.length e3]) := by
        injection ee with ee
        injection ee with ee
        simp only [List.cons.injEq, Value.slice.injEq, and_true, true_and] at ee
        obtain ⟨⟨rfl, rfl⟩, ⟨rfl, rfl⟩, _⟩ := ee
        exact InV.mono (fun k hk => hk.1) _ _ hnm
      have HNV := Lib.hid hnm'
      have HNX := Lib.hid (any_take_succH (hasN f) l j hlt)
      have hnj := HNM.out l[j] (List.getElem_mem hlt)
      have HSN := Lib.hid (nodeSame_name (f := f) hnj)
      have hj0 : (0 : Int) ≤ (j : Int) := by omega
      have hj1 : (j : Int) < (l.length : Int) := by omega
      obtain ⟨x0, x1, x2, x3, x4⟩ := hfb
      clear hr hin ee hnm hnm' hbb hcx hnj
      obtain ⟨G, hG⟩ : ∃ G, l[j] = G := ⟨_, rfl⟩
      have HG := Lib.hid hG
      rw [hG] at q0 q1 q2 q3 q4 q5 q6 q7 q8 q9 q10 q11 HIN HNV HNX HSN
      have hba := below_alloc wr (.cells #[.int .i64 G.name.kind, .string G.name.name, .int .i64 G.name.n, .slice e0 G.name.scopes.length e1, .slice e2 G.name.kids.length e3, .int .i64 G.depth, .int .i64 G.one.kind, .string G.one.name, .int .i64 G.one.n, .slice e4 G.one.scopes.length e5, .slice e6 G.one.kids.length e7, .slice e8 G.many.length e9] 60)
      have x0 := cell_later' hba x0
      have x1 := cell_later' hba x1
      have x2 := cell_later' hba x2
      have x3 := cell_later' hba x3
      have x4 := cell_later' hba x4
      clear hba
      go_wp2_with fail
      obtain ⟨w1, hw1⟩ : ∃ w1, w1 = wr.alloc (.cells #[.int .i64 G.name.kind, .string G.name.name, .int .i64 G.name.n, .slice e0 G.name.scopes.length e1, .slice e2 G.name.kids.length e3, .int .i64 G.depth, .int .i64 G.one.kind, .string G.one.name, .int .i64 G.one.n, .slice e4 G.one.scopes.length e5, .slice e6 G.one.kids.length e7, .slice e8 G.many.length e9] 60) := ⟨_, rfl⟩
      rw [← hw1]
      have hb1 : Below wr.heap.size wr w1 := by rw [hw1]; exact below_alloc wr _
      have hs1 : w1.heap.size = wr.heap.size + 1 := by rw [hw1]; simp
      have hx1 : PBoxA w1 wr.heap.size (.int .i64 G.name.kind) (.string G.name.name) (.int .i64 G.name.n) (.slice e0 G.name.scopes.length e1) (.slice e2 G.name.kids.length e3) (.int .i64 G.depth) (.int .i64 G.one.kind) (.string G.one.name) (.int .i64 G.one.n) (.slice e4 G.one.scopes.length e5) (.slice e6 G.one.kids.length e7) (.slice e8 G.many.length e9) := by rw [hw1]; exact ⟨World.cell?_alloc_at _ _ _ _ rfl, World.cell?_alloc_at _ _ _ _ rfl, World.cell?_alloc_at _ _ _ _ rfl, World.cell?_alloc_at _ _ _ _ rfl, World.cell?_alloc_at _ _ _ _ rfl, World.cell?_alloc_at _ _ _ _ rfl, World.cell?_alloc_at _ _ _ _ rfl, World.cell?_alloc_at _ _ _ _ rfl, World.cell?_alloc_at _ _ _ _ rfl, World.cell?_alloc_at _ _ _ _ rfl, World.cell?_alloc_at _ _ _ _ rfl, World.cell?_alloc_at _ _ _ _ rfl⟩
      have HB1 : Hid (Below w0.heap.size w0 w1) := HB.out.trans (hb1.mono (by omega))
      have HBV : Hid (Below w.heap.size w w1) := HBB.out.trans (hb1.mono (by omega))
      have hz1 := (hb1.block _ (by omega)).trans hzr
      have HX1 := Lib.hid hx1
      clear hw1 hb1 hzr q0 q1 q2 q3 q4 q5 q6 q7 q8 q9 q10 q11
      have HSAME : Calls Try.prog 162 #[(.agg #[.int .i64 G.name.kind, .string G.name.name, .int .i64 G.name.n, .slice e0 G.name.scopes.length e1, .slice e2 G.name.kids.length e3]), .agg #[.int .i64 f.kind, .string f.name, .int .i64 f.n, .slice fs f.scopes.length ft, .slice fa f.kids.length fc]] w1 fun e w' => e = .returned (.bool (nodeSame G.name f)) ∧ Below w1.heap.size w1 w' :=
        sameNode_any w.heap.size G.name f _ _ w1 (by omega) (InV.later (same_below HBV.out) _ _ HNV.out) (InV.later (same_below HBV.out) _ _ HV.out)
      rw [HSN.out] at HSAME
      refine HSAME.mono ?_
      rintro e w2 ⟨rfl, hb2⟩
      have hs2 := hb2.size
      have HB2 : Hid (Below w0.heap.size w0 w2) := HB1.out.trans (hb2.mono (by omega))
      have HBW : Hid (Below w.heap.size w w2) := HBV.out.trans (hb2.mono (by omega))
      have HIN3 := Lib.hid (InH.mono (ψ := fun k => Pl w2.heap.size w2 k ∧ k ≠ w.heap.size + 1) (fun k (hk : Pl w.heap.size w2 k) => ⟨⟨by have := hk.1; omega, hk.2⟩, by have := hk.1; omega⟩) _ _ (InH.mono (ψ := Pl w.heap.size w2) (fun k hk => ⟨hk.1, hk.2.same (HBW.out.block _ hk.1)⟩) _ _ (InH.later (fun k hk => HBW.out.block _ hk.1) _ _ HIN.out)))
      have hz2 := (hb2.block _ (by omega)).trans hz1
      have hx2 := HX1.out.later hb2
      clear hb2 hz1 HX1 HSAME x0 x1 x2 x3 x4
      cases hx : sameB G.name f with
      | true =>
        have HFD : Hid (l.find? (hasN f) = some G) := by rw [← hG]; exact find_first _ l j hlt HNO.out (by show sameB l[j].name f = true; rw [hG]; exact hx)
        obtain ⟨y0, y1, y2, y3, y4, y5, y6, y7, y8, y9, y10, y11⟩ := hx2
        have hplr : Plain w2 (w.heap.size + 1) := ⟨_, _, hz2⟩
        have r0 : w2.cell? ⟨w.heap.size + 1, 0, none⟩ = some (.int .i64 0) := by rw [cell_of_row w2 _ 0 _ _ _ hz2]; rfl
        have r1 : w2.cell? ⟨w.heap.size + 1, 1, none⟩ = some (.string { data := #[] }) := by rw [cell_of_row w2 _ 1 _ _ _ hz2]; rfl
        have r2 : w2.cell? ⟨w.heap.size + 1, 2, none⟩ = some (.int .i64 0) := by rw [cell_of_row w2 _ 2 _ _ _ hz2]; rfl
        have r3 : w2.cell? ⟨w.heap.size + 1, 3, none⟩ = some (.slice none 0 0) := by rw [cell_of_row w2 _ 3 _ _ _ hz2]; rfl
        have r4 : w2.cell? ⟨w.heap.size + 1, 4, none⟩ = some (.slice none 0 0) := by rw [cell_of_row w2 _ 4 _ _ _ hz2]; rfl
        have r5 : w2.cell? ⟨w.heap.size + 1, 5, none⟩ = some (.int .i64 0) := by rw [cell_of_row w2 _ 5 _ _ _ hz2]; rfl
        have r6 : w2.cell? ⟨w.heap.size + 1, 6, none⟩ = some (.int .i64 0) := by rw [cell_of_row w2 _ 6 _ _ _ hz2]; rfl
        have r7 : w2.cell? ⟨w.heap.size + 1, 7, none⟩ = some (.string { data := #[] }) := by rw [cell_of_row w2 _ 7 _ _ _ hz2]; rfl
        have r8 : w2.cell? ⟨w.heap.size + 1, 8, none⟩ = some (.int .i64 0) := by rw [cell_of_row w2 _ 8 _ _ _ hz2]; rfl
        have r9 : w2.cell? ⟨w.heap.size + 1, 9, none⟩ = some (.slice none 0 0) := by rw [cell_of_row w2 _ 9 _ _ _ hz2]; rfl
        have r10 : w2.cell? ⟨w.heap.size + 1, 10, none⟩ = some (.slice none 0 0) := by rw [cell_of_row w2 _ 10 _ _ _ hz2]; rfl
        have r11 : w2.cell? ⟨w.heap.size + 1, 11, none⟩ = some (.slice none 0 0) := by rw [cell_of_row w2 _ 11 _ _ _ hz2]; rfl
        have t_0 := hplr.frozen 0
        have t_1 := hplr.frozen 1
        have t_2 := hplr.frozen 2
        have t_3 := hplr.frozen 3
        have t_4 := hplr.frozen 4
        have t_5 := hplr.frozen 5
        have t_6 := hplr.frozen 6
        have t_7 := hplr.frozen 7
        have t_8 := hplr.frozen 8
        have t_9 := hplr.frozen 9
        have t_10 := hplr.frozen 10
        have t_11 := hplr.frozen 11
        have HR : Hid (∀ i, i < 12 → ∃ v, w2.cell? ⟨w.heap.size + 1, 0 + i, none⟩ = some v) := fun i hi => by
          rw [Nat.zero_add]
          match i, hi with
          | 0, _ => exact ⟨_, r0⟩
          | 1, _ => exact ⟨_, r1⟩
          | 2, _ => exact ⟨_, r2⟩
          | 3, _ => exact ⟨_, r3⟩
          | 4, _ => exact ⟨_, r4⟩
          | 5, _ => exact ⟨_, r5⟩
          | 6, _ => exact ⟨_, r6⟩
          | 7, _ => exact ⟨_, r7⟩
          | 8, _ => exact ⟨_, r8⟩
          | 9, _ => exact ⟨_, r9⟩
          | 10, _ => exact ⟨_, r10⟩
          | 11, _ => exact ⟨_, r11⟩
        clear hplr
        go_wp2_with fail
        obtain ⟨V, hV⟩ : ∃ V, V = ((((((((((((w2.setCell ⟨w.heap.size + 1, 0, none⟩ (.int .i64 G.name.kind)).setCell ⟨w.heap.size + 1, 1, none⟩ (.string G.name.name)).setCell ⟨w.heap.size + 1, 2, none⟩ (.int .i64 G.name.n)).setCell ⟨w.heap.size + 1, 3, none⟩ (.slice e0 G.name.scopes.length e1)).setCell ⟨w.heap.size + 1, 4, none⟩ (.slice e2 G.name.kids.length e3)).setCell ⟨w.heap.size + 1, 5, none⟩ (.int .i64 G.depth)).setCell ⟨w.heap.size + 1, 6, none⟩ (.int .i64 G.one.kind)).setCell ⟨w.heap.size + 1, 7, none⟩ (.string G.one.name)).setCell ⟨w.heap.size + 1, 8, none⟩ (.int .i64 G.one.n)).setCell ⟨w.heap.size + 1, 9, none⟩ (.slice e4 G.one.scopes.length e5)).setCell ⟨w.heap.size + 1, 10, none⟩ (.slice e6 G.one.kids.length e7)).setCell ⟨w.heap.size + 1, 11, none⟩ (.slice e8 G.many.length e9)) := ⟨_, rfl⟩
        have E : V = sets w2 (w.heap.size + 1) 0 [.int .i64 G.name.kind, .string G.name.name, .int .i64 G.name.n, .slice e0 G.name.scopes.length e1, .slice e2 G.name.kids.length e3, .int .i64 G.depth, .int .i64 G.one.kind, .string G.one.name, .int .i64 G.one.n, .slice e4 G.one.scopes.length e5, .slice e6 G.one.kids.length e7, .slice e8 G.many.length e9] := by rw [hV]; rfl
        have hin := sets_in (w.heap.size + 1) [Value.int .i64 G.name.kind, Value.string G.name.name, Value.int .i64 G.name.n, Value.slice e0 G.name.scopes.length e1, Value.slice e2 G.name.kids.length e3, Value.int .i64 G.depth, Value.int .i64 G.one.kind, Value.string G.one.name, Value.int .i64 G.one.n, Value.slice e4 G.one.scopes.length e5, Value.slice e6 G.one.kids.length e7, Value.slice e8 G.many.length e9] w2 0 HR.out
        rw [← E] at hin
        have z0 : V.cell? ⟨w.heap.size + 1, 0, none⟩ = some (.int .i64 G.name.kind) := by have := hin 0 (by simp); simpa using this
        have z1 : V.cell? ⟨w.heap.size + 1, 1, none⟩ = some (.string G.name.name) := by have := hin 1 (by simp); simpa using this
        have z2 : V.cell? ⟨w.heap.size + 1, 2, none⟩ = some (.int .i64 G.name.n) := by have := hin 2 (by simp); simpa using this
        have z3 : V.cell? ⟨w.heap.size + 1, 3, none⟩ = some (.slice e0 G.name.scopes.length e1) := by have := hin 3 (by simp); simpa using this
        have z4 : V.cell? ⟨w.heap.size + 1, 4, none⟩ = some (.slice e2 G.name.kids.length e3) := by have := hin 4 (by simp); simpa using this
        have z5 : V.cell? ⟨w.heap.size + 1, 5, none⟩ = some (.int .i64 G.depth) := by have := hin 5 (by simp); simpa using this
        have z6 : V.cell? ⟨w.heap.size + 1, 6, none⟩ = some (.int .i64 G.one.kind) := by have := hin 6 (by simp); simpa using this
        have z7 : V.cell? ⟨w.heap.size + 1, 7, none⟩ = some (.string G.one.name) := by have := hin 7 (by simp); simpa using this
        have z8 : V.cell? ⟨w.heap.size + 1, 8, none⟩ = some (.int .i64 G.one.n) := by have := hin 8 (by simp); simpa using this
        have z9 : V.cell? ⟨w.heap.size + 1, 9, none⟩ = some (.slice e4 G.one.scopes.length e5) := by have := hin 9 (by simp); simpa using this
        have z10 : V.cell? ⟨w.heap.size + 1, 10, none⟩ = some (.slice e6 G.one.kids.length e7) := by have := hin 10 (by simp); simpa using this
        have z11 : V.cell? ⟨w.heap.size + 1, 11, none⟩ = some (.slice e8 G.many.length e9) := by have := hin 11 (by simp); simpa using this
        have hz5 : V.heap.size = w2.heap.size := by rw [E, sets_size]
        have hbe5 : Below w.heap.size w V := by rw [E]; exact sets_below (by omega) _ _ HBW.out
        rw [← hV]
        refine bodyPost_ret (v := .tuple #[.agg #[.int .i64 G.name.kind, .string G.name.name, .int .i64 G.name.n, .slice e0 G.name.scopes.length e1, .slice e2 G.name.kids.length e3, .int .i64 G.depth, .int .i64 G.one.kind, .string G.one.name, .int .i64 G.one.n, .slice e4 G.one.scopes.length e5, .slice e6 G.one.kids.length e7, .slice e8 G.many.length e9], .bool true]) (by simp [results, Try.results92, go_sem, z0, z1, z2, z3, z4, z5, z6, z7, z8, z9, z10, z11]) rfl ?_
        have hin6 : InH (Pl V.heap.size V) V G (.agg #[.int .i64 G.name.kind, .string G.name.name, .int .i64 G.name.n, .slice e0 G.name.scopes.length e1, .slice e2 G.name.kids.length e3, .int .i64 G.depth, .int .i64 G.one.kind, .string G.one.name, .int .i64 G.one.n, .slice e4 G.one.scopes.length e5, .slice e6 G.one.kids.length e7, .slice e8 G.many.length e9]) := by
          rw [E, sets_size]
          refine InH.mono (fun k hk => ⟨hk.1.1, Plain.sets (w.heap.size + 1) _ 0 hk.1.2⟩) _ _ (InH.later (φ := fun k => Pl w2.heap.size w2 k ∧ k ≠ w.heap.size + 1) (fun k hk => sets_block _ _ _ _ hk.2) _ _ HIN3.out)
        exact ⟨G, true, _, _, _, _, _, _, _, _, _, _, rfl, hin6, .inl ⟨rfl, HFD.out⟩, hbe5⟩
      | false =>
        have HY : Hid ((l.take (j + 1)).any (hasN f) = false) := by unfold Hid; rw [HNX.out, HNO.out]; show (false || sameB G.name f) = false; rw [hx]; rfl
        go_wp2_with fail
        go_roundw
        case rel => exact ⟨j + 1, by omega, by go_num, HY.out, HB2.out⟩
        case measure => simp [intOf]; omega
    · obtain rfl : j = l.length := by omega
      have HFN : Hid (l.find? (hasN f) = none) := find_none _ _ (by have := HNO.out; rw [List.take_length] at this; exact this)
      have hplr : Plain wr (w.heap.size + 1) := ⟨_, _, hzr⟩
      have r0 : wr.cell? ⟨w.heap.size + 1, 0, none⟩ = some (.int .i64 0) := by rw [cell_of_row wr _ 0 _ _ _ hzr]; rfl
      have r1 : wr.cell? ⟨w.heap.size + 1, 1, none⟩ = some (.string { data := #[] }) := by rw [cell_of_row wr _ 1 _ _ _ hzr]; rfl
      have r2 : wr.cell? ⟨w.heap.size + 1, 2, none⟩ = some (.int .i64 0) := by rw [cell_of_row wr _ 2 _ _ _ hzr]; rfl
      have r3 : wr.cell? ⟨w.heap.size + 1, 3, none⟩ = some (.slice none 0 0) := by rw [cell_of_row wr _ 3 _ _ _ hzr]; rfl
      have r4 : wr.cell? ⟨w.heap.size + 1, 4, none⟩ = some (.slice none 0 0) := by rw [cell_of_row wr _ 4 _ _ _ hzr]; rfl
      have r5 : wr.cell? ⟨w.heap.size + 1, 5, none⟩ = some (.int .i64 0) := by rw [cell_of_row wr _ 5 _ _ _ hzr]; rfl
      have r6 : wr.cell? ⟨w.heap.size + 1, 6, none⟩ = some (.int .i64 0) := by rw [cell_of_row wr _ 6 _ _ _ hzr]; rfl
      have r7 : wr.cell? ⟨w.heap.size + 1, 7, none⟩ = some (.string { data := #[] }) := by rw [cell_of_row wr _ 7 _ _ _ hzr]; rfl
      have r8 : wr.cell? ⟨w.heap.size + 1, 8, none⟩ = some (.int .i64 0) := by rw [cell_of_row wr _ 8 _ _ _ hzr]; rfl
      have r9 : wr.cell? ⟨w.heap.size + 1, 9, none⟩ = some (.slice none 0 0) := by rw [cell_of_row wr _ 9 _ _ _ hzr]; rfl
      have r10 : wr.cell? ⟨w.heap.size + 1, 10, none⟩ = some (.slice none 0 0) := by rw [cell_of_row wr _ 10 _ _ _ hzr]; rfl
      have r11 : wr.cell? ⟨w.heap.size + 1, 11, none⟩ = some (.slice none 0 0) := by rw [cell_of_row wr _ 11 _ _ _ hzr]; rfl
      have t_0 := hplr.frozen 0
      have t_1 := hplr.frozen 1
      have t_2 := hplr.frozen 2
      have t_3 := hplr.frozen 3
      have t_4 := hplr.frozen 4
      have t_5 := hplr.frozen 5
      have t_6 := hplr.frozen 6
      have t_7 := hplr.frozen 7
      have t_8 := hplr.frozen 8
      have t_9 := hplr.frozen 9
      have t_10 := hplr.frozen 10
      have t_11 := hplr.frozen 11
      have HR : Hid (∀ i, i < 12 → ∃ v, wr.cell? ⟨w.heap.size + 1, 0 + i, none⟩ = some v) := fun i hi => by
        rw [Nat.zero_add]
        match i, hi with
        | 0, _ => exact ⟨_, r0⟩
        | 1, _ => exact ⟨_, r1⟩
        | 2, _ => exact ⟨_, r2⟩
        | 3, _ => exact ⟨_, r3⟩
        | 4, _ => exact ⟨_, r4⟩
        | 5, _ => exact ⟨_, r5⟩
        | 6, _ => exact ⟨_, r6⟩
        | 7, _ => exact ⟨_, r7⟩
        | 8, _ => exact ⟨_, r8⟩
        | 9, _ => exact ⟨_, r9⟩
        | 10, _ => exact ⟨_, r10⟩
        | 11, _ => exact ⟨_, r11⟩
      clear hplr
      go_wp2_with fail
      obtain ⟨V, hV⟩ : ∃ V, V = ((((((((((((wr.setCell ⟨w.heap.size + 1, 0, none⟩ (.int .i64 0)).setCell ⟨w.heap.size + 1, 1, none⟩ (.string { data := #[] })).setCell ⟨w.heap.size + 1, 2, none⟩ (.int .i64 0)).setCell ⟨w.heap.size + 1, 3, none⟩ (.slice none 0 0)).setCell ⟨w.heap.size + 1, 4, none⟩ (.slice none 0 0)).setCell ⟨w.heap.size + 1, 5, none⟩ (.int .i64 0)).setCell ⟨w.heap.size + 1, 6, none⟩ (.int .i64 0)).setCell ⟨w.heap.size + 1, 7, none⟩ (.string { data := #[] })).setCell ⟨w.heap.size + 1, 8, none⟩ (.int .i64 0)).setCell ⟨w.heap.size + 1, 9, none⟩ (.slice none 0 0)).setCell ⟨w.heap.size + 1, 10, none⟩ (.slice none 0 0)).setCell ⟨w.heap.size + 1, 11, none⟩ (.slice none 0 0)) := ⟨_, rfl⟩
      have E : V = sets wr (w.heap.size + 1) 0 [.int .i64 0, .string { data := #[] }, .int .i64 0, .slice none 0 0, .slice none 0 0, .int .i64 0, .int .i64 0, .string { data := #[] }, .int .i64 0, .slice none 0 0, .slice none 0 0, .slice none 0 0] := by rw [hV]; rfl
      have hin := sets_in (w.heap.size + 1) [Value.int .i64 0, Value.string { data := #[] }, Value.int .i64 0, Value.slice none 0 0, Value.slice none 0 0, Value.int .i64 0, Value.int .i64 0, Value.string { data := #[] }, Value.int .i64 0, Value.slice none 0 0, Value.slice none 0 0, Value.slice none 0 0] wr 0 HR.out
      rw [← E] at hin
      have z0 : V.cell? ⟨w.heap.size + 1, 0, none⟩ = some (.int .i64 0) := by have := hin 0 (by simp); simpa using this
      have z1 : V.cell? ⟨w.heap.size + 1, 1, none⟩ = some (.string { data := #[] }) := by have := hin 1 (by simp); simpa using this
      have z2 : V.cell? ⟨w.heap.size + 1, 2, none⟩ = some (.int .i64 0) := by have := hin 2 (by simp); simpa using this
      have z3 : V.cell? ⟨w.heap.size + 1, 3, none⟩ = some (.slice none 0 0) := by have := hin 3 (by simp); simpa using this
      have z4 : V.cell? ⟨w.heap.size + 1, 4, none⟩ = some (.slice none 0 0) := by have := hin 4 (by simp); simpa using this
      have z5 : V.cell? ⟨w.heap.size + 1, 5, none⟩ = some (.int .i64 0) := by have := hin 5 (by simp); simpa using this
      have z6 : V.cell? ⟨w.heap.size + 1, 6, none⟩ = some (.int .i64 0) := by have := hin 6 (by simp); simpa using this
      have z7 : V.cell? ⟨w.heap.size + 1, 7, none⟩ = some (.string { data := #[] }) := by have := hin 7 (by simp); simpa using this
      have z8 : V.cell? ⟨w.heap.size + 1, 8, none⟩ = some (.int .i64 0) := by have := hin 8 (by simp); simpa using this
      have z9 : V.cell? ⟨w.heap.size + 1, 9, none⟩ = some (.slice none 0 0) := by have := hin 9 (by simp); simpa using this
      have z10 : V.cell? ⟨w.heap.size + 1, 10, none⟩ = some (.slice none 0 0) := by have := hin 10 (by simp); simpa using this
      have z11 : V.cell? ⟨w.heap.size + 1, 11, none⟩ = some (.slice none 0 0) := by have := hin 11 (by simp); simpa using this
      have hz5 : V.heap.size = wr.heap.size := by rw [E, sets_size]
      have hbe5 : Below w.heap.size w V := by rw [E]; exact sets_below (by omega) _ _ HBB.out
      rw [← hV]
      refine bodyPost_ret (v := .tuple #[.agg #[.int .i64 0, .string { data := #[] }, .int .i64 0, .slice none 0 0, .slice none 0 0, .int .i64 0, .int .i64 0, .string { data := #[] }, .int .i64 0, .slice none 0 0, .slice none 0 0, .slice none 0 0], .bool false]) (by simp [results, Try.results92, go_sem, z0, z1, z2, z3, z4, z5, z6, z7, z8, z9, z10, z11]) rfl ?_
      exact ⟨zeroH, false, none, 0, none, 0, none, 0, none, 0, none, 0, rfl, by unfold zeroH InH; exact ⟨none, 0, none, 0, none, 0, none, 0, none, 0, rfl, by omega, zeroIn _ _, zeroIn _ _, Nat.le_refl _, Nat.zero_le _, .inl rfl⟩, .inr ⟨rfl, HFN.out, rfl⟩, hbe5⟩
end Go.Proofs.Ytnogpaflibghhaa.HO
