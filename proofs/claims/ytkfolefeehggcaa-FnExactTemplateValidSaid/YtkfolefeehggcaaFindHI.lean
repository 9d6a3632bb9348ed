/- The contracts of the model's search for a hit. -/
import Derived.Test.YtkfolefeehggcaaCopyHI
import Derived.Test.YtkfolefeehggcaaFindHM
import Derived.Test.YtkfolefeehggcaaSpecHV
import Derived.Test.YtkfolefeehggcaaSpecSame
namespace Go.Proofs.Ytkfolefeehggcaa.HI
open Go.RowKit
set_option linter.unusedVariables false
set_option linter.unusedSimpArgs false
theorem zeroQ (w : World) : QH w zeroH (.agg #[.int .i64 0, .string { data := #[] }, .int .i64 0, .slice none 0 0, .slice none 0 0, .int .i64 0, .int .i64 0, .string { data := #[] }, .int .i64 0, .slice none 0 0, .slice none 0 0, .slice none 0 0]) [] := by
  unfold QH zeroH InH
  exact ⟨none, 0, none, 0, none, 0, none, 0, none, 0, rfl, by omega, zeroIn _ w, zeroIn _ w, Nat.le_refl _, Nat.zero_le _, .inl rfl⟩
/-- a hit and a flag -/
def FindPost (R : Ht) (ok : Bool) (w : World) (e : Ending) (w' : World) : Prop := ∃ s1 t1 k1 l1 s2 t2 k2 l2 a cap bs, e = .returned (.tuple #[.agg #[.int .i64 R.name.kind, .string R.name.name, .int .i64 R.name.n, .slice s1 R.name.scopes.length t1, .slice k1 R.name.kids.length l1, .int .i64 R.depth, .int .i64 R.one.kind, .string R.one.name, .int .i64 R.one.n, .slice s2 R.one.scopes.length t2, .slice k2 R.one.kids.length l2, .slice a R.many.length cap], .bool ok]) ∧ QH w' R (.agg #[.int .i64 R.name.kind, .string R.name.name, .int .i64 R.name.n, .slice s1 R.name.scopes.length t1, .slice k1 R.name.kids.length l1, .int .i64 R.depth, .int .i64 R.one.kind, .string R.one.name, .int .i64 R.one.n, .slice s2 R.one.scopes.length t2, .slice k2 R.one.kids.length l2, .slice a R.many.length cap]) bs ∧ NewBs bs w.heap.size w'.heap.size ∧ Below w.heap.size w w'
set_option maxRecDepth 100000 in
set_option maxHeartbeats 4000000 in
theorem l4Find_any (B : Nat) (l : List Ht) (f : Fm) (a : Option Addr) (cap : Nat) (v : Value) (w : World) (hB : B ≤ w.heap.size) (hl : HitsIn (· < B) w a cap l) (hv : InV (· < B) w f v) :
    Calls Try.prog 78 #[.slice a l.length cap, v] w fun e w' => (∃ r, e = .returned (.int .i64 r) ∧ IdxH (hasN f) l r) ∧ Below w.heap.size w w' := by
  have HL := Lib.hid hl
  have HV := Lib.hid hv
  obtain ⟨fs, ft, fa, fc, rfl⟩ := hv.form
  obtain ⟨hcap, hmax, hrow⟩ := hl
  unfold maxLen at hmax
  have HROW := Lib.hid hrow
  clear hv hrow
  go_enter Try.func78, Try.ntmps78
  go_wp2_with fail
  obtain ⟨w0, hw0⟩ : ∃ w0, w0 = w.alloc (.cells #[.int .i64 f.kind, .string f.name, .int .i64 f.n, .slice fs f.scopes.length ft, .slice fa f.kids.length fc] 36) := ⟨_, rfl⟩
  have hb0 : Below w.heap.size w w0 := by rw [hw0]; exact below_alloc w _
  have hs0 : w0.heap.size = w.heap.size + 1 := by rw [hw0]; simp
  have hf0 : FormBox w0 w.heap.size f fs ft fa fc := by rw [hw0]; exact FormBox.fresh w f fs fa ft fc _
  have HF0 := Lib.hid hf0
  have HB0 := Lib.hid hb0
  rw [← hw0]
  clear hw0 hf0 hb0
  go_loopw [5] (fun i wr => ∃ j : Nat, j ≤ l.length ∧ i = .int .i64 j ∧ (l.take j).any (hasN f) = false ∧ Below w0.heap.size w0 wr) (fun i _ => l.length - (intOf i).toNat)
  case atStart => exact ⟨0, Nat.zero_le _, rfl, by simp, Below.refl _ _⟩
  case round =>
    obtain ⟨j, hj, rfl, hno, hb⟩ := hrel
    have HNO := Lib.hid hno
    have HB := Lib.hid hb
    have hsz := hb.size
    have hfb := HF0.out.later hb
    have hbb : Below w.heap.size w wr := HB0.out.trans (hb.mono (by omega))
    have HBB := Lib.hid hbb
    clear hno hb
    by_cases hlt : j < l.length
    · rcases HROW.out with h0 | ⟨b, off, rfl, hbB, hr⟩
      · exfalso; rw [h0] at hlt; simp at hlt
      have hr1 := hr.later (same_below (HBB.out.mono hB)) b hbB
      obtain ⟨e0, e1, e2, e3, e4, e5, e6, e7, e8, e9, q0, q1, q2, q3, q4, q5, q6, q7, q8, q9, q10, q11, hin⟩ := hr1.at' j hlt
      obtain ⟨x1, x2, x3, x4, x5, x6, x7, x8, x9, xa, ee, _, hnm, _⟩ := InH.form hin
      have hnm' : InV (· < B) wr l[j].name (.agg #[.int .i64 l[j].name.kind, .string l[j].name.name, .int .i64 l[j].name.n, .slice e0 l[j].name.scopes.length e1, .slice e2 l[j].name.kids.length e3]) := by
        injection ee with ee
        injection ee with ee
        simp only [List.cons.injEq, Value.slice.injEq, and_true, true_and] at ee
        obtain ⟨⟨rfl, rfl⟩, ⟨rfl, rfl⟩, _⟩ := ee
        exact hnm
      have HNM := Lib.hid hnm'
      have HNX := Lib.hid (any_take_succH (hasN f) l j hlt)
      have hj0 : (0 : Int) ≤ (j : Int) := by omega
      have hj1 : (j : Int) < (l.length : Int) := by omega
      clear hr hr1 hin ee hnm hnm' hbb
      go_wp2_with fail
      refine upto_begin (fun W => FormBox W w.heap.size f fs ft fa fc ∧ W.cell? ⟨b, off + j * 12, none⟩ = some (.int .i64 l[j].name.kind) ∧ W.cell? ⟨b, off + j * 12 + 1, none⟩ = some (.string l[j].name.name) ∧ W.cell? ⟨b, off + j * 12 + 2, none⟩ = some (.int .i64 l[j].name.n) ∧ W.cell? ⟨b, off + j * 12 + 3, none⟩ = some (.slice e0 l[j].name.scopes.length e1) ∧ W.cell? ⟨b, off + j * 12 + 4, none⟩ = some (.slice e2 l[j].name.kids.length e3)) 7 (by kernel_rfl) ?_
      obtain ⟨u, hu⟩ : ∃ u, u = wr.drew := ⟨_, rfl⟩
      rw [← hu]
      have hb : Below wr.heap.size wr u := by rw [hu]; exact (Below.refl _ _).drew
      have hS0 : (fun W => FormBox W w.heap.size f fs ft fa fc ∧ W.cell? ⟨b, off + j * 12, none⟩ = some (.int .i64 l[j].name.kind) ∧ W.cell? ⟨b, off + j * 12 + 1, none⟩ = some (.string l[j].name.name) ∧ W.cell? ⟨b, off + j * 12 + 2, none⟩ = some (.int .i64 l[j].name.n) ∧ W.cell? ⟨b, off + j * 12 + 3, none⟩ = some (.slice e0 l[j].name.scopes.length e1) ∧ W.cell? ⟨b, off + j * 12 + 4, none⟩ = some (.slice e2 l[j].name.kids.length e3)) u := ⟨hfb.later hb, cell_later' hb q0, cell_later' hb q1, cell_later' hb q2, cell_later' hb q3, cell_later' hb q4⟩
      have HBU : Hid (Below w0.heap.size w0 u) := HB.out.trans (hb.mono (by omega))
      have HBV : Hid (Below w.heap.size w u) := HBB.out.trans (hb.mono (by omega))
      have HNU := Lib.hid (InV.later (same_below (hb.mono (by omega))) _ _ HNM.out)
      have hsu := hb.size
      clear hb hu
      refine upto_take (i := 0) (d := some 12) (v := ?_) rfl rfl (by kernel_rfl) (by kernel_rfl) (by kernel_rfl) (by kernel_rfl) (fun _ _ _ h => h) (Or.inl ⟨by rfl, ?_⟩) hS0 ?_
      rotate_left
      · (intro wS hSw; obtain ⟨⟨_, _, _, _, _⟩, _, _, _, _, _⟩ := hSw; go_simp; try with_reducible rfl)
      try simp only [Act.put, List.setIfInBounds_toArray, List.set_cons_zero, List.set_cons_succ]
      refine upto_take (i := 1) (d := some 13) (v := ?_) rfl rfl (by kernel_rfl) (by kernel_rfl) (by kernel_rfl) (by kernel_rfl) (fun _ _ _ h => h) (Or.inl ⟨by rfl, ?_⟩) hS0 ?_
      rotate_left
      · (intro wS hSw; obtain ⟨⟨_, _, _, _, _⟩, _, _, _, _, _⟩ := hSw; go_simp; try with_reducible rfl)
      try simp only [Act.put, List.setIfInBounds_toArray, List.set_cons_zero, List.set_cons_succ]
      refine upto_take (i := 2) (d := some 14) (v := ?_) rfl rfl (by kernel_rfl) (by kernel_rfl) (by kernel_rfl) (by kernel_rfl) (fun _ _ _ h => h) (Or.inl ⟨by rfl, ?_⟩) hS0 ?_
      rotate_left
      · (intro wS hSw; obtain ⟨⟨_, _, _, _, _⟩, _, _, _, _, _⟩ := hSw; go_simp; try with_reducible rfl)
      try simp only [Act.put, List.setIfInBounds_toArray, List.set_cons_zero, List.set_cons_succ]
      refine upto_take (i := 3) (d := some 15) (v := ?_) rfl rfl (by kernel_rfl) (by kernel_rfl) (by kernel_rfl) (by kernel_rfl) (fun _ _ _ h => h) (Or.inl ⟨by rfl, ?_⟩) hS0 ?_
      rotate_left
      · (intro wS hSw; obtain ⟨⟨_, _, _, _, _⟩, _, _, _, _, _⟩ := hSw; go_simp; try with_reducible rfl)
      try simp only [Act.put, List.setIfInBounds_toArray, List.set_cons_zero, List.set_cons_succ]
      refine upto_take (i := 4) (d := some 16) (v := ?_) rfl rfl (by kernel_rfl) (by kernel_rfl) (by kernel_rfl) (by kernel_rfl) (fun _ _ _ h => h) (Or.inl ⟨by rfl, ?_⟩) hS0 ?_
      rotate_left
      · (intro wS hSw; obtain ⟨⟨_, _, _, _, _⟩, _, _, _, _, _⟩ := hSw; go_simp; try with_reducible rfl)
      try simp only [Act.put, List.setIfInBounds_toArray, List.set_cons_zero, List.set_cons_succ]
      refine upto_take (i := 5) (d := some 17) (v := ?_) rfl rfl (by kernel_rfl) (by kernel_rfl) (by kernel_rfl) (by kernel_rfl) (fun _ _ _ h => h) (Or.inl ⟨by rfl, ?_⟩) hS0 ?_
      rotate_left
      · (intro wS hSw; obtain ⟨⟨_, _, _, _, _⟩, _, _, _, _, _⟩ := hSw; go_simp; try with_reducible rfl)
      try simp only [Act.put, List.setIfInBounds_toArray, List.set_cons_zero, List.set_cons_succ]
      refine upto_one (i := 6) (by kernel_rfl) rfl (fun K hK => ?_)
      go_simp
      refine (specSame_any B l[j].name f _ _ u (by omega) HNU.out (InV.later (same_below (HBV.out.mono hB)) _ _ HV.out)).mono ?_
      rintro e w1 ⟨rfl, hb1⟩
      have HB1 : Hid (Below w0.heap.size w0 w1) := HBU.out.trans (hb1.mono (by omega))
      have hS1 : (fun W => FormBox W w.heap.size f fs ft fa fc ∧ W.cell? ⟨b, off + j * 12, none⟩ = some (.int .i64 l[j].name.kind) ∧ W.cell? ⟨b, off + j * 12 + 1, none⟩ = some (.string l[j].name.name) ∧ W.cell? ⟨b, off + j * 12 + 2, none⟩ = some (.int .i64 l[j].name.n) ∧ W.cell? ⟨b, off + j * 12 + 3, none⟩ = some (.slice e0 l[j].name.scopes.length e1) ∧ W.cell? ⟨b, off + j * 12 + 4, none⟩ = some (.slice e2 l[j].name.kids.length e3)) w1 := ⟨hS0.1.later hb1, cell_later' hb1 hS0.2.1, cell_later' hb1 hS0.2.2.1, cell_later' hb1 hS0.2.2.2.1, cell_later' hb1 hS0.2.2.2.2.1, cell_later' hb1 hS0.2.2.2.2.2⟩
      refine hK.out _ _ (.inr hS1) ?_
      clear hK K hb1 hS0 hS1
      refine upto_done (by kernel_rfl) ?_ _
      cases hx : sameB l[j].name f with
      | true =>
        have HY : Hid (IdxH (hasN f) l j) := .inr ⟨j, hlt, rfl, hx, HNO.out⟩
        go_wp2_with fail
        go_ret
        exact ⟨⟨_, rfl, HY.out⟩, HB0.out.trans (HB1.out.mono (by omega))⟩
      | false =>
        have HY : Hid ((l.take (j + 1)).any (hasN f) = false) := by unfold Hid; rw [HNX.out, HNO.out]; show (false || sameB l[j].name f) = false; rw [hx]; rfl
        go_wp2_with fail
        go_roundw
        case rel => exact ⟨j + 1, by omega, by go_num, HY.out, HB1.out⟩
        case measure => simp [intOf]; omega
    · obtain rfl : j = l.length := by omega
      have HY : Hid (IdxH (hasN f) l (-1)) := .inl ⟨rfl, by have := HNO.out; rw [List.take_length] at this; exact this⟩
      go_wp2_with fail
      go_ret
      exact ⟨⟨_, rfl, HY.out⟩, HBB.out⟩
set_option maxRecDepth 100000 in
set_option maxHeartbeats 4000000 in
theorem specFindHit_any (l : List Ht) (f : Fm) (a : Option Addr) (cap : Nat) (v : Value) (w : World) (hl : HitsIn (· < w.heap.size) w a cap l) (hv : InV (· < w.heap.size) w f v) (hsz : szHs l ≤ 1048576) :
    Calls Try.prog 21 #[.slice a l.length cap, v] w (FindPost (findR l f).1 (findR l f).2 w) := by
  have HL := Lib.hid hl
  have HV := Lib.hid hv
  obtain ⟨fs, ft, fa, fc, rfl⟩ := hv.form
  obtain ⟨hcap, hmax, hrow⟩ := hl
  unfold maxLen at hmax
  have HROW := Lib.hid hrow
  have HSM := Lib.hid (findR_sz l f)
  clear hv hrow
  go_enter Try.func21, Try.ntmps21
  go_wp2_with fail
  obtain ⟨w0, hw0⟩ : ∃ w0, w0 = (w.alloc (.cells #[.int .i64 f.kind, .string f.name, .int .i64 f.n, .slice fs f.scopes.length ft, .slice fa f.kids.length fc] 36)).alloc (.cells #[.int .i64 0, .string { data := #[] }, .int .i64 0, .slice none 0 0, .slice none 0 0, .int .i64 0, .int .i64 0, .string { data := #[] }, .int .i64 0, .slice none 0 0, .slice none 0 0, .slice none 0 0] 38) := ⟨_, rfl⟩
  have hb0 : Below w.heap.size w w0 := by rw [hw0]; exact (below_alloc w _).alloc (by simp) _
  have hs0 : w0.heap.size = w.heap.size + 2 := by rw [hw0]; simp
  have hz0 : w0.heap[w.heap.size + 1]? = some (.cells #[.int .i64 0, .string { data := #[] }, .int .i64 0, .slice none 0 0, .slice none 0 0, .int .i64 0, .int .i64 0, .string { data := #[] }, .int .i64 0, .slice none 0 0, .slice none 0 0, .slice none 0 0] 38 (0, 0)) := by
    rw [hw0]
    have := heap_alloc_new (w.alloc (.cells #[.int .i64 f.kind, .string f.name, .int .i64 f.n, .slice fs f.scopes.length ft, .slice fa f.kids.length fc] 36)) (.cells #[.int .i64 0, .string { data := #[] }, .int .i64 0, .slice none 0 0, .slice none 0 0, .int .i64 0, .int .i64 0, .string { data := #[] }, .int .i64 0, .slice none 0 0, .slice none 0 0, .slice none 0 0] 38)
    rw [size_alloc'] at this
    exact this
  have HB0 := Lib.hid hb0
  rw [← hw0]
  clear hw0 hb0
  refine (l4Find_any w.heap.size l f a cap _ w0 (by omega) (HL.out.later (same_below HB0.out)) (InV.later (same_below HB0.out) _ _ HV.out)).mono ?_
  rintro e w1 ⟨⟨r, rfl, hidx⟩, hb1⟩
  have hs1 := hb1.size
  have hz1 := (hb1.block _ (by omega)).trans hz0
  have HB1 : Hid (Below w.heap.size w w1) := HB0.out.trans (hb1.mono (by omega))
  have HIX := Lib.hid hidx
  clear hb1 hidx hz0
  go_wp2_with fail
  refine (specHitsValid_any w.heap.size l a cap w1 (by omega) (HL.out.later (same_below HB1.out)) hsz).mono ?_
  rintro e w2 ⟨rfl, hb2⟩
  have hs2 := hb2.size
  have hz2 := (hb2.block _ (by omega)).trans hz1
  have HB2 : Hid (Below w.heap.size w w2) := HB1.out.trans (hb2.mono (by omega))
  clear hb2 hz1
  have hplr : Plain w2 (w.heap.size + 1) := ⟨_, _, hz2⟩
  have r0 : w2.cell? ⟨w.heap.size + 1, 0, none⟩ = some (.int .i64 0) := by rw [cell_of_row w2 _ 0 _ _ _ hz2]; rfl
  have r1 : w2.cell? ⟨w.heap.size + 1, 1, none⟩ = some (.string { data := #[] }) := by rw [cell_of_row w2 _ 1 _ _ _ hz2]; rfl
  have r2 : w2.cell? ⟨w.heap.size + 1, 2, none⟩ = some (.int .i64 0) := by rw [cell_of_row w2 _ 2 _ _ _ hz2]; rfl
  have r3 : w2.cell? ⟨w.heap.size + 1, 3, none⟩ = some (.slice none 0 0) := by rw [cell_of_row w2 _ 3 _ _ _ hz2]; rfl
  have r4 : w2.cell? ⟨w.heap.size + 1, 4, none⟩ = some (.slice none 0 0) := by rw [cell_of_row w2 _ 4 _ _ _ hz2]; rfl
  have r5 : w2.cell? ⟨w.heap.size + 1, 5, none⟩ = some (.int .i64 0) := by rw [cell_of_row w2 _ 5 _ _ _ hz2]; rfl
  have r6 : w2.cell? ⟨w.heap.size + 1, 6, none⟩ = some (.int .i64 0) := by rw [cell_of_row w2 _ 6 _ _ _ hz2]; rfl
  have r7 : w2.cell? ⟨w.heap.size + 1, 7, none⟩ = some (.string { data := #[] }) := by rw [cell_of_row w2 _ 7 _ _ _ hz2]; rfl
  have r8 : w2.cell? ⟨w.heap.size + 1, 8, none⟩ = some (.int .i64 0) := by rw [cell_of_row w2 _ 8 _ _ _ hz2]; rfl
  have r9 : w2.cell? ⟨w.heap.size + 1, 9, none⟩ = some (.slice none 0 0) := by rw [cell_of_row w2 _ 9 _ _ _ hz2]; rfl
  have r10 : w2.cell? ⟨w.heap.size + 1, 10, none⟩ = some (.slice none 0 0) := by rw [cell_of_row w2 _ 10 _ _ _ hz2]; rfl
  have r11 : w2.cell? ⟨w.heap.size + 1, 11, none⟩ = some (.slice none 0 0) := by rw [cell_of_row w2 _ 11 _ _ _ hz2]; rfl
  have t_0 := hplr.frozen 0
  have t_1 := hplr.frozen 1
  have t_2 := hplr.frozen 2
  have t_3 := hplr.frozen 3
  have t_4 := hplr.frozen 4
  have t_5 := hplr.frozen 5
  have t_6 := hplr.frozen 6
  have t_7 := hplr.frozen 7
  have t_8 := hplr.frozen 8
  have t_9 := hplr.frozen 9
  have t_10 := hplr.frozen 10
  have t_11 := hplr.frozen 11
  have HR : Hid (∀ i, i < 12 → ∃ v, w2.cell? ⟨w.heap.size + 1, 0 + i, none⟩ = some v) := fun i hi => by
    rw [Nat.zero_add]
    match i, hi with
    | 0, _ => exact ⟨_, r0⟩
    | 1, _ => exact ⟨_, r1⟩
    | 2, _ => exact ⟨_, r2⟩
    | 3, _ => exact ⟨_, r3⟩
    | 4, _ => exact ⟨_, r4⟩
    | 5, _ => exact ⟨_, r5⟩
    | 6, _ => exact ⟨_, r6⟩
    | 7, _ => exact ⟨_, r7⟩
    | 8, _ => exact ⟨_, r8⟩
    | 9, _ => exact ⟨_, r9⟩
    | 10, _ => exact ⟨_, r10⟩
    | 11, _ => exact ⟨_, r11⟩
  clear hplr
  cases hvd : hitsValidB l with
  | false =>
    have HNF : Hid (findR l f = (zeroH, false)) := findR_no hvd
    go_wp2_with fail
    obtain ⟨V, hV⟩ : ∃ V, V = ((((((((((((w2.setCell ⟨w.heap.size + 1, 0, none⟩ (.int .i64 0)).setCell ⟨w.heap.size + 1, 1, none⟩ (.string { data := #[] })).setCell ⟨w.heap.size + 1, 2, none⟩ (.int .i64 0)).setCell ⟨w.heap.size + 1, 3, none⟩ (.slice none 0 0)).setCell ⟨w.heap.size + 1, 4, none⟩ (.slice none 0 0)).setCell ⟨w.heap.size + 1, 5, none⟩ (.int .i64 0)).setCell ⟨w.heap.size + 1, 6, none⟩ (.int .i64 0)).setCell ⟨w.heap.size + 1, 7, none⟩ (.string { data := #[] })).setCell ⟨w.heap.size + 1, 8, none⟩ (.int .i64 0)).setCell ⟨w.heap.size + 1, 9, none⟩ (.slice none 0 0)).setCell ⟨w.heap.size + 1, 10, none⟩ (.slice none 0 0)).setCell ⟨w.heap.size + 1, 11, none⟩ (.slice none 0 0)) := ⟨_, rfl⟩
    have E : V = sets w2 (w.heap.size + 1) 0 [.int .i64 0, .string { data := #[] }, .int .i64 0, .slice none 0 0, .slice none 0 0, .int .i64 0, .int .i64 0, .string { data := #[] }, .int .i64 0, .slice none 0 0, .slice none 0 0, .slice none 0 0] := by rw [hV]; rfl
    have hin := sets_in (w.heap.size + 1) [Value.int .i64 0, Value.string { data := #[] }, Value.int .i64 0, Value.slice none 0 0, Value.slice none 0 0, Value.int .i64 0, Value.int .i64 0, Value.string { data := #[] }, Value.int .i64 0, Value.slice none 0 0, Value.slice none 0 0, Value.slice none 0 0] w2 0 HR.out
    rw [← E] at hin
    have z0 : V.cell? ⟨w.heap.size + 1, 0, none⟩ = some (.int .i64 0) := by have := hin 0 (by simp); simpa using this
    have z1 : V.cell? ⟨w.heap.size + 1, 1, none⟩ = some (.string { data := #[] }) := by have := hin 1 (by simp); simpa using this
    have z2 : V.cell? ⟨w.heap.size + 1, 2, none⟩ = some (.int .i64 0) := by have := hin 2 (by simp); simpa using this
    have z3 : V.cell? ⟨w.heap.size + 1, 3, none⟩ = some (.slice none 0 0) := by have := hin 3 (by simp); simpa using this
    have z4 : V.cell? ⟨w.heap.size + 1, 4, none⟩ = some (.slice none 0 0) := by have := hin 4 (by simp); simpa using this
    have z5 : V.cell? ⟨w.heap.size + 1, 5, none⟩ = some (.int .i64 0) := by have := hin 5 (by simp); simpa using this
    have z6 : V.cell? ⟨w.heap.size + 1, 6, none⟩ = some (.int .i64 0) := by have := hin 6 (by simp); simpa using this
    have z7 : V.cell? ⟨w.heap.size + 1, 7, none⟩ = some (.string { data := #[] }) := by have := hin 7 (by simp); simpa using this
    have z8 : V.cell? ⟨w.heap.size + 1, 8, none⟩ = some (.int .i64 0) := by have := hin 8 (by simp); simpa using this
    have z9 : V.cell? ⟨w.heap.size + 1, 9, none⟩ = some (.slice none 0 0) := by have := hin 9 (by simp); simpa using this
    have z10 : V.cell? ⟨w.heap.size + 1, 10, none⟩ = some (.slice none 0 0) := by have := hin 10 (by simp); simpa using this
    have z11 : V.cell? ⟨w.heap.size + 1, 11, none⟩ = some (.slice none 0 0) := by have := hin 11 (by simp); simpa using this
    have hz5 : V.heap.size = w2.heap.size := by rw [E, sets_size]
    have hbe5 : Below w.heap.size w V := by rw [E]; exact sets_below (by omega) _ _ HB2.out
    rw [← hV]
    refine bodyPost_ret (v := .tuple #[.agg #[.int .i64 0, .string { data := #[] }, .int .i64 0, .slice none 0 0, .slice none 0 0, .int .i64 0, .int .i64 0, .string { data := #[] }, .int .i64 0, .slice none 0 0, .slice none 0 0, .slice none 0 0], .bool false]) (by simp [results, Try.results21, go_sem, z0, z1, z2, z3, z4, z5, z6, z7, z8, z9, z10, z11]) rfl ?_
    rw [HNF.out]
    exact ⟨none, 0, none, 0, none, 0, none, 0, none, 0, [], rfl, zeroQ V, NewBs.nil _ _, hbe5⟩
  | true =>
    rcases HIX.out with ⟨rfl, hno⟩ | ⟨j, hjl, rfl, hp, hno⟩
    · have HNF : Hid (findR l f = (zeroH, false)) := findR_none (find_none _ _ hno)
      have hlt : decide ((-1 : Int) < 0) = true := by decide
      go_wp2_with fail
      obtain ⟨V, hV⟩ : ∃ V, V = ((((((((((((w2.setCell ⟨w.heap.size + 1, 0, none⟩ (.int .i64 0)).setCell ⟨w.heap.size + 1, 1, none⟩ (.string { data := #[] })).setCell ⟨w.heap.size + 1, 2, none⟩ (.int .i64 0)).setCell ⟨w.heap.size + 1, 3, none⟩ (.slice none 0 0)).setCell ⟨w.heap.size + 1, 4, none⟩ (.slice none 0 0)).setCell ⟨w.heap.size + 1, 5, none⟩ (.int .i64 0)).setCell ⟨w.heap.size + 1, 6, none⟩ (.int .i64 0)).setCell ⟨w.heap.size + 1, 7, none⟩ (.string { data := #[] })).setCell ⟨w.heap.size + 1, 8, none⟩ (.int .i64 0)).setCell ⟨w.heap.size + 1, 9, none⟩ (.slice none 0 0)).setCell ⟨w.heap.size + 1, 10, none⟩ (.slice none 0 0)).setCell ⟨w.heap.size + 1, 11, none⟩ (.slice none 0 0)) := ⟨_, rfl⟩
      have E : V = sets w2 (w.heap.size + 1) 0 [.int .i64 0, .string { data := #[] }, .int .i64 0, .slice none 0 0, .slice none 0 0, .int .i64 0, .int .i64 0, .string { data := #[] }, .int .i64 0, .slice none 0 0, .slice none 0 0, .slice none 0 0] := by rw [hV]; rfl
      have hin := sets_in (w.heap.size + 1) [Value.int .i64 0, Value.string { data := #[] }, Value.int .i64 0, Value.slice none 0 0, Value.slice none 0 0, Value.int .i64 0, Value.int .i64 0, Value.string { data := #[] }, Value.int .i64 0, Value.slice none 0 0, Value.slice none 0 0, Value.slice none 0 0] w2 0 HR.out
      rw [← E] at hin
      have z0 : V.cell? ⟨w.heap.size + 1, 0, none⟩ = some (.int .i64 0) := by have := hin 0 (by simp); simpa using this
      have z1 : V.cell? ⟨w.heap.size + 1, 1, none⟩ = some (.string { data := #[] }) := by have := hin 1 (by simp); simpa using this
      have z2 : V.cell? ⟨w.heap.size + 1, 2, none⟩ = some (.int .i64 0) := by have := hin 2 (by simp); simpa using this
      have z3 : V.cell? ⟨w.heap.size + 1, 3, none⟩ = some (.slice none 0 0) := by have := hin 3 (by simp); simpa using this
      have z4 : V.cell? ⟨w.heap.size + 1, 4, none⟩ = some (.slice none 0 0) := by have := hin 4 (by simp); simpa using this
      have z5 : V.cell? ⟨w.heap.size + 1, 5, none⟩ = some (.int .i64 0) := by have := hin 5 (by simp); simpa using this
      have z6 : V.cell? ⟨w.heap.size + 1, 6, none⟩ = some (.int .i64 0) := by have := hin 6 (by simp); simpa using this
      have z7 : V.cell? ⟨w.heap.size + 1, 7, none⟩ = some (.string { data := #[] }) := by have := hin 7 (by simp); simpa using this
      have z8 : V.cell? ⟨w.heap.size + 1, 8, none⟩ = some (.int .i64 0) := by have := hin 8 (by simp); simpa using this
      have z9 : V.cell? ⟨w.heap.size + 1, 9, none⟩ = some (.slice none 0 0) := by have := hin 9 (by simp); simpa using this
      have z10 : V.cell? ⟨w.heap.size + 1, 10, none⟩ = some (.slice none 0 0) := by have := hin 10 (by simp); simpa using this
      have z11 : V.cell? ⟨w.heap.size + 1, 11, none⟩ = some (.slice none 0 0) := by have := hin 11 (by simp); simpa using this
      have hz5 : V.heap.size = w2.heap.size := by rw [E, sets_size]
      have hbe5 : Below w.heap.size w V := by rw [E]; exact sets_below (by omega) _ _ HB2.out
      rw [← hV]
      refine bodyPost_ret (v := .tuple #[.agg #[.int .i64 0, .string { data := #[] }, .int .i64 0, .slice none 0 0, .slice none 0 0, .int .i64 0, .int .i64 0, .string { data := #[] }, .int .i64 0, .slice none 0 0, .slice none 0 0, .slice none 0 0], .bool false]) (by simp [results, Try.results21, go_sem, z0, z1, z2, z3, z4, z5, z6, z7, z8, z9, z10, z11]) rfl ?_
      rw [HNF.out]
      exact ⟨none, 0, none, 0, none, 0, none, 0, none, 0, [], rfl, zeroQ V, NewBs.nil _ _, hbe5⟩
    · have HF : Hid (findR l f = (l[j], true)) := findR_some hvd (find_first _ l j hjl hno hp)
      obtain ⟨b, off, rfl, hbB, hrw⟩ : ∃ b off, a = some ⟨b, off, none⟩ ∧ b < w.heap.size ∧ RowH (· < w.heap.size) w b off l := by
        rcases HROW.out with h | h
        · subst h; simp at hjl
        · exact h
      have hrw1 := hrw.later (same_below HB2.out) b hbB
      obtain ⟨e0, e1, e2, e3, e4, e5, e6, e7, e8, e9, q0, q1, q2, q3, q4, q5, q6, q7, q8, q9, q10, q11, hin⟩ := hrw1.at' j hjl
      have HIN := Lib.hid (InH.mono (ψ := (· < w2.heap.size)) (fun k (hk : k < w.heap.size) => by show k < w2.heap.size; omega) _ _ hin)
      have hj0 : (0 : Int) ≤ (j : Int) := by omega
      have hj1 : (j : Int) < (l.length : Int) := by omega
      have hjn : decide ((j : Int) < 0) = false := by rw [decide_eq_false_iff_not]; omega
      have hszj : l[j].sz ≤ 1048576 := by have := HSM.out; rw [HF.out] at this; exact Nat.le_trans this hsz
      clear hrw hrw1 hin r0 r1 r2 r3 r4 r5 r6 r7 r8 r9 r10 r11 t_0 t_1 t_2 t_3 t_4 t_5 t_6 t_7 t_8 t_9 t_10 t_11 HR
      go_wp2_with fail
      refine (copyHit_any l[j] _ w2 HIN.out hszj).mono ?_
      rintro e w3 ⟨g0, g1, g2, g3, g4, g5, g6, g7, g8, g9, bs, rfl, hq, hnw, hb3⟩
      have hs3 := hb3.size
      have hz3 := (hb3.block _ (by omega)).trans hz2
      have HB3 : Hid (Below w.heap.size w w3) := HB2.out.trans (hb3.mono (by omega))
      have HQ := Lib.hid hq
      have HNW := Lib.hid hnw
      obtain ⟨G, hG⟩ : ∃ G, l[j] = G := ⟨_, rfl⟩
      rw [hG] at HQ HF ⊢
      clear hb3 hq hnw
      have hplr : Plain w3 (w.heap.size + 1) := ⟨_, _, hz3⟩
      have r0 : w3.cell? ⟨w.heap.size + 1, 0, none⟩ = some (.int .i64 0) := by rw [cell_of_row w3 _ 0 _ _ _ hz3]; rfl
      have r1 : w3.cell? ⟨w.heap.size + 1, 1, none⟩ = some (.string { data := #[] }) := by rw [cell_of_row w3 _ 1 _ _ _ hz3]; rfl
      have r2 : w3.cell? ⟨w.heap.size + 1, 2, none⟩ = some (.int .i64 0) := by rw [cell_of_row w3 _ 2 _ _ _ hz3]; rfl
      have r3 : w3.cell? ⟨w.heap.size + 1, 3, none⟩ = some (.slice none 0 0) := by rw [cell_of_row w3 _ 3 _ _ _ hz3]; rfl
      have r4 : w3.cell? ⟨w.heap.size + 1, 4, none⟩ = some (.slice none 0 0) := by rw [cell_of_row w3 _ 4 _ _ _ hz3]; rfl
      have r5 : w3.cell? ⟨w.heap.size + 1, 5, none⟩ = some (.int .i64 0) := by rw [cell_of_row w3 _ 5 _ _ _ hz3]; rfl
      have r6 : w3.cell? ⟨w.heap.size + 1, 6, none⟩ = some (.int .i64 0) := by rw [cell_of_row w3 _ 6 _ _ _ hz3]; rfl
      have r7 : w3.cell? ⟨w.heap.size + 1, 7, none⟩ = some (.string { data := #[] }) := by rw [cell_of_row w3 _ 7 _ _ _ hz3]; rfl
      have r8 : w3.cell? ⟨w.heap.size + 1, 8, none⟩ = some (.int .i64 0) := by rw [cell_of_row w3 _ 8 _ _ _ hz3]; rfl
      have r9 : w3.cell? ⟨w.heap.size + 1, 9, none⟩ = some (.slice none 0 0) := by rw [cell_of_row w3 _ 9 _ _ _ hz3]; rfl
      have r10 : w3.cell? ⟨w.heap.size + 1, 10, none⟩ = some (.slice none 0 0) := by rw [cell_of_row w3 _ 10 _ _ _ hz3]; rfl
      have r11 : w3.cell? ⟨w.heap.size + 1, 11, none⟩ = some (.slice none 0 0) := by rw [cell_of_row w3 _ 11 _ _ _ hz3]; rfl
      have t_0 := hplr.frozen 0
      have t_1 := hplr.frozen 1
      have t_2 := hplr.frozen 2
      have t_3 := hplr.frozen 3
      have t_4 := hplr.frozen 4
      have t_5 := hplr.frozen 5
      have t_6 := hplr.frozen 6
      have t_7 := hplr.frozen 7
      have t_8 := hplr.frozen 8
      have t_9 := hplr.frozen 9
      have t_10 := hplr.frozen 10
      have t_11 := hplr.frozen 11
      have HR : Hid (∀ i, i < 12 → ∃ v, w3.cell? ⟨w.heap.size + 1, 0 + i, none⟩ = some v) := fun i hi => by
        rw [Nat.zero_add]
        match i, hi with
        | 0, _ => exact ⟨_, r0⟩
        | 1, _ => exact ⟨_, r1⟩
        | 2, _ => exact ⟨_, r2⟩
        | 3, _ => exact ⟨_, r3⟩
        | 4, _ => exact ⟨_, r4⟩
        | 5, _ => exact ⟨_, r5⟩
        | 6, _ => exact ⟨_, r6⟩
        | 7, _ => exact ⟨_, r7⟩
        | 8, _ => exact ⟨_, r8⟩
        | 9, _ => exact ⟨_, r9⟩
        | 10, _ => exact ⟨_, r10⟩
        | 11, _ => exact ⟨_, r11⟩
      clear hplr
      go_wp2_with fail
      obtain ⟨V, hV⟩ : ∃ V, V = ((((((((((((w3.setCell ⟨w.heap.size + 1, 0, none⟩ (.int .i64 G.name.kind)).setCell ⟨w.heap.size + 1, 1, none⟩ (.string G.name.name)).setCell ⟨w.heap.size + 1, 2, none⟩ (.int .i64 G.name.n)).setCell ⟨w.heap.size + 1, 3, none⟩ (.slice g0 G.name.scopes.length g1)).setCell ⟨w.heap.size + 1, 4, none⟩ (.slice g2 G.name.kids.length g3)).setCell ⟨w.heap.size + 1, 5, none⟩ (.int .i64 G.depth)).setCell ⟨w.heap.size + 1, 6, none⟩ (.int .i64 G.one.kind)).setCell ⟨w.heap.size + 1, 7, none⟩ (.string G.one.name)).setCell ⟨w.heap.size + 1, 8, none⟩ (.int .i64 G.one.n)).setCell ⟨w.heap.size + 1, 9, none⟩ (.slice g4 G.one.scopes.length g5)).setCell ⟨w.heap.size + 1, 10, none⟩ (.slice g6 G.one.kids.length g7)).setCell ⟨w.heap.size + 1, 11, none⟩ (.slice g8 G.many.length g9)) := ⟨_, rfl⟩
      have E : V = sets w3 (w.heap.size + 1) 0 [.int .i64 G.name.kind, .string G.name.name, .int .i64 G.name.n, .slice g0 G.name.scopes.length g1, .slice g2 G.name.kids.length g3, .int .i64 G.depth, .int .i64 G.one.kind, .string G.one.name, .int .i64 G.one.n, .slice g4 G.one.scopes.length g5, .slice g6 G.one.kids.length g7, .slice g8 G.many.length g9] := by rw [hV]; rfl
      have hin := sets_in (w.heap.size + 1) [Value.int .i64 G.name.kind, Value.string G.name.name, Value.int .i64 G.name.n, Value.slice g0 G.name.scopes.length g1, Value.slice g2 G.name.kids.length g3, Value.int .i64 G.depth, Value.int .i64 G.one.kind, Value.string G.one.name, Value.int .i64 G.one.n, Value.slice g4 G.one.scopes.length g5, Value.slice g6 G.one.kids.length g7, Value.slice g8 G.many.length g9] w3 0 HR.out
      rw [← E] at hin
      have z0 : V.cell? ⟨w.heap.size + 1, 0, none⟩ = some (.int .i64 G.name.kind) := by have := hin 0 (by simp); simpa using this
      have z1 : V.cell? ⟨w.heap.size + 1, 1, none⟩ = some (.string G.name.name) := by have := hin 1 (by simp); simpa using this
      have z2 : V.cell? ⟨w.heap.size + 1, 2, none⟩ = some (.int .i64 G.name.n) := by have := hin 2 (by simp); simpa using this
      have z3 : V.cell? ⟨w.heap.size + 1, 3, none⟩ = some (.slice g0 G.name.scopes.length g1) := by have := hin 3 (by simp); simpa using this
      have z4 : V.cell? ⟨w.heap.size + 1, 4, none⟩ = some (.slice g2 G.name.kids.length g3) := by have := hin 4 (by simp); simpa using this
      have z5 : V.cell? ⟨w.heap.size + 1, 5, none⟩ = some (.int .i64 G.depth) := by have := hin 5 (by simp); simpa using this
      have z6 : V.cell? ⟨w.heap.size + 1, 6, none⟩ = some (.int .i64 G.one.kind) := by have := hin 6 (by simp); simpa using this
      have z7 : V.cell? ⟨w.heap.size + 1, 7, none⟩ = some (.string G.one.name) := by have := hin 7 (by simp); simpa using this
      have z8 : V.cell? ⟨w.heap.size + 1, 8, none⟩ = some (.int .i64 G.one.n) := by have := hin 8 (by simp); simpa using this
      have z9 : V.cell? ⟨w.heap.size + 1, 9, none⟩ = some (.slice g4 G.one.scopes.length g5) := by have := hin 9 (by simp); simpa using this
      have z10 : V.cell? ⟨w.heap.size + 1, 10, none⟩ = some (.slice g6 G.one.kids.length g7) := by have := hin 10 (by simp); simpa using this
      have z11 : V.cell? ⟨w.heap.size + 1, 11, none⟩ = some (.slice g8 G.many.length g9) := by have := hin 11 (by simp); simpa using this
      have hz5 : V.heap.size = w3.heap.size := by rw [E, sets_size]
      have hbe5 : Below w.heap.size w V := by rw [E]; exact sets_below (by omega) _ _ HB3.out
      rw [← hV]
      refine bodyPost_ret (v := .tuple #[.agg #[.int .i64 G.name.kind, .string G.name.name, .int .i64 G.name.n, .slice g0 G.name.scopes.length g1, .slice g2 G.name.kids.length g3, .int .i64 G.depth, .int .i64 G.one.kind, .string G.one.name, .int .i64 G.one.n, .slice g4 G.one.scopes.length g5, .slice g6 G.one.kids.length g7, .slice g8 G.many.length g9], .bool true]) (by simp [results, Try.results21, go_sem, z0, z1, z2, z3, z4, z5, z6, z7, z8, z9, z10, z11]) rfl ?_
      have hq5 : QH V G (.agg #[.int .i64 G.name.kind, .string G.name.name, .int .i64 G.name.n, .slice g0 G.name.scopes.length g1, .slice g2 G.name.kids.length g3, .int .i64 G.depth, .int .i64 G.one.kind, .string G.one.name, .int .i64 G.one.n, .slice g4 G.one.scopes.length g5, .slice g6 G.one.kids.length g7, .slice g8 G.many.length g9]) bs := by rw [E]; exact HQ.out.later (fun c hc => sets_block _ _ _ _ (by have := (HNW.out.2 c hc).1; omega))
      rw [HF.out]
      exact ⟨_, _, _, _, _, _, _, _, _, _, bs, rfl, hq5, by rw [hz5]; exact HNW.out.mono (by omega) (Nat.le_refl _), hbe5⟩
end Go.Proofs.Ytkfolefeehggcaa.HI
