/- The first texts of this seat: letters and names, forms as data, sets of scopes, validity, small walks. -/
import Derived.Test.YtnogpaflibghhaaSpecTm
import Derived.Test.YtnogpaflibghhaaSpecPat4
import Derived.Test.YtnogpaflibghhaaTmplData
import Derived.Test.YtnogpaflibghhaaRuleKit
import Derived.Test.YtnogpaflibghhaaImplPat5
import Derived.Test.YtnogpaflibghhaaImplTm
namespace Go.Proofs.Ytnogpaflibghhaa
section
section
open Go.RowKit
set_option linter.unusedVariables false
set_option linter.unusedSimpArgs false
set_option maxRecDepth 100000 in
set_option maxHeartbeats 8000000 in
theorem l5Shape_any (B : Nat) (f : Fm) (ls : List Fm) (la : Option Addr) (lcap : Nat) (v : Value) (w : World) (hB : B ≤ w.heap.size) (hl : FormsIn (· < B) w la lcap ls) (hv : InV (· < B) w f v) (hcf : f.count ≤ 1048577) (hdp : ∀ d ∈ (depF ls f 0), -9223372036854775808 ≤ d ∧ d ≤ 9223372036854775807) :
    Calls Try.prog 134 #[v, .slice la ls.length lcap] w fun e w' => ∃ a' cap', e = .returned (.slice a' (varsF ls f).length cap') ∧ HitsIn (· < w'.heap.size) w' a' cap' (shapeH oneS (varsF ls f) (depF ls f 0)) ∧ Below w.heap.size w w' := by
  have HL := Lib.hid hl
  have HV := Lib.hid hv
  obtain ⟨sa, scap, a, cap, rfl⟩ := hv.form
  obtain ⟨i0, hi0, hz0, hz1, hz2⟩ := info_parts Try.infoHt
  clear hl hv
  obtain ⟨w0, hw0⟩ : ∃ w0, w0 = w.alloc (.cells #[.int .i64 f.kind, .string f.name, .int .i64 f.n, .slice sa f.scopes.length scap, .slice a f.kids.length cap] 33) := ⟨_, rfl⟩
  obtain ⟨w1, hw1⟩ : ∃ w1, w1 = w0.alloc (.cells #[] 60) := ⟨_, rfl⟩
  obtain ⟨w2, hw2⟩ : ∃ w2, w2 = w1.alloc (.cells #[] 33) := ⟨_, rfl⟩
  have hs0 : w0.heap.size = w.heap.size + 1 := by rw [hw0]; simp
  have hs1 : w1.heap.size = w.heap.size + 2 := by rw [hw1]; simp; omega
  have hs2 : w2.heap.size = w.heap.size + 3 := by rw [hw2]; simp; omega
  have hb0 : Below w.heap.size w w0 := by rw [hw0]; exact below_alloc w _
  have hb1 : Below w0.heap.size w0 w1 := by rw [hw1]; exact below_alloc w0 _
  have hb2 : Below w1.heap.size w1 w2 := by rw [hw2]; exact below_alloc w1 _
  have hbx : FormBox w0 w.heap.size f sa scap a cap := by rw [hw0]; exact FormBox.fresh w f sa a scap cap 33
  have hbx2 := (hbx.later hb1).later hb2
  have HBX1 : Hid (FormBox w1 w.heap.size f sa scap a cap) := hbx.later hb1
  have HBW1 : Hid (Below w.heap.size w w1) := hb0.trans (hb1.mono (by omega))
  have HBW0 : Hid (Below w.heap.size w w2) := (hb0.trans (hb1.mono (by omega))).trans (hb2.mono (by omega))
  have HOW : Hid (w1.ownsRow (w.heap.size + 1) 60 12 (.slice (some ⟨w.heap.size + 1, 0, none⟩) 0 0) 0 []) := by rw [← hs0, hw1]; exact ownsRow_empty w0 60 12 _ (Nat.le_refl _)
  have HOV : Hid (w2.ownsRow w1.heap.size 33 5 (.slice (some ⟨w.heap.size + 1 + 1, 0, none⟩) 0 0) 0 []) := by rw [show w.heap.size + 1 + 1 = w1.heap.size from by omega, hw2]; exact ownsRow_empty w1 33 5 _ (Nat.le_refl _)
  have HW2 := Lib.hid hw2
  have HW1 := Lib.hid hw1
  have HW0 := Lib.hid hw0
  have HB2 := Lib.hid hb2
  obtain ⟨x0, x1, x2, x3, x4⟩ := hbx2
  clear hw0 hw1 hw2 hb0 hb1 hb2 hbx
  go_enter Try.func134, Try.ntmps134
  go_wp2_with fail
  rw [← HW0.out, ← HW1.out, ← HW2.out]
  refine (l4Vars_any B ls la lcap f sa scap a cap [] _ w1.heap.size w2 (by omega) (by omega) (HL.out.later (same_below (HBW0.out.mono hB))) HOV.out (InV.later (same_below (HBW0.out.mono hB)) _ _ HV.out) (by simp; omega)).mono ?_
  rintro e w5 ⟨v5, new, rfl, hnew, hins, hr5, hg5, _⟩
  simp only [List.nil_append] at hr5
  have hb25 : Below w1.heap.size w1 w5 := HB2.out.trans (below_grownP hg5 (by omega) (fun q h => by simp [Value.ownBlock] at h; omega))
  have hs5 : w1.heap.size + 1 ≤ w5.heap.size := by have := hg5.size; omega
  obtain ⟨va, vcap, rfl, hvc, hvm⟩ := ownsRow_slice hr5
  unfold maxLen at hvm
  have hcard : new.length = (varsF ls f).length := by rw [← hnew, List.length_map]
  have hvl := varsF_length ls f
  have hbx5 := HBX1.out.later hb25
  have HB5 : Hid (Below w.heap.size w w5) := HBW1.out.trans (hb25.mono (by omega))
  have HOW5 : Hid (w5.ownsRow (w.heap.size + 1) 60 12 (.slice (some ⟨w.heap.size + 1, 0, none⟩) 0 0) 0 []) := HOW.out.kept (row := none) ⟨hb25.os, hb25.tape, hb25.output, hb25.size, fun k hk _ => hb25.block k hk⟩ (by simp [Value.ownBlock])
  have HFI : Hid (FormsIn (fun k => k < w5.heap.size ∧ k ≠ w.heap.size + 1) w5 va vcap (varsF ls f)) := by
    have h1 : ∀ y ∈ new, InV (fun k => k < w5.heap.size ∧ k ≠ w.heap.size + 1) w5 y.f y.val := fun y hy => InV.mono (fun k (hk : k < B) => ⟨by omega, by omega⟩) _ _ (InV.later (w := w2) (w' := w5) (fun k (hk : k < B) => by rw [hb25.block k (by omega), HB2.out.block k (by omega)]) _ _ (hins y hy))
    have h2 := formsIn_items (φ := (fun k => k < w5.heap.size ∧ k ≠ w.heap.size + 1)) hr5 h1 (fun k h3 h4 => ⟨h4, by omega⟩)
    rw [hnew] at h2
    exact h2
  rw [hcard]
  have hlen : (varsF ls f).length ≤ 1048577 := by omega
  rw [hcard] at hvc
  have HBX5 := Lib.hid hbx5
  obtain ⟨w6, hw6⟩ : ∃ w6, w6 = w5.alloc (.cells #[] 3) := ⟨_, rfl⟩
  have hs6 : w6.heap.size = w5.heap.size + 1 := by rw [hw6]; simp
  have hb6 : Below w5.heap.size w5 w6 := by rw [hw6]; exact below_alloc w5 _
  have HOE : Hid (w6.ownsRow w5.heap.size 3 1 (.slice (some ⟨w5.heap.size, 0, none⟩) 0 0) 0 []) := by rw [hw6]; exact ownsRow_empty w5 3 1 _ (by omega)
  have HB6 := Lib.hid hb6
  have HBW6 : Hid (Below w.heap.size w w6) := HB5.out.trans (hb6.mono (by omega))
  have HW6 := Lib.hid hw6
  clear hnew hins hr5 hg5 hb25 hbx5 hw6 x0 x1 x2 x3 x4
  have hbx6 : FormBox (w5.alloc (.cells #[] 3)) w.heap.size f sa scap a cap := HBX5.out.later (below_alloc w5 _)
  obtain ⟨x0, x1, x2, x3, x4⟩ := hbx6
  clear hb6
  go_wp2_with fail
  rw [← HW6.out]
  refine (l4Depths_any B ls la lcap f sa scap a cap [] 0 _ w5.heap.size w6 (by omega) (by omega) (HL.out.later (same_below (HBW6.out.mono hB))) (by simpa using HOE.out) (InV.later (same_below (HBW6.out.mono hB)) _ _ HV.out) (by simp; omega) ⟨by omega, by omega⟩).mono ?_
  rintro e w7 ⟨v7, rfl, hr7, hg7, _⟩
  simp only [List.nil_append] at hr7
  obtain ⟨da, dcap, rfl, hdc, hdm⟩ := ownsRow_slice hr7
  unfold maxLen at hdm
  have hdl : (depF ls f 0).length = (varsF ls f).length := depF_length ls f 0
  have hb57 : Below w5.heap.size w5 w7 := HB6.out.trans (below_grownP hg7 (by omega) (fun q h => by simp [Value.ownBlock] at h; omega))
  have hs7 : w5.heap.size + 1 ≤ w7.heap.size := by have := hg7.size; omega
  have HB7 : Hid (Below w.heap.size w w7) := HB5.out.trans (hb57.mono (by omega))
  have HR7 := Lib.hid hr7
  have HOW7 : Hid (w7.ownsRow (w.heap.size + 1) 60 12 (.slice (some ⟨w.heap.size + 1, 0, none⟩) 0 0) 0 []) := HOW5.out.kept (row := none) ⟨hb57.os, hb57.tape, hb57.output, hb57.size, fun k hk _ => hb57.block k hk⟩ (by simp [Value.ownBlock])
  have HF7 : Hid (FormsIn (fun k => k < w7.heap.size ∧ k ≠ w.heap.size + 1) w7 va vcap (varsF ls f)) := (HFI.out.later (w' := w7) (fun k hk => hb57.block k hk.1)).mono (fun k hk => ⟨by have := hk.1; omega, hk.2⟩)
  have HDP := Lib.hid hdp
  clear hr7 hg7 hb57 x0 x1 x2 x3 x4 hdp
  go_wp2_with fail
  go_loopw [5, 8, 9] (fun vv i u wr => ∃ (j : Nat) (xs : List Value) (v : Value), v = vv ∧ j ≤ (varsF ls f).length ∧ i = .int .i64 j ∧ wr.ownsRow (w.heap.size + 1) 60 12 v j xs ∧ RowR (fun k => k < w7.heap.size ∧ k ≠ w.heap.size + 1) wr (shapeH oneS ((varsF ls f).take j) ((depF ls f 0).take j)) xs ∧ (∀ q, v.ownBlock = some q → q = w.heap.size + 1 ∨ w7.heap.size ≤ q) ∧ Same (fun k => k < w7.heap.size ∧ k ≠ w.heap.size + 1) w7 wr ∧ Below w.heap.size w wr ∧ w7.heap.size ≤ wr.heap.size) (fun _ i _ _ => (varsF ls f).length - (intOf i).toNat)
  case atStart => exact ⟨0, [], _, rfl, Nat.zero_le _, rfl, HOW7.out, by simp [shapeH, RowR], fun q hq => by simp [Value.ownBlock] at hq; left; omega, fun _ _ => rfl, HB7.out, Nat.le_refl _⟩
  case round =>
    obtain ⟨j, xs, v, rfl, hj, rfl, hown, hvals, hvb, hsa, hb, hsz7⟩ := hrel
    have HOWN := Lib.hid hown
    have HVAL := Lib.hid hvals
    have HVB := Lib.hid hvb
    have HSA := Lib.hid hsa
    have HB := Lib.hid hb
    have hsz := hb.size
    clear hown hvals hb hvb hsa
    by_cases hlt : j < (varsF ls f).length
    · have hfr := (HF7.out.later HSA.out).2.2
      rcases hfr with h0 | ⟨b, off, rfl, hbB, hr⟩
      · exfalso; rw [h0] at hlt; simp at hlt
      obtain ⟨ga, gcap, ka, kcap, q0, q1, q2, q3, q4, hin⟩ := hr.at' j hlt
      have HIN := Lib.hid hin
      obtain ⟨db, dcp, e1, _, _⟩ := HR7.out.form (by omega)
      injection e1 with e1 e2 e3
      subst e1 e3
      have hdlt : j < (depF ls f 0).length := by omega
      have hdb := HR7.out.lt db (by simp [Value.ownBlock])
      have q5 : wr.cell? ⟨db, j, none⟩ = some (.int .i64 (depF ls f 0)[j]) := by
        rw [World.cell?_of_block (a := ⟨db, j, none⟩) (HSA.out db ⟨hdb.2, by omega⟩), HR7.out.cellAt j (by omega), List.getElem?_map, List.getElem?_eq_getElem hdlt]
        rfl
      have HTK := Lib.hid (shapeH_succ oneS (varsF ls f) (depF ls f 0) j hlt hdlt)
      have HDB : Hid (-9223372036854775808 ≤ (depF ls f 0)[j] ∧ (depF ls f 0)[j] ≤ 9223372036854775807) := HDP.out _ (List.getElem_mem hdlt)
      obtain ⟨dj, hdj⟩ : ∃ dj, dj = (depF ls f 0)[j] := ⟨_, rfl⟩
      rw [← hdj] at q5 HTK HDB
      clear hdj
      have hj0 : (0 : Int) ≤ (j : Int) := by omega
      have hj1 : (j : Int) < ((varsF ls f).length : Int) := by omega
      have hj2 : (j : Int) < ((depF ls f 0).length : Int) := by omega
      have hL1 : j + 1 ≤ maxLen := by unfold maxLen; omega
      have hL2 : (j + 1) * 192 ≤ 140737488355328 := by omega
      have hbB' : b < w7.heap.size := hbB.1
      have hdb' := hdb.2
      clear hr hin hdb
      go_wp2_with fail
      refine upto_begin (fun W => W.cell? ⟨b, off + j * 5, none⟩ = some (.int .i64 (varsF ls f)[j].kind) ∧ W.cell? ⟨b, off + j * 5 + 1, none⟩ = some (.string (varsF ls f)[j].name) ∧ W.cell? ⟨b, off + j * 5 + 2, none⟩ = some (.int .i64 (varsF ls f)[j].n) ∧ W.cell? ⟨b, off + j * 5 + 3, none⟩ = some (.slice ga (varsF ls f)[j].scopes.length gcap) ∧ W.cell? ⟨b, off + j * 5 + 4, none⟩ = some (.slice ka (varsF ls f)[j].kids.length kcap) ∧ W.cell? ⟨db, j, none⟩ = some (.int .i64 dj)) 11 (by kernel_rfl) ?_
      obtain ⟨u, hu⟩ : ∃ u, u = wr.drew := ⟨_, rfl⟩
      rw [← hu]
      have hb : Below wr.heap.size wr u := by rw [hu]; exact (Below.refl _ _).drew
      have hsu := hb.size
      have hS0 : (fun W => W.cell? ⟨b, off + j * 5, none⟩ = some (.int .i64 (varsF ls f)[j].kind) ∧ W.cell? ⟨b, off + j * 5 + 1, none⟩ = some (.string (varsF ls f)[j].name) ∧ W.cell? ⟨b, off + j * 5 + 2, none⟩ = some (.int .i64 (varsF ls f)[j].n) ∧ W.cell? ⟨b, off + j * 5 + 3, none⟩ = some (.slice ga (varsF ls f)[j].scopes.length gcap) ∧ W.cell? ⟨b, off + j * 5 + 4, none⟩ = some (.slice ka (varsF ls f)[j].kids.length kcap) ∧ W.cell? ⟨db, j, none⟩ = some (.int .i64 dj)) u := ⟨cell_later' hb q0, cell_later' hb q1, cell_later' hb q2, cell_later' hb q3, cell_later' hb q4, cell_later' hb q5⟩
      have HBU : Hid (Below wr.heap.size wr u) := hb
      clear hb hu q0 q1 q2 q3 q4 q5
      refine upto_take (i := 0) (d := some 25) (v := ?_) rfl rfl (by kernel_rfl) (by kernel_rfl) (by kernel_rfl) (by kernel_rfl) (fun _ _ _ h => h) (Or.inl ⟨by rfl, ?_⟩) hS0 ?_
      rotate_left
      · (intro wS hSw; obtain ⟨_, _, _, _, _, _⟩ := hSw; go_simp; try with_reducible rfl)
      try simp only [Act.put, List.setIfInBounds_toArray, List.set_cons_zero, List.set_cons_succ]
      refine upto_take (i := 1) (d := some 26) (v := ?_) rfl rfl (by kernel_rfl) (by kernel_rfl) (by kernel_rfl) (by kernel_rfl) (fun _ _ _ h => h) (Or.inl ⟨by rfl, ?_⟩) hS0 ?_
      rotate_left
      · (intro wS hSw; obtain ⟨_, _, _, _, _, _⟩ := hSw; go_simp; try with_reducible rfl)
      try simp only [Act.put, List.setIfInBounds_toArray, List.set_cons_zero, List.set_cons_succ]
      refine upto_take (i := 2) (d := some 27) (v := ?_) rfl rfl (by kernel_rfl) (by kernel_rfl) (by kernel_rfl) (by kernel_rfl) (fun _ _ _ h => h) (Or.inl ⟨by rfl, ?_⟩) hS0 ?_
      rotate_left
      · (intro wS hSw; obtain ⟨_, _, _, _, _, _⟩ := hSw; go_simp; try with_reducible rfl)
      try simp only [Act.put, List.setIfInBounds_toArray, List.set_cons_zero, List.set_cons_succ]
      refine upto_take (i := 3) (d := some 28) (v := ?_) rfl rfl (by kernel_rfl) (by kernel_rfl) (by kernel_rfl) (by kernel_rfl) (fun _ _ _ h => h) (Or.inl ⟨by rfl, ?_⟩) hS0 ?_
      rotate_left
      · (intro wS hSw; obtain ⟨_, _, _, _, _, _⟩ := hSw; go_simp; try with_reducible rfl)
      try simp only [Act.put, List.setIfInBounds_toArray, List.set_cons_zero, List.set_cons_succ]
      refine upto_take (i := 4) (d := some 29) (v := ?_) rfl rfl (by kernel_rfl) (by kernel_rfl) (by kernel_rfl) (by kernel_rfl) (fun _ _ _ h => h) (Or.inl ⟨by rfl, ?_⟩) hS0 ?_
      rotate_left
      · (intro wS hSw; obtain ⟨_, _, _, _, _, _⟩ := hSw; go_simp; try with_reducible rfl)
      try simp only [Act.put, List.setIfInBounds_toArray, List.set_cons_zero, List.set_cons_succ]
      refine upto_take (i := 5) (d := some 30) (v := ?_) rfl rfl (by kernel_rfl) (by kernel_rfl) (by kernel_rfl) (by kernel_rfl) (fun _ _ _ h => h) (Or.inl ⟨by rfl, ?_⟩) hS0 ?_
      rotate_left
      · (intro wS hSw; obtain ⟨_, _, _, _, _, _⟩ := hSw; go_simp; try with_reducible rfl)
      try simp only [Act.put, List.setIfInBounds_toArray, List.set_cons_zero, List.set_cons_succ]
      refine upto_take (i := 6) (d := some 31) (v := ?_) rfl rfl (by kernel_rfl) (by kernel_rfl) (by kernel_rfl) (by kernel_rfl) (fun _ _ _ h => h) (Or.inl ⟨by rfl, ?_⟩) hS0 ?_
      rotate_left
      · (intro wS hSw; obtain ⟨_, _, _, _, _, _⟩ := hSw; go_simp; try with_reducible rfl)
      try simp only [Act.put, List.setIfInBounds_toArray, List.set_cons_zero, List.set_cons_succ]
      refine upto_take (i := 7) (d := some 32) (v := ?_) rfl rfl (by kernel_rfl) (by kernel_rfl) (by kernel_rfl) (by kernel_rfl) (fun _ _ _ h => h) (Or.inl ⟨by rfl, ?_⟩) hS0 ?_
      rotate_left
      · (intro wS hSw; obtain ⟨_, _, _, _, _, _⟩ := hSw; go_simp; try with_reducible rfl)
      try simp only [Act.put, List.setIfInBounds_toArray, List.set_cons_zero, List.set_cons_succ]
      refine upto_take (i := 8) (d := some 33) (v := ?_) rfl rfl (by kernel_rfl) (by kernel_rfl) (by kernel_rfl) (by kernel_rfl) (fun _ _ _ h => h) (Or.inl ⟨by rfl, ?_⟩) hS0 ?_
      rotate_left
      · (intro wS hSw; obtain ⟨_, _, _, _, _, _⟩ := hSw; go_simp; try with_reducible rfl)
      try simp only [Act.put, List.setIfInBounds_toArray, List.set_cons_zero, List.set_cons_succ]
      refine upto_one (i := 9) (by kernel_rfl) rfl (fun K hK => ?_)
      go_simp
      obtain ⟨w1, hw1⟩ : ∃ V, V = u.alloc (.cells #[.int .i64 0, .string { data := #[] }, .int .i64 0, .slice none 0 0, .slice none 0 0, .int .i64 0, .int .i64 0, .string { data := #[] }, .int .i64 0, .slice none 0 0, .slice none 0 0, .slice none 0 0] 60) := ⟨_, rfl⟩
      have hb1 : Below u.heap.size u w1 := by rw [hw1]; exact below_alloc _ _
      have hz : w1.heap[u.heap.size]? = some (.cells #[.int .i64 0, .string { data := #[] }, .int .i64 0, .slice none 0 0, .slice none 0 0, .int .i64 0, .int .i64 0, .string { data := #[] }, .int .i64 0, .slice none 0 0, .slice none 0 0, .slice none 0 0] 60 (0, 0)) := by rw [hw1]; exact heap_alloc_new _ _
      have hs1 : w1.heap.size = u.heap.size + 1 := by rw [hw1]; simp
      rw [← hw1]
      clear hw1
      have hS1 : (fun W => W.cell? ⟨b, off + j * 5, none⟩ = some (.int .i64 (varsF ls f)[j].kind) ∧ W.cell? ⟨b, off + j * 5 + 1, none⟩ = some (.string (varsF ls f)[j].name) ∧ W.cell? ⟨b, off + j * 5 + 2, none⟩ = some (.int .i64 (varsF ls f)[j].n) ∧ W.cell? ⟨b, off + j * 5 + 3, none⟩ = some (.slice ga (varsF ls f)[j].scopes.length gcap) ∧ W.cell? ⟨b, off + j * 5 + 4, none⟩ = some (.slice ka (varsF ls f)[j].kids.length kcap) ∧ W.cell? ⟨db, j, none⟩ = some (.int .i64 dj)) w1 := by obtain ⟨q0, q1, q2, q3, q4, q5⟩ := hS0; exact ⟨cell_later' hb1 q0, cell_later' hb1 q1, cell_later' hb1 q2, cell_later' hb1 q3, cell_later' hb1 q4, cell_later' hb1 q5⟩
      have HB1 : Hid (Below wr.heap.size wr w1) := HBU.out.trans (hb1.mono (by omega))
      refine hK.out _ _ (.inr hS1) ?_
      clear hK K hb1 hS0
      have hplr : Plain w1 (u.heap.size) := ⟨_, _, hz⟩
      have r0 : w1.cell? ⟨u.heap.size, 0, none⟩ = some (.int .i64 0) := by rw [cell_of_row w1 _ 0 _ _ _ hz]; rfl
      have r1 : w1.cell? ⟨u.heap.size, 1, none⟩ = some (.string { data := #[] }) := by rw [cell_of_row w1 _ 1 _ _ _ hz]; rfl
      have r2 : w1.cell? ⟨u.heap.size, 2, none⟩ = some (.int .i64 0) := by rw [cell_of_row w1 _ 2 _ _ _ hz]; rfl
      have r3 : w1.cell? ⟨u.heap.size, 3, none⟩ = some (.slice none 0 0) := by rw [cell_of_row w1 _ 3 _ _ _ hz]; rfl
      have r4 : w1.cell? ⟨u.heap.size, 4, none⟩ = some (.slice none 0 0) := by rw [cell_of_row w1 _ 4 _ _ _ hz]; rfl
      have r5 : w1.cell? ⟨u.heap.size, 5, none⟩ = some (.int .i64 0) := by rw [cell_of_row w1 _ 5 _ _ _ hz]; rfl
      have r6 : w1.cell? ⟨u.heap.size, 6, none⟩ = some (.int .i64 0) := by rw [cell_of_row w1 _ 6 _ _ _ hz]; rfl
      have r7 : w1.cell? ⟨u.heap.size, 7, none⟩ = some (.string { data := #[] }) := by rw [cell_of_row w1 _ 7 _ _ _ hz]; rfl
      have r8 : w1.cell? ⟨u.heap.size, 8, none⟩ = some (.int .i64 0) := by rw [cell_of_row w1 _ 8 _ _ _ hz]; rfl
      have r9 : w1.cell? ⟨u.heap.size, 9, none⟩ = some (.slice none 0 0) := by rw [cell_of_row w1 _ 9 _ _ _ hz]; rfl
      have r10 : w1.cell? ⟨u.heap.size, 10, none⟩ = some (.slice none 0 0) := by rw [cell_of_row w1 _ 10 _ _ _ hz]; rfl
      have r11 : w1.cell? ⟨u.heap.size, 11, none⟩ = some (.slice none 0 0) := by rw [cell_of_row w1 _ 11 _ _ _ hz]; rfl
      have t_0 := hplr.frozen 0
      have t_1 := hplr.frozen 1
      have t_2 := hplr.frozen 2
      have t_3 := hplr.frozen 3
      have t_4 := hplr.frozen 4
      have t_5 := hplr.frozen 5
      have t_6 := hplr.frozen 6
      have t_7 := hplr.frozen 7
      have t_8 := hplr.frozen 8
      have t_9 := hplr.frozen 9
      have t_10 := hplr.frozen 10
      have t_11 := hplr.frozen 11
      have HR : Hid (∀ i, i < 12 → ∃ v, w1.cell? ⟨u.heap.size, 0 + i, none⟩ = some v) := fun i hi => by
        rw [Nat.zero_add]
        match i, hi with
        | 0, _ => exact ⟨_, r0⟩
        | 1, _ => exact ⟨_, r1⟩
        | 2, _ => exact ⟨_, r2⟩
        | 3, _ => exact ⟨_, r3⟩
        | 4, _ => exact ⟨_, r4⟩
        | 5, _ => exact ⟨_, r5⟩
        | 6, _ => exact ⟨_, r6⟩
        | 7, _ => exact ⟨_, r7⟩
        | 8, _ => exact ⟨_, r8⟩
        | 9, _ => exact ⟨_, r9⟩
        | 10, _ => exact ⟨_, r10⟩
        | 11, _ => exact ⟨_, r11⟩
      refine upto_one (i := 10) (by kernel_rfl) rfl (fun K hK => ?_)
      go_simp
      obtain ⟨w2, hV⟩ : ∃ V, V = ((((((((((((w1.setCell ⟨u.heap.size, 0, none⟩ (.int .i64 (varsF ls f)[j].kind)).setCell ⟨u.heap.size, 1, none⟩ (.string (varsF ls f)[j].name)).setCell ⟨u.heap.size, 2, none⟩ (.int .i64 (varsF ls f)[j].n)).setCell ⟨u.heap.size, 3, none⟩ (.slice ga (varsF ls f)[j].scopes.length gcap)).setCell ⟨u.heap.size, 4, none⟩ (.slice ka (varsF ls f)[j].kids.length kcap)).setCell ⟨u.heap.size, 5, none⟩ (.int .i64 dj)).setCell ⟨u.heap.size, 6, none⟩ (.int .i64 0)).setCell ⟨u.heap.size, 7, none⟩ (.string { data := #[] })).setCell ⟨u.heap.size, 8, none⟩ (.int .i64 0)).setCell ⟨u.heap.size, 9, none⟩ (.slice none 0 0)).setCell ⟨u.heap.size, 10, none⟩ (.slice none 0 0)).setCell ⟨u.heap.size, 11, none⟩ (.slice none 0 0)) := ⟨_, rfl⟩
      have E : w2 = sets w1 u.heap.size 0 [.int .i64 (varsF ls f)[j].kind, .string (varsF ls f)[j].name, .int .i64 (varsF ls f)[j].n, .slice ga (varsF ls f)[j].scopes.length gcap, .slice ka (varsF ls f)[j].kids.length kcap, .int .i64 dj, .int .i64 0, .string { data := #[] }, .int .i64 0, .slice none 0 0, .slice none 0 0, .slice none 0 0] := by rw [hV]; rfl
      have hsi := sets_in u.heap.size [Value.int .i64 (varsF ls f)[j].kind, Value.string (varsF ls f)[j].name, Value.int .i64 (varsF ls f)[j].n, Value.slice ga (varsF ls f)[j].scopes.length gcap, Value.slice ka (varsF ls f)[j].kids.length kcap, Value.int .i64 dj, Value.int .i64 0, Value.string { data := #[] }, Value.int .i64 0, Value.slice none 0 0, Value.slice none 0 0, Value.slice none 0 0] w1 0 HR.out
      rw [← E] at hsi
      have z0 : w2.cell? ⟨u.heap.size, 0, none⟩ = some (.int .i64 (varsF ls f)[j].kind) := by have := hsi 0 (by simp); simpa using this
      have z1 : w2.cell? ⟨u.heap.size, 1, none⟩ = some (.string (varsF ls f)[j].name) := by have := hsi 1 (by simp); simpa using this
      have z2 : w2.cell? ⟨u.heap.size, 2, none⟩ = some (.int .i64 (varsF ls f)[j].n) := by have := hsi 2 (by simp); simpa using this
      have z3 : w2.cell? ⟨u.heap.size, 3, none⟩ = some (.slice ga (varsF ls f)[j].scopes.length gcap) := by have := hsi 3 (by simp); simpa using this
      have z4 : w2.cell? ⟨u.heap.size, 4, none⟩ = some (.slice ka (varsF ls f)[j].kids.length kcap) := by have := hsi 4 (by simp); simpa using this
      have z5 : w2.cell? ⟨u.heap.size, 5, none⟩ = some (.int .i64 dj) := by have := hsi 5 (by simp); simpa using this
      have z6 : w2.cell? ⟨u.heap.size, 6, none⟩ = some (.int .i64 0) := by have := hsi 6 (by simp); simpa using this
      have z7 : w2.cell? ⟨u.heap.size, 7, none⟩ = some (.string { data := #[] }) := by have := hsi 7 (by simp); simpa using this
      have z8 : w2.cell? ⟨u.heap.size, 8, none⟩ = some (.int .i64 0) := by have := hsi 8 (by simp); simpa using this
      have z9 : w2.cell? ⟨u.heap.size, 9, none⟩ = some (.slice none 0 0) := by have := hsi 9 (by simp); simpa using this
      have z10 : w2.cell? ⟨u.heap.size, 10, none⟩ = some (.slice none 0 0) := by have := hsi 10 (by simp); simpa using this
      have z11 : w2.cell? ⟨u.heap.size, 11, none⟩ = some (.slice none 0 0) := by have := hsi 11 (by simp); simpa using this
      have hz5 : w2.heap.size = w1.heap.size := by rw [E, sets_size]
      have HB2 : Hid (Below wr.heap.size wr w2) := by unfold Hid; rw [E]; exact sets_below (by omega) _ _ HB1.out
      have hS2 : (fun W => W.cell? ⟨b, off + j * 5, none⟩ = some (.int .i64 (varsF ls f)[j].kind) ∧ W.cell? ⟨b, off + j * 5 + 1, none⟩ = some (.string (varsF ls f)[j].name) ∧ W.cell? ⟨b, off + j * 5 + 2, none⟩ = some (.int .i64 (varsF ls f)[j].n) ∧ W.cell? ⟨b, off + j * 5 + 3, none⟩ = some (.slice ga (varsF ls f)[j].scopes.length gcap) ∧ W.cell? ⟨b, off + j * 5 + 4, none⟩ = some (.slice ka (varsF ls f)[j].kids.length kcap) ∧ W.cell? ⟨db, j, none⟩ = some (.int .i64 dj)) w2 := by
        obtain ⟨q0, q1, q2, q3, q4, q5⟩ := hS1
        have hx : ∀ i, w2.cell? ⟨b, i, none⟩ = w1.cell? ⟨b, i, none⟩ := fun i => World.cell?_of_block (a := ⟨b, i, none⟩) (by rw [E]; exact sets_block _ _ _ _ (show b ≠ u.heap.size by omega))
        have hy : ∀ i, w2.cell? ⟨db, i, none⟩ = w1.cell? ⟨db, i, none⟩ := fun i => World.cell?_of_block (a := ⟨db, i, none⟩) (by rw [E]; exact sets_block _ _ _ _ (show db ≠ u.heap.size by omega))
        exact ⟨(hx _).trans q0, (hx _).trans q1, (hx _).trans q2, (hx _).trans q3, (hx _).trans q4, (hy _).trans q5⟩
      have HS2 := Lib.hid hS2
      have hfz : ∀ i, w2.frozen? ⟨u.heap.size, i, none⟩ = false := fun i => by rw [E, sets_frozen]; exact hplr.frozen i
      have g6 := hfz 6
      have g7 := hfz 7
      have g8 := hfz 8
      have g9 := hfz 9
      have g10 := hfz 10
      rw [← hV]
      clear hV E hsi hS1 hz hplr HR hfz r0 r1 r2 r3 r4 r5 r6 r7 r8 r9 r10 r11 t_0 t_1 t_2 t_3 t_4 t_5 t_6 t_7 t_8 t_9 t_10 t_11
      refine hK.out _ _ (.inr hS2) ?_
      clear hK K hS2
      refine upto_done (by kernel_rfl) ?_ _
      have HBL : Hid (∀ q, v.ownBlock = some q → w.heap.size + 1 ≤ q ∧ q < wr.heap.size) := HOWN.out.lt
      have hs2 : wr.heap.size + 1 ≤ w2.heap.size := by omega
      have hu2 : wr.heap.size ≤ u.heap.size ∧ u.heap.size < w2.heap.size := by omega
      obtain ⟨q0, q1, q2, q3, q4, _⟩ := HS2.out
      clear hz5 hs1
      by_cases hd0 : dj = 0
      · subst hd0
        have HONE : Hid (oneS (varsF ls f)[j] 0 = (varsF ls f)[j]) := by unfold Hid oneS; rw [if_pos rfl]
        obtain ⟨w3, hw3⟩ : ∃ w3, w3 = (((((w2.setCell ⟨u.heap.size, 6, none⟩ (.int .i64 (varsF ls f)[j].kind)).setCell ⟨u.heap.size, 7, none⟩ (.string (varsF ls f)[j].name)).setCell ⟨u.heap.size, 8, none⟩ (.int .i64 (varsF ls f)[j].n)).setCell ⟨u.heap.size, 9, none⟩ (.slice ga (varsF ls f)[j].scopes.length gcap)).setCell ⟨u.heap.size, 10, none⟩ (.slice ka (varsF ls f)[j].kids.length kcap)) := ⟨_, rfl⟩
        have E3 : w3 = sets w2 u.heap.size 6 [.int .i64 (varsF ls f)[j].kind, .string (varsF ls f)[j].name, .int .i64 (varsF ls f)[j].n, .slice ga (varsF ls f)[j].scopes.length gcap, .slice ka (varsF ls f)[j].kids.length kcap] := by rw [hw3]; rfl
        have hs3 : w3.heap.size = w2.heap.size := by rw [E3, sets_size]
        have HS3E : Hid (w3.heap.size = w2.heap.size) := hs3
        have hb3 : Below wr.heap.size wr w3 := by rw [E3]; exact sets_below (by omega) _ _ HB2.out
        have hot : ∀ i, i < 6 ∨ 11 ≤ i → w3.cell? ⟨u.heap.size, i, none⟩ = w2.cell? ⟨u.heap.size, i, none⟩ := fun i hi => by rw [E3]; exact sets_out _ _ _ _ _ (by simpa using hi)
        have hsi := sets_in u.heap.size [Value.int .i64 (varsF ls f)[j].kind, Value.string (varsF ls f)[j].name, Value.int .i64 (varsF ls f)[j].n, Value.slice ga (varsF ls f)[j].scopes.length gcap, Value.slice ka (varsF ls f)[j].kids.length kcap] w2 6 (fun k hk => by
          match k, hk with
          | 0, _ => exact ⟨_, z6⟩
          | 1, _ => exact ⟨_, z7⟩
          | 2, _ => exact ⟨_, z8⟩
          | 3, _ => exact ⟨_, z9⟩
          | 4, _ => exact ⟨_, z10⟩)
        rw [← E3] at hsi
        have y0 := (hot 0 (by omega)).trans z0
        have y1 := (hot 1 (by omega)).trans z1
        have y2 := (hot 2 (by omega)).trans z2
        have y3 := (hot 3 (by omega)).trans z3
        have y4 := (hot 4 (by omega)).trans z4
        have y5 := (hot 5 (by omega)).trans z5
        have y6 : w3.cell? ⟨u.heap.size, 6, none⟩ = some (.int .i64 (varsF ls f)[j].kind) := hsi 0 (by simp)
        have y7 : w3.cell? ⟨u.heap.size, 7, none⟩ = some (.string (varsF ls f)[j].name) := hsi 1 (by simp)
        have y8 : w3.cell? ⟨u.heap.size, 8, none⟩ = some (.int .i64 (varsF ls f)[j].n) := hsi 2 (by simp)
        have y9 : w3.cell? ⟨u.heap.size, 9, none⟩ = some (.slice ga (varsF ls f)[j].scopes.length gcap) := hsi 3 (by simp)
        have y10 : w3.cell? ⟨u.heap.size, 10, none⟩ = some (.slice ka (varsF ls f)[j].kids.length kcap) := hsi 4 (by simp)
        have y11 := (hot 11 (by omega)).trans z11
        have HB3 := Lib.hid hb3
        have HW3 := Lib.hid hw3
        rw [hw3] at y0 y1 y2 y3 y4 y5 y6 y7 y8 y9 y10 y11
        have hs3' : w2.heap.size ≤ w3.heap.size := by omega
        clear hw3 hot hb3 hsi E3 hs3
        go_wp2_with (at_builtin; rw [← HW3.out, ← HS3E.out]; refine wpList_append_lies _ rfl _ _ 46 rfl (w.heap.size + 1) 60 i0 _ 12 192 Try.underlying46 hi0 hz0 hz1 hz2 rfl (by decide) _ j xs rfl ((HOWN.out.kept (row := none) (w' := w3) ⟨HB3.out.os, HB3.out.tape, HB3.out.output, HB3.out.size, fun k hk _ => HB3.out.block k hk⟩ (by cases v.ownBlock <;> simp)).alloc _) ⟨w3.heap.size, 0, none⟩ 1 1 [.int .i64 (varsF ls f)[j].kind, .string (varsF ls f)[j].name, .int .i64 (varsF ls f)[j].n, .slice ga (varsF ls f)[j].scopes.length gcap, .slice ka (varsF ls f)[j].kids.length kcap, .int .i64 0, .int .i64 (varsF ls f)[j].kind, .string (varsF ls f)[j].name, .int .i64 (varsF ls f)[j].n, .slice ga (varsF ls f)[j].scopes.length gcap, .slice ka (varsF ls f)[j].kids.length kcap, .slice none 0 0] rfl rfl (World.news_of_block (cs := #[.int .i64 (varsF ls f)[j].kind, .string (varsF ls f)[j].name, .int .i64 (varsF ls f)[j].n, .slice ga (varsF ls f)[j].scopes.length gcap, .slice ka (varsF ls f)[j].kids.length kcap, .int .i64 0, .int .i64 (varsF ls f)[j].kind, .string (varsF ls f)[j].name, .int .i64 (varsF ls f)[j].n, .slice ga (varsF ls f)[j].scopes.length gcap, .slice ka (varsF ls f)[j].kids.length kcap, .slice none 0 0]) (t := 60) (fr := (0, 0)) (heap_alloc_new w3 _)) (by simp [Value.oneCell']) (by omega) hL1 hL2 (by simp; omega) (w3.heap.size + 1) (by simp) ?_; intro gq qd w4 hown4 hgrow hat hlt4; have HOWN4 := Lib.hid hown4; have HGROW := Lib.hid hgrow; have HAT := Lib.hid hat; clear hown4 hgrow hat)
        have HBA := Lib.hid (below_alloc w3 (.cells #[.int .i64 (varsF ls f)[j].kind, .string (varsF ls f)[j].name, .int .i64 (varsF ls f)[j].n, .slice ga (varsF ls f)[j].scopes.length gcap, .slice ka (varsF ls f)[j].kids.length kcap, .int .i64 0, .int .i64 (varsF ls f)[j].kind, .string (varsF ls f)[j].name, .int .i64 (varsF ls f)[j].n, .slice ga (varsF ls f)[j].scopes.length gcap, .slice ka (varsF ls f)[j].kids.length kcap, .slice none 0 0] 60))
        have HBW4 : Hid (Below w.heap.size w w4) := by
          have h1 : Below w.heap.size w (w3.alloc (.cells #[.int .i64 (varsF ls f)[j].kind, .string (varsF ls f)[j].name, .int .i64 (varsF ls f)[j].n, .slice ga (varsF ls f)[j].scopes.length gcap, .slice ka (varsF ls f)[j].kids.length kcap, .int .i64 0, .int .i64 (varsF ls f)[j].kind, .string (varsF ls f)[j].name, .int .i64 (varsF ls f)[j].n, .slice ga (varsF ls f)[j].scopes.length gcap, .slice ka (varsF ls f)[j].kids.length kcap, .slice none 0 0] 60)) := (HB.out.trans (HB3.out.mono (by omega))).trans (HBA.out.mono (by omega))
          exact h1.grown HGROW.out (by simp; omega) (fun k hk => by have := (HBL.out k hk).1; omega)
        have HSM : Hid (Same (fun k => k < w7.heap.size ∧ k ≠ w.heap.size + 1) w7 w4) := fun k hk => by
          rw [HGROW.out.block k (by simp; omega) (fun e => by have := HVB.out k e.symm; omega), HBA.out.block k (by omega), HB3.out.block k (by omega)]
          exact HSA.out k hk
        have hz4 : w3.heap.size + 1 ≤ w4.heap.size := by have := HGROW.out.size; simpa using this
        have HNEXT : Hid (∃ (j' : Nat) (xs : List Value) (v : Value), v = .slice (some ⟨gq, 0, none⟩) (j + 1) qd ∧ j' ≤ (varsF ls f).length ∧ (Value.int .i64 ((j : Int) + 1)) = .int .i64 j' ∧ w4.ownsRow (w.heap.size + 1) 60 12 v j' xs ∧ RowR (fun k => k < w7.heap.size ∧ k ≠ w.heap.size + 1) w4 (shapeH oneS ((varsF ls f).take j') ((depF ls f 0).take j')) xs ∧ (∀ q, v.ownBlock = some q → q = w.heap.size + 1 ∨ w7.heap.size ≤ q) ∧ Same (fun k => k < w7.heap.size ∧ k ≠ w.heap.size + 1) w7 w4 ∧ Below w.heap.size w w4 ∧ w7.heap.size ≤ w4.heap.size) := by
          refine ⟨j + 1, _, _, rfl, by omega, by go_num, HOWN4.out, ?_, ?_, HSM.out, HBW4.out, by omega⟩
          · rw [HTK.out]
            have hsm : Same (fun k => k < w7.heap.size ∧ k ≠ w.heap.size + 1) wr w4 := fun k hk => (HSM.out k hk).trans (HSA.out k hk).symm
            refine RowR.snoc ?_ (HVAL.out.keep hsm)
            unfold InH
            have hn4 := HIN.out.later hsm
            exact ⟨ga, gcap, ka, kcap, ga, gcap, ka, kcap, none, 0, by rw [HONE.out]; rfl, HDB.out, hn4, by rw [HONE.out]; exact hn4, Nat.le_refl _, Nat.zero_le _, .inl rfl⟩
          · intro q hq
            simp only [Value.ownBlock, Option.some.injEq] at hq
            subst hq
            rcases HAT.out with h | h
            · exact HVB.out _ h
            · right; omega
        clear HGROW HAT
        go_wp2_with fail
        go_roundw
        case rel => exact HNEXT.out
        case measure => simp [intOf]; omega
      · have hdd : (dj == 0) = false := by simp [hd0]
        have HONE : Hid (oneS (varsF ls f)[j] dj = zeroForm) := by unfold Hid oneS; rw [if_neg hd0]
        clear hd0
        have HB3 := HB2
        go_wp2_with (at_builtin; refine wpList_append_lies _ rfl _ _ 46 rfl (w.heap.size + 1) 60 i0 _ 12 192 Try.underlying46 hi0 hz0 hz1 hz2 rfl (by decide) _ j xs rfl ((HOWN.out.kept (row := none) (w' := w2) ⟨HB3.out.os, HB3.out.tape, HB3.out.output, HB3.out.size, fun k hk _ => HB3.out.block k hk⟩ (by cases v.ownBlock <;> simp)).alloc _) ⟨w2.heap.size, 0, none⟩ 1 1 [.int .i64 (varsF ls f)[j].kind, .string (varsF ls f)[j].name, .int .i64 (varsF ls f)[j].n, .slice ga (varsF ls f)[j].scopes.length gcap, .slice ka (varsF ls f)[j].kids.length kcap, .int .i64 dj, .int .i64 0, .string { data := #[] }, .int .i64 0, .slice none 0 0, .slice none 0 0, .slice none 0 0] rfl rfl (World.news_of_block (cs := #[.int .i64 (varsF ls f)[j].kind, .string (varsF ls f)[j].name, .int .i64 (varsF ls f)[j].n, .slice ga (varsF ls f)[j].scopes.length gcap, .slice ka (varsF ls f)[j].kids.length kcap, .int .i64 dj, .int .i64 0, .string { data := #[] }, .int .i64 0, .slice none 0 0, .slice none 0 0, .slice none 0 0]) (t := 60) (fr := (0, 0)) (heap_alloc_new w2 _)) (by simp [Value.oneCell']) (by omega) hL1 hL2 (by simp; omega) (w2.heap.size + 1) (by simp) ?_; intro gq qd w4 hown4 hgrow hat hlt4; have HOWN4 := Lib.hid hown4; have HGROW := Lib.hid hgrow; have HAT := Lib.hid hat; clear hown4 hgrow hat)
        have HBA := Lib.hid (below_alloc w2 (.cells #[.int .i64 (varsF ls f)[j].kind, .string (varsF ls f)[j].name, .int .i64 (varsF ls f)[j].n, .slice ga (varsF ls f)[j].scopes.length gcap, .slice ka (varsF ls f)[j].kids.length kcap, .int .i64 dj, .int .i64 0, .string { data := #[] }, .int .i64 0, .slice none 0 0, .slice none 0 0, .slice none 0 0] 60))
        have HBW4 : Hid (Below w.heap.size w w4) := by
          have h1 : Below w.heap.size w (w2.alloc (.cells #[.int .i64 (varsF ls f)[j].kind, .string (varsF ls f)[j].name, .int .i64 (varsF ls f)[j].n, .slice ga (varsF ls f)[j].scopes.length gcap, .slice ka (varsF ls f)[j].kids.length kcap, .int .i64 dj, .int .i64 0, .string { data := #[] }, .int .i64 0, .slice none 0 0, .slice none 0 0, .slice none 0 0] 60)) := (HB.out.trans (HB3.out.mono (by omega))).trans (HBA.out.mono (by omega))
          exact h1.grown HGROW.out (by simp; omega) (fun k hk => by have := (HBL.out k hk).1; omega)
        have HSM : Hid (Same (fun k => k < w7.heap.size ∧ k ≠ w.heap.size + 1) w7 w4) := fun k hk => by
          rw [HGROW.out.block k (by simp; omega) (fun e => by have := HVB.out k e.symm; omega), HBA.out.block k (by omega), HB3.out.block k (by omega)]
          exact HSA.out k hk
        have hz4 : w2.heap.size + 1 ≤ w4.heap.size := by have := HGROW.out.size; simpa using this
        have HNEXT : Hid (∃ (j' : Nat) (xs : List Value) (v : Value), v = .slice (some ⟨gq, 0, none⟩) (j + 1) qd ∧ j' ≤ (varsF ls f).length ∧ (Value.int .i64 ((j : Int) + 1)) = .int .i64 j' ∧ w4.ownsRow (w.heap.size + 1) 60 12 v j' xs ∧ RowR (fun k => k < w7.heap.size ∧ k ≠ w.heap.size + 1) w4 (shapeH oneS ((varsF ls f).take j') ((depF ls f 0).take j')) xs ∧ (∀ q, v.ownBlock = some q → q = w.heap.size + 1 ∨ w7.heap.size ≤ q) ∧ Same (fun k => k < w7.heap.size ∧ k ≠ w.heap.size + 1) w7 w4 ∧ Below w.heap.size w w4 ∧ w7.heap.size ≤ w4.heap.size) := by
          refine ⟨j + 1, _, _, rfl, by omega, by go_num, HOWN4.out, ?_, ?_, HSM.out, HBW4.out, by omega⟩
          · rw [HTK.out]
            have hsm : Same (fun k => k < w7.heap.size ∧ k ≠ w.heap.size + 1) wr w4 := fun k hk => (HSM.out k hk).trans (HSA.out k hk).symm
            refine RowR.snoc ?_ (HVAL.out.keep hsm)
            unfold InH
            have hn4 := HIN.out.later hsm
            exact ⟨ga, gcap, ka, kcap, none, 0, none, 0, none, 0, by rw [HONE.out]; rfl, HDB.out, hn4, by rw [HONE.out]; exact zeroIn _ _, Nat.le_refl _, Nat.zero_le _, .inl rfl⟩
          · intro q hq
            simp only [Value.ownBlock, Option.some.injEq] at hq
            subst hq
            rcases HAT.out with h | h
            · exact HVB.out _ h
            · right; omega
        clear HGROW HAT
        go_wp2_with fail
        go_roundw
        case rel => exact HNEXT.out
        case measure => simp [intOf]; omega
    · obtain rfl : j = (varsF ls f).length := by omega
      have HV2 : Hid (RowR (fun k => k < w7.heap.size ∧ k ≠ w.heap.size + 1) wr (shapeH oneS (varsF ls f) (depF ls f 0)) xs) := by have := HVAL.out; rw [List.take_length, ← hdl, List.take_length] at this; exact this
      have hll : (shapeH oneS (varsF ls f) (depF ls f 0)).length = (varsF ls f).length := shapeH_length _ _ _ hdl
      have HSL : Hid (∃ va vc, v = .slice va (varsF ls f).length vc ∧ HitsIn (· < wr.heap.size) wr va vc (shapeH oneS (varsF ls f) (depF ls f 0))) := by
        rcases HOWN.out.2 with ⟨e, h0⟩ | ⟨g, cp, cur, e, hbg, hg, hnc, hcm, _⟩
        · exact ⟨none, 0, by rw [e, h0], by rw [hll]; omega, Nat.zero_le _, .inl (List.eq_nil_of_length_eq_zero (by rw [hll]; exact h0))⟩
        · refine ⟨some ⟨g, 0, none⟩, cp, e, by rw [hll]; exact hnc, hcm, .inr ⟨g, 0, rfl, (Array.getElem?_eq_some_iff.1 hg).1, RowR.row (fun k hk => by have := hk.1; show k < wr.heap.size; omega) HV2.out (fun j u hj => ?_)⟩⟩
          have := HOWN.out.cells (g := g) (by rw [e]; rfl) j u hj
          unfold Addr.add at this
          split at this <;> simp_all
      obtain ⟨va2, vc, rfl, hres⟩ := HSL.out
      have HRES := Lib.hid hres
      clear hres HSL
      go_wp2_with fail
      go_ret
      exact ⟨va2, vc, rfl, HRES.out, HB.out⟩
end
end
end Go.Proofs.Ytnogpaflibghhaa
namespace Go.Proofs.Ytnogpaflibghhaa
section
section
open Go.RowKit
set_option linter.unusedVariables false
set_option linter.unusedSimpArgs false
/-- a rule in a box -/
def RlBox (W : World) (b : Nat) (p t : Fm) (s1 : Option Addr) (t1 : Nat) (k1 : Option Addr) (l1 : Nat) (s2 : Option Addr) (t2 : Nat) (k2 : Option Addr) (l2 : Nat) : Prop :=
  W.cell? ⟨b, 0, none⟩ = some (.int .i64 p.kind) ∧ W.cell? ⟨b, 1, none⟩ = some (.string p.name) ∧ W.cell? ⟨b, 2, none⟩ = some (.int .i64 p.n) ∧ W.cell? ⟨b, 3, none⟩ = some (.slice s1 p.scopes.length t1) ∧ W.cell? ⟨b, 4, none⟩ = some (.slice k1 p.kids.length l1) ∧ W.cell? ⟨b, 5, none⟩ = some (.int .i64 t.kind) ∧ W.cell? ⟨b, 6, none⟩ = some (.string t.name) ∧ W.cell? ⟨b, 7, none⟩ = some (.int .i64 t.n) ∧ W.cell? ⟨b, 8, none⟩ = some (.slice s2 t.scopes.length t2) ∧ W.cell? ⟨b, 9, none⟩ = some (.slice k2 t.kids.length l2)
theorem RlBox.later {w w' : World} {b : Nat} {p t : Fm} {s1 : Option Addr} {t1 : Nat} {k1 : Option Addr} {l1 : Nat} {s2 : Option Addr} {t2 : Nat} {k2 : Option Addr} {l2 : Nat} (h : RlBox w b p t s1 t1 k1 l1 s2 t2 k2 l2) (hb : Below w.heap.size w w') : RlBox w' b p t s1 t1 k1 l1 s2 t2 k2 l2 := by
  obtain ⟨h0, h1, h2, h3, h4, h5, h6, h7, h8, h9⟩ := h
  exact ⟨cell_later' hb h0, cell_later' hb h1, cell_later' hb h2, cell_later' hb h3, cell_later' hb h4, cell_later' hb h5, cell_later' hb h6, cell_later' hb h7, cell_later' hb h8, cell_later' hb h9⟩
theorem RlBox.fresh (w : World) (p t : Fm) (s1 : Option Addr) (t1 : Nat) (k1 : Option Addr) (l1 : Nat) (s2 : Option Addr) (t2 : Nat) (k2 : Option Addr) (l2 : Nat) (T : TypeId) : RlBox (w.alloc (.cells #[.int .i64 p.kind, .string p.name, .int .i64 p.n, .slice s1 p.scopes.length t1, .slice k1 p.kids.length l1, .int .i64 t.kind, .string t.name, .int .i64 t.n, .slice s2 t.scopes.length t2, .slice k2 t.kids.length l2] T)) w.heap.size p t s1 t1 k1 l1 s2 t2 k2 l2 :=
  ⟨World.cell?_alloc_at _ _ _ _ rfl, World.cell?_alloc_at _ _ _ _ rfl, World.cell?_alloc_at _ _ _ _ rfl, World.cell?_alloc_at _ _ _ _ rfl, World.cell?_alloc_at _ _ _ _ rfl, World.cell?_alloc_at _ _ _ _ rfl, World.cell?_alloc_at _ _ _ _ rfl, World.cell?_alloc_at _ _ _ _ rfl, World.cell?_alloc_at _ _ _ _ rfl, World.cell?_alloc_at _ _ _ _ rfl⟩
theorem pattern_few {p : Fm} {ls : List Fm} (h : patternB p ls = true) : (varsF ls p).length ≤ 20 := by
  unfold patternB at h
  simp only [Bool.and_eq_true] at h
  have h2 := h.2.2.2
  unfold restB at h2
  simp only [Bool.and_eq_true, decide_eq_true_eq] at h2
  exact h2.2.2
mutual
theorem depF_hi (ls : List Fm) : ∀ (f : Fm) (d : Int), ∀ x ∈ depF ls f d, d ≤ x ∧ x ≤ d + f.count
  | .mk k nm n sc ks, d, x, hx => by
    have h1 := Fm.count_pos (.mk k nm n sc ks)
    rw [depF_eq] at hx
    rcases List.mem_append.1 hx with h | h
    · split at h
      · rw [List.mem_singleton] at h; omega
      · cases h
    · have := depAll_hi ls ks d x h
      rw [Fm.count]
      omega
theorem depAll_hi (ls : List Fm) : ∀ (ks : List Fm) (d : Int), ∀ x ∈ depAll ls ks d, d ≤ x ∧ x ≤ d + 1 + countAll ks
  | [], d, x, hx => by simp [depAll] at hx
  | f :: r, d, x, hx => by
    simp only [depAll] at hx
    simp only [countAll]
    rcases List.mem_append.1 hx with h | h
    · have := depF_hi ls f _ x h
      split at this <;> omega
    · have := depAll_hi ls r d x h
      omega
end
set_option maxRecDepth 100000 in
set_option maxHeartbeats 16000000 in
theorem l5Rule_any (B : Nat) (p t : Fm) (ls : List Fm) (la : Option Addr) (lcap : Nat) (v : Value) (w : World) (hB : B ≤ w.heap.size) (hl : FormsIn (· < B) w la lcap ls) (hv : RlIn (· < B) w p t v) (hcn : ∀ g ∈ ls, g.count ≤ 1048577) (hcp : p.count ≤ 1048577) (hct : t.count ≤ 1048577) :
    Calls Try.prog 69 #[v, .slice la ls.length lcap] w fun e w' => e = .returned (.bool (ruleB p t ls)) ∧ Below w.heap.size w w' := by
  obtain ⟨s1, t1, k1, l1, s2, t2, k2, l2, rfl, hv1, hv2⟩ := hv
  have HL := Lib.hid hl
  have HV1 := Lib.hid hv1
  have HV2 := Lib.hid hv2
  have HCN := Lib.hid hcn
  have HDP : Hid (∀ d ∈ depF ls p 0, -9223372036854775808 ≤ d ∧ d ≤ 9223372036854775807) := fun d hd => by have := depF_hi ls p 0 d hd; omega
  clear hl hv1 hv2 hcn
  obtain ⟨w0, hw0⟩ : ∃ w0, w0 = w.alloc (.cells #[.int .i64 p.kind, .string p.name, .int .i64 p.n, .slice s1 p.scopes.length t1, .slice k1 p.kids.length l1, .int .i64 t.kind, .string t.name, .int .i64 t.n, .slice s2 t.scopes.length t2, .slice k2 t.kids.length l2] 35) := ⟨_, rfl⟩
  have HB0 : Hid (Below w.heap.size w w0) := by rw [hw0]; exact below_alloc w _
  have HX0 : Hid (RlBox w0 w.heap.size p t s1 t1 k1 l1 s2 t2 k2 l2) := by rw [hw0]; exact RlBox.fresh w p t s1 t1 k1 l1 s2 t2 k2 l2 _
  have hs0 : w.heap.size + 1 ≤ w0.heap.size := by rw [hw0]; simp
  have HW0 := Lib.hid hw0
  clear hw0
  go_enter Try.func69, Try.ntmps69
  go_wp2_with fail
  rw [← HW0.out]
  refine upto_begin (fun W => RlBox W w.heap.size p t s1 t1 k1 l1 s2 t2 k2 l2) 32 (by kernel_rfl) ?_
  obtain ⟨u, hu⟩ : ∃ u, u = w0.drew := ⟨_, rfl⟩
  rw [← hu]
  have hbu : Below w0.heap.size w0 u := by rw [hu]; exact (Below.refl _ _).drew
  have hsu : w0.heap.size ≤ u.heap.size := hbu.size
  have HBU : Hid (Below w.heap.size w u) := HB0.out.trans (hbu.mono (by omega))
  have HS : Hid (RlBox u w.heap.size p t s1 t1 k1 l1 s2 t2 k2 l2) := HX0.out.later hbu
  have hS := HS.out
  clear hu hbu HW0
  refine upto_take (i := 0) (d := some 5) (v := ?_) rfl rfl (by kernel_rfl) (by kernel_rfl) (by kernel_rfl) (by kernel_rfl) (fun _ _ _ h => h) (Or.inl ⟨by rfl, ?_⟩) hS ?_
  rotate_left
  · (intro wS hSw; obtain ⟨_, _, _, _, _, _, _, _, _, _⟩ := hSw; go_simp; try with_reducible rfl)
  try simp only [Act.put, List.setIfInBounds_toArray, List.set_cons_zero, List.set_cons_succ]
  refine upto_take (i := 1) (d := some 6) (v := ?_) rfl rfl (by kernel_rfl) (by kernel_rfl) (by kernel_rfl) (by kernel_rfl) (fun _ _ _ h => h) (Or.inl ⟨by rfl, ?_⟩) hS ?_
  rotate_left
  · (intro wS hSw; obtain ⟨_, _, _, _, _, _, _, _, _, _⟩ := hSw; go_simp; try with_reducible rfl)
  try simp only [Act.put, List.setIfInBounds_toArray, List.set_cons_zero, List.set_cons_succ]
  refine upto_take (i := 2) (d := some 7) (v := ?_) rfl rfl (by kernel_rfl) (by kernel_rfl) (by kernel_rfl) (by kernel_rfl) (fun _ _ _ h => h) (Or.inl ⟨by rfl, ?_⟩) hS ?_
  rotate_left
  · (intro wS hSw; obtain ⟨_, _, _, _, _, _, _, _, _, _⟩ := hSw; go_simp; try with_reducible rfl)
  try simp only [Act.put, List.setIfInBounds_toArray, List.set_cons_zero, List.set_cons_succ]
  clear hS
  refine upto_one (i := 3) (by kernel_rfl) rfl (fun K hK => ?_)
  go_simp
  refine (l4Is_any B p ls la lcap s1 t1 k1 l1 u (by omega) (HL.out.later (same_below (HBU.out.mono hB))) (InV.later (same_below (HBU.out.mono hB)) _ _ HV1.out) HCN.out (by omega)).mono ?_
  rintro e w2 ⟨rfl, hb2⟩
  have hs2 := hb2.size
  have HB2 : Hid (Below w.heap.size w w2) := HBU.out.trans (hb2.mono (by omega))
  have HS2 : Hid (RlBox w2 w.heap.size p t s1 t1 k1 l1 s2 t2 k2 l2) := HS.out.later hb2
  have hS := HS2.out
  refine hK.out _ _ (.inr hS) ?_
  clear hK K hb2
  cases h1 : patternB p ls with
  | false =>
    have HF : Hid (ruleB p t ls = false) := by unfold Hid ruleB; rw [h1]; simp
    clear hS
    refine upto_one (i := 4) (by kernel_rfl) rfl (fun K hK => ?_)
    go_simp
    have hS := HS2.out
    refine hK.out _ _ (.inr hS) ?_
    clear hK K
    refine upto_take (i := 5) (d := some 10) (v := undef) rfl rfl (by kernel_rfl) (by kernel_rfl) (by kernel_rfl) (by kernel_rfl) (fun _ _ _ h => h) (Or.inr ⟨by rfl, rfl⟩) hS ?_
    try simp only [Act.put, List.setIfInBounds_toArray, List.set_cons_zero, List.set_cons_succ]
    refine upto_take (i := 6) (d := some 11) (v := undef) rfl rfl (by kernel_rfl) (by kernel_rfl) (by kernel_rfl) (by kernel_rfl) (fun _ _ _ h => h) (Or.inr ⟨by rfl, rfl⟩) hS ?_
    try simp only [Act.put, List.setIfInBounds_toArray, List.set_cons_zero, List.set_cons_succ]
    refine upto_take (i := 7) (d := some 12) (v := undef) rfl rfl (by kernel_rfl) (by kernel_rfl) (by kernel_rfl) (by kernel_rfl) (fun _ _ _ h => h) (Or.inr ⟨by rfl, rfl⟩) hS ?_
    try simp only [Act.put, List.setIfInBounds_toArray, List.set_cons_zero, List.set_cons_succ]
    refine upto_take (i := 8) (d := some 13) (v := undef) rfl rfl (by kernel_rfl) (by kernel_rfl) (by kernel_rfl) (by kernel_rfl) (fun _ _ _ h => h) (Or.inr ⟨by rfl, rfl⟩) hS ?_
    try simp only [Act.put, List.setIfInBounds_toArray, List.set_cons_zero, List.set_cons_succ]
    clear hS
    refine upto_one (i := 9) (by kernel_rfl) rfl (fun K hK => ?_)
    go_simp
    have hS := HS2.out
    refine hK.out _ _ (.inr hS) ?_
    clear hK K
    clear hS
    refine upto_one (i := 10) (by kernel_rfl) rfl (fun K hK => ?_)
    go_simp
    have hS := HS2.out
    refine hK.out _ _ (.inr hS) ?_
    clear hK K
    refine upto_take (i := 11) (d := some 16) (v := undef) rfl rfl (by kernel_rfl) (by kernel_rfl) (by kernel_rfl) (by kernel_rfl) (fun _ _ _ h => h) (Or.inr ⟨by rfl, rfl⟩) hS ?_
    try simp only [Act.put, List.setIfInBounds_toArray, List.set_cons_zero, List.set_cons_succ]
    refine upto_take (i := 12) (d := some 17) (v := undef) rfl rfl (by kernel_rfl) (by kernel_rfl) (by kernel_rfl) (by kernel_rfl) (fun _ _ _ h => h) (Or.inr ⟨by rfl, rfl⟩) hS ?_
    try simp only [Act.put, List.setIfInBounds_toArray, List.set_cons_zero, List.set_cons_succ]
    refine upto_take (i := 13) (d := some 18) (v := undef) rfl rfl (by kernel_rfl) (by kernel_rfl) (by kernel_rfl) (by kernel_rfl) (fun _ _ _ h => h) (Or.inr ⟨by rfl, rfl⟩) hS ?_
    try simp only [Act.put, List.setIfInBounds_toArray, List.set_cons_zero, List.set_cons_succ]
    refine upto_take (i := 14) (d := some 19) (v := undef) rfl rfl (by kernel_rfl) (by kernel_rfl) (by kernel_rfl) (by kernel_rfl) (fun _ _ _ h => h) (Or.inr ⟨by rfl, rfl⟩) hS ?_
    try simp only [Act.put, List.setIfInBounds_toArray, List.set_cons_zero, List.set_cons_succ]
    refine upto_take (i := 15) (d := some 20) (v := undef) rfl rfl (by kernel_rfl) (by kernel_rfl) (by kernel_rfl) (by kernel_rfl) (fun _ _ _ h => h) (Or.inr ⟨by rfl, rfl⟩) hS ?_
    try simp only [Act.put, List.setIfInBounds_toArray, List.set_cons_zero, List.set_cons_succ]
    clear hS
    refine upto_one (i := 16) (by kernel_rfl) rfl (fun K hK => ?_)
    go_simp
    have hS := HS2.out
    refine hK.out _ _ (.inr hS) ?_
    clear hK K
    clear hS
    refine upto_one (i := 17) (by kernel_rfl) rfl (fun K hK => ?_)
    go_simp
    have hS := HS2.out
    refine hK.out _ _ (.inr hS) ?_
    clear hK K
    refine upto_take (i := 18) (d := some 23) (v := undef) rfl rfl (by kernel_rfl) (by kernel_rfl) (by kernel_rfl) (by kernel_rfl) (fun _ _ _ h => h) (Or.inr ⟨by rfl, rfl⟩) hS ?_
    try simp only [Act.put, List.setIfInBounds_toArray, List.set_cons_zero, List.set_cons_succ]
    refine upto_take (i := 19) (d := some 24) (v := undef) rfl rfl (by kernel_rfl) (by kernel_rfl) (by kernel_rfl) (by kernel_rfl) (fun _ _ _ h => h) (Or.inr ⟨by rfl, rfl⟩) hS ?_
    try simp only [Act.put, List.setIfInBounds_toArray, List.set_cons_zero, List.set_cons_succ]
    refine upto_take (i := 20) (d := some 25) (v := undef) rfl rfl (by kernel_rfl) (by kernel_rfl) (by kernel_rfl) (by kernel_rfl) (fun _ _ _ h => h) (Or.inr ⟨by rfl, rfl⟩) hS ?_
    try simp only [Act.put, List.setIfInBounds_toArray, List.set_cons_zero, List.set_cons_succ]
    clear hS
    refine upto_one (i := 21) (by kernel_rfl) rfl (fun K hK => ?_)
    go_simp
    have hS := HS2.out
    refine hK.out _ _ (.inr hS) ?_
    clear hK K
    clear hS
    refine upto_one (i := 22) (by kernel_rfl) rfl (fun K hK => ?_)
    go_simp
    have hS := HS2.out
    refine hK.out _ _ (.inr hS) ?_
    clear hK K
    refine upto_take (i := 23) (d := some 28) (v := undef) rfl rfl (by kernel_rfl) (by kernel_rfl) (by kernel_rfl) (by kernel_rfl) (fun _ _ _ h => h) (Or.inr ⟨by rfl, rfl⟩) hS ?_
    try simp only [Act.put, List.setIfInBounds_toArray, List.set_cons_zero, List.set_cons_succ]
    refine upto_take (i := 24) (d := some 29) (v := undef) rfl rfl (by kernel_rfl) (by kernel_rfl) (by kernel_rfl) (by kernel_rfl) (fun _ _ _ h => h) (Or.inr ⟨by rfl, rfl⟩) hS ?_
    try simp only [Act.put, List.setIfInBounds_toArray, List.set_cons_zero, List.set_cons_succ]
    refine upto_take (i := 25) (d := some 30) (v := undef) rfl rfl (by kernel_rfl) (by kernel_rfl) (by kernel_rfl) (by kernel_rfl) (fun _ _ _ h => h) (Or.inr ⟨by rfl, rfl⟩) hS ?_
    try simp only [Act.put, List.setIfInBounds_toArray, List.set_cons_zero, List.set_cons_succ]
    refine upto_take (i := 26) (d := some 31) (v := undef) rfl rfl (by kernel_rfl) (by kernel_rfl) (by kernel_rfl) (by kernel_rfl) (fun _ _ _ h => h) (Or.inr ⟨by rfl, rfl⟩) hS ?_
    try simp only [Act.put, List.setIfInBounds_toArray, List.set_cons_zero, List.set_cons_succ]
    refine upto_take (i := 27) (d := some 32) (v := undef) rfl rfl (by kernel_rfl) (by kernel_rfl) (by kernel_rfl) (by kernel_rfl) (fun _ _ _ h => h) (Or.inr ⟨by rfl, rfl⟩) hS ?_
    try simp only [Act.put, List.setIfInBounds_toArray, List.set_cons_zero, List.set_cons_succ]
    refine upto_take (i := 28) (d := some 33) (v := undef) rfl rfl (by kernel_rfl) (by kernel_rfl) (by kernel_rfl) (by kernel_rfl) (fun _ _ _ h => h) (Or.inr ⟨by rfl, rfl⟩) hS ?_
    try simp only [Act.put, List.setIfInBounds_toArray, List.set_cons_zero, List.set_cons_succ]
    refine upto_take (i := 29) (d := some 34) (v := undef) rfl rfl (by kernel_rfl) (by kernel_rfl) (by kernel_rfl) (by kernel_rfl) (fun _ _ _ h => h) (Or.inr ⟨by rfl, rfl⟩) hS ?_
    try simp only [Act.put, List.setIfInBounds_toArray, List.set_cons_zero, List.set_cons_succ]
    clear hS
    refine upto_one (i := 30) (by kernel_rfl) rfl (fun K hK => ?_)
    go_simp
    have hS := HS2.out
    refine hK.out _ _ (.inr hS) ?_
    clear hK K
    clear hS
    refine upto_one (i := 31) (by kernel_rfl) rfl (fun K hK => ?_)
    go_simp
    have hS := HS2.out
    refine hK.out _ _ (.inr hS) ?_
    clear hK K
    clear hS
    refine upto_done (by kernel_rfl) ?_ _
    go_wp2_with fail
    go_ret
    exact ⟨ret_bool HF.out.symm, HB2.out⟩
  | true =>
    have H1 := Lib.hid h1
    clear h1
    by_cases hk3 : p.kind = 3
    · have HK := Lib.hid hk3
      have hkk : (p.kind == 3) = true := by simp [hk3]
      clear hk3
      clear hS
      refine upto_one (i := 4) (by kernel_rfl) rfl (fun K hK => ?_)
      go_simp
      have hS := HS2.out
      refine hK.out _ _ (.inr hS) ?_
      clear hK K
      refine upto_take (i := 5) (d := some 10) (v := ?_) rfl rfl (by kernel_rfl) (by kernel_rfl) (by kernel_rfl) (by kernel_rfl) (fun _ _ _ h => h) (Or.inl ⟨by rfl, ?_⟩) hS ?_
      rotate_left
      · (intro wS hSw; obtain ⟨_, _, _, _, _, _, _, _, _, _⟩ := hSw; go_simp; try with_reducible rfl)
      try simp only [Act.put, List.setIfInBounds_toArray, List.set_cons_zero, List.set_cons_succ]
      refine upto_take (i := 6) (d := some 11) (v := ?_) rfl rfl (by kernel_rfl) (by kernel_rfl) (by kernel_rfl) (by kernel_rfl) (fun _ _ _ h => h) (Or.inl ⟨by rfl, ?_⟩) hS ?_
      rotate_left
      · (intro wS hSw; obtain ⟨_, _, _, _, _, _, _, _, _, _⟩ := hSw; go_simp; try with_reducible rfl)
      try simp only [Act.put, List.setIfInBounds_toArray, List.set_cons_zero, List.set_cons_succ]
      refine upto_take (i := 7) (d := some 12) (v := ?_) rfl rfl (by kernel_rfl) (by kernel_rfl) (by kernel_rfl) (by kernel_rfl) (fun _ _ _ h => h) (Or.inl ⟨by rfl, ?_⟩) hS ?_
      rotate_left
      · (intro wS hSw; obtain ⟨_, _, _, _, _, _, _, _, _, _⟩ := hSw; go_simp; try with_reducible rfl)
      try simp only [Act.put, List.setIfInBounds_toArray, List.set_cons_zero, List.set_cons_succ]
      refine upto_take (i := 8) (d := some 13) (v := ?_) rfl rfl (by kernel_rfl) (by kernel_rfl) (by kernel_rfl) (by kernel_rfl) (fun _ _ _ h => h) (Or.inl ⟨by rfl, ?_⟩) hS ?_
      rotate_left
      · (intro wS hSw; obtain ⟨_, _, _, _, _, _, _, _, _, _⟩ := hSw; go_simp; try with_reducible rfl)
      try simp only [Act.put, List.setIfInBounds_toArray, List.set_cons_zero, List.set_cons_succ]
      clear hS
      refine upto_one (i := 9) (by kernel_rfl) rfl (fun K hK => ?_)
      go_simp
      have hS := HS2.out
      refine hK.out _ _ (.inr hS) ?_
      clear hK K
      clear hkk
      by_cases hp3 : 0 < p.kids.length
      · have HP := Lib.hid hp3
        have hpp : decide ((0 : Int) < (p.kids.length : Int)) = true := by rw [decide_eq_true_eq]; omega
        have hpq : decide (0 < p.kids.length) = true := decide_eq_true hp3
        clear hp3
        clear hS
        refine upto_one (i := 10) (by kernel_rfl) rfl (fun K hK => ?_)
        go_simp
        have hS := HS2.out
        refine hK.out _ _ (.inr hS) ?_
        clear hK K
        refine upto_take (i := 11) (d := some 16) (v := ?_) rfl rfl (by kernel_rfl) (by kernel_rfl) (by kernel_rfl) (by kernel_rfl) (fun _ _ _ h => h) (Or.inl ⟨by rfl, ?_⟩) hS ?_
        rotate_left
        · (intro wS hSw; obtain ⟨_, _, _, _, _, _, _, _, _, _⟩ := hSw; go_simp; try with_reducible rfl)
        try simp only [Act.put, List.setIfInBounds_toArray, List.set_cons_zero, List.set_cons_succ]
        refine upto_take (i := 12) (d := some 17) (v := ?_) rfl rfl (by kernel_rfl) (by kernel_rfl) (by kernel_rfl) (by kernel_rfl) (fun _ _ _ h => h) (Or.inl ⟨by rfl, ?_⟩) hS ?_
        rotate_left
        · (intro wS hSw; obtain ⟨_, _, _, _, _, _, _, _, _, _⟩ := hSw; go_simp; try with_reducible rfl)
        try simp only [Act.put, List.setIfInBounds_toArray, List.set_cons_zero, List.set_cons_succ]
        refine upto_take (i := 13) (d := some 18) (v := ?_) rfl rfl (by kernel_rfl) (by kernel_rfl) (by kernel_rfl) (by kernel_rfl) (fun _ _ _ h => h) (Or.inl ⟨by rfl, ?_⟩) hS ?_
        rotate_left
        · (intro wS hSw; obtain ⟨_, _, _, _, _, _, _, _, _, _⟩ := hSw; go_simp; try with_reducible rfl)
        try simp only [Act.put, List.setIfInBounds_toArray, List.set_cons_zero, List.set_cons_succ]
        refine upto_take (i := 14) (d := some 19) (v := ?_) rfl rfl (by kernel_rfl) (by kernel_rfl) (by kernel_rfl) (by kernel_rfl) (fun _ _ _ h => h) (Or.inl ⟨by rfl, ?_⟩) hS ?_
        rotate_left
        · (intro wS hSw; obtain ⟨_, _, _, _, _, _, _, _, _, _⟩ := hSw; go_simp; try with_reducible rfl)
        try simp only [Act.put, List.setIfInBounds_toArray, List.set_cons_zero, List.set_cons_succ]
        refine upto_take (i := 15) (d := some 20) (v := ?_) rfl rfl (by kernel_rfl) (by kernel_rfl) (by kernel_rfl) (by kernel_rfl) (fun _ _ _ h => h) (Or.inl ⟨by rfl, ?_⟩) hS ?_
        rotate_left
        · (intro wS hSw; obtain ⟨_, _, _, _, _, _, _, _, _, _⟩ := hSw; go_simp; try with_reducible rfl)
        try simp only [Act.put, List.setIfInBounds_toArray, List.set_cons_zero, List.set_cons_succ]
        clear hS
        refine upto_one (i := 16) (by kernel_rfl) rfl (fun K hK => ?_)
        go_simp
        have hS := HS2.out
        refine hK.out _ _ (.inr hS) ?_
        clear hK K
        clear hS
        refine upto_one (i := 17) (by kernel_rfl) rfl (fun K hK => ?_)
        go_simp
        have hS := HS2.out
        refine hK.out _ _ (.inr hS) ?_
        clear hK K
        clear hpp hpq
        refine upto_take (i := 18) (d := some 23) (v := ?_) rfl rfl (by kernel_rfl) (by kernel_rfl) (by kernel_rfl) (by kernel_rfl) (fun _ _ _ h => h) (Or.inl ⟨by rfl, ?_⟩) hS ?_
        rotate_left
        · (intro wS hSw; obtain ⟨_, _, _, _, _, _, _, _, _, _⟩ := hSw; go_simp; try with_reducible rfl)
        try simp only [Act.put, List.setIfInBounds_toArray, List.set_cons_zero, List.set_cons_succ]
        refine upto_take (i := 19) (d := some 24) (v := ?_) rfl rfl (by kernel_rfl) (by kernel_rfl) (by kernel_rfl) (by kernel_rfl) (fun _ _ _ h => h) (Or.inl ⟨by rfl, ?_⟩) hS ?_
        rotate_left
        · (intro wS hSw; obtain ⟨_, _, _, _, _, _, _, _, _, _⟩ := hSw; go_simp; try with_reducible rfl)
        try simp only [Act.put, List.setIfInBounds_toArray, List.set_cons_zero, List.set_cons_succ]
        clear hS
        refine upto_one (i := 20) (by kernel_rfl) rfl (fun K hK => ?_)
        go_simp
        refine (specFormValid_any B t _ w2 (by omega) (InV.later (same_below (HB2.out.mono hB)) _ _ HV2.out) (by omega)).mono ?_
        rintro e w3 ⟨rfl, hb3⟩
        have hs3 := hb3.size
        have HB3 : Hid (Below w.heap.size w w3) := HB2.out.trans (hb3.mono (by omega))
        have HS3 : Hid (RlBox w3 w.heap.size p t s1 t1 k1 l1 s2 t2 k2 l2) := HS2.out.later hb3
        have hS := HS3.out
        refine hK.out _ _ (.inr hS) ?_
        clear hK K hb3
        cases h4 : formB t with
        | false =>
          have HF : Hid (ruleB p t ls = false) := by unfold Hid ruleB; rw [h4]; simp
          clear hS
          refine upto_one (i := 21) (by kernel_rfl) rfl (fun K hK => ?_)
          go_simp
          have hS := HS3.out
          refine hK.out _ _ (.inr hS) ?_
          clear hK K
          clear hS
          refine upto_one (i := 22) (by kernel_rfl) rfl (fun K hK => ?_)
          go_simp
          have hS := HS3.out
          refine hK.out _ _ (.inr hS) ?_
          clear hK K
          refine upto_take (i := 23) (d := some 28) (v := undef) rfl rfl (by kernel_rfl) (by kernel_rfl) (by kernel_rfl) (by kernel_rfl) (fun _ _ _ h => h) (Or.inr ⟨by rfl, rfl⟩) hS ?_
          try simp only [Act.put, List.setIfInBounds_toArray, List.set_cons_zero, List.set_cons_succ]
          refine upto_take (i := 24) (d := some 29) (v := undef) rfl rfl (by kernel_rfl) (by kernel_rfl) (by kernel_rfl) (by kernel_rfl) (fun _ _ _ h => h) (Or.inr ⟨by rfl, rfl⟩) hS ?_
          try simp only [Act.put, List.setIfInBounds_toArray, List.set_cons_zero, List.set_cons_succ]
          refine upto_take (i := 25) (d := some 30) (v := undef) rfl rfl (by kernel_rfl) (by kernel_rfl) (by kernel_rfl) (by kernel_rfl) (fun _ _ _ h => h) (Or.inr ⟨by rfl, rfl⟩) hS ?_
          try simp only [Act.put, List.setIfInBounds_toArray, List.set_cons_zero, List.set_cons_succ]
          refine upto_take (i := 26) (d := some 31) (v := undef) rfl rfl (by kernel_rfl) (by kernel_rfl) (by kernel_rfl) (by kernel_rfl) (fun _ _ _ h => h) (Or.inr ⟨by rfl, rfl⟩) hS ?_
          try simp only [Act.put, List.setIfInBounds_toArray, List.set_cons_zero, List.set_cons_succ]
          refine upto_take (i := 27) (d := some 32) (v := undef) rfl rfl (by kernel_rfl) (by kernel_rfl) (by kernel_rfl) (by kernel_rfl) (fun _ _ _ h => h) (Or.inr ⟨by rfl, rfl⟩) hS ?_
          try simp only [Act.put, List.setIfInBounds_toArray, List.set_cons_zero, List.set_cons_succ]
          refine upto_take (i := 28) (d := some 33) (v := undef) rfl rfl (by kernel_rfl) (by kernel_rfl) (by kernel_rfl) (by kernel_rfl) (fun _ _ _ h => h) (Or.inr ⟨by rfl, rfl⟩) hS ?_
          try simp only [Act.put, List.setIfInBounds_toArray, List.set_cons_zero, List.set_cons_succ]
          refine upto_take (i := 29) (d := some 34) (v := undef) rfl rfl (by kernel_rfl) (by kernel_rfl) (by kernel_rfl) (by kernel_rfl) (fun _ _ _ h => h) (Or.inr ⟨by rfl, rfl⟩) hS ?_
          try simp only [Act.put, List.setIfInBounds_toArray, List.set_cons_zero, List.set_cons_succ]
          clear hS
          refine upto_one (i := 30) (by kernel_rfl) rfl (fun K hK => ?_)
          go_simp
          have hS := HS3.out
          refine hK.out _ _ (.inr hS) ?_
          clear hK K
          clear hS
          refine upto_one (i := 31) (by kernel_rfl) rfl (fun K hK => ?_)
          go_simp
          have hS := HS3.out
          refine hK.out _ _ (.inr hS) ?_
          clear hK K
          clear hS
          refine upto_done (by kernel_rfl) ?_ _
          go_wp2_with fail
          go_ret
          exact ⟨ret_bool HF.out.symm, HB3.out⟩
        | true =>
          have H4 := Lib.hid h4
          clear h4
          clear hS
          refine upto_one (i := 21) (by kernel_rfl) rfl (fun K hK => ?_)
          go_simp
          have hS := HS3.out
          refine hK.out _ _ (.inr hS) ?_
          clear hK K
          clear hS
          refine upto_one (i := 22) (by kernel_rfl) rfl (fun K hK => ?_)
          go_simp
          have hS := HS3.out
          refine hK.out _ _ (.inr hS) ?_
          clear hK K
          refine upto_take (i := 23) (d := some 28) (v := ?_) rfl rfl (by kernel_rfl) (by kernel_rfl) (by kernel_rfl) (by kernel_rfl) (fun _ _ _ h => h) (Or.inl ⟨by rfl, ?_⟩) hS ?_
          rotate_left
          · (intro wS hSw; obtain ⟨_, _, _, _, _, _, _, _, _, _⟩ := hSw; go_simp; try with_reducible rfl)
          try simp only [Act.put, List.setIfInBounds_toArray, List.set_cons_zero, List.set_cons_succ]
          refine upto_take (i := 24) (d := some 29) (v := ?_) rfl rfl (by kernel_rfl) (by kernel_rfl) (by kernel_rfl) (by kernel_rfl) (fun _ _ _ h => h) (Or.inl ⟨by rfl, ?_⟩) hS ?_
          rotate_left
          · (intro wS hSw; obtain ⟨_, _, _, _, _, _, _, _, _, _⟩ := hSw; go_simp; try with_reducible rfl)
          try simp only [Act.put, List.setIfInBounds_toArray, List.set_cons_zero, List.set_cons_succ]
          refine upto_take (i := 25) (d := some 30) (v := ?_) rfl rfl (by kernel_rfl) (by kernel_rfl) (by kernel_rfl) (by kernel_rfl) (fun _ _ _ h => h) (Or.inl ⟨by rfl, ?_⟩) hS ?_
          rotate_left
          · (intro wS hSw; obtain ⟨_, _, _, _, _, _, _, _, _, _⟩ := hSw; go_simp; try with_reducible rfl)
          try simp only [Act.put, List.setIfInBounds_toArray, List.set_cons_zero, List.set_cons_succ]
          refine upto_take (i := 26) (d := some 31) (v := ?_) rfl rfl (by kernel_rfl) (by kernel_rfl) (by kernel_rfl) (by kernel_rfl) (fun _ _ _ h => h) (Or.inl ⟨by rfl, ?_⟩) hS ?_
          rotate_left
          · (intro wS hSw; obtain ⟨_, _, _, _, _, _, _, _, _, _⟩ := hSw; go_simp; try with_reducible rfl)
          try simp only [Act.put, List.setIfInBounds_toArray, List.set_cons_zero, List.set_cons_succ]
          refine upto_take (i := 27) (d := some 32) (v := ?_) rfl rfl (by kernel_rfl) (by kernel_rfl) (by kernel_rfl) (by kernel_rfl) (fun _ _ _ h => h) (Or.inl ⟨by rfl, ?_⟩) hS ?_
          rotate_left
          · (intro wS hSw; obtain ⟨_, _, _, _, _, _, _, _, _, _⟩ := hSw; go_simp; try with_reducible rfl)
          try simp only [Act.put, List.setIfInBounds_toArray, List.set_cons_zero, List.set_cons_succ]
          clear hS
          refine upto_one (i := 28) (by kernel_rfl) rfl (fun K hK => ?_)
          go_simp
          refine (l5Shape_any B p ls la lcap _ w3 (by omega) (HL.out.later (same_below (HB3.out.mono hB))) (InV.later (same_below (HB3.out.mono hB)) _ _ HV1.out) (by omega) HDP.out).mono ?_
          rintro e w4 ⟨sa', sc', rfl, hits, hb4⟩
          have hs4 := hb4.size
          have HB4 : Hid (Below w.heap.size w w4) := HB3.out.trans (hb4.mono (by omega))
          have HS4 : Hid (RlBox w4 w.heap.size p t s1 t1 k1 l1 s2 t2 k2 l2) := HS3.out.later hb4
          have hS := HS4.out
          refine hK.out _ _ (.inr hS) ?_
          clear hK K
          have hsl : (shapeH oneS (varsF ls p) (depF ls p 0)).length = (varsF ls p).length := shapeH_length _ _ _ (depF_length ls p 0)
          have HITS := Lib.hid hits
          have HSL := Lib.hid hsl
          have HLN : Hid ((shapeH oneS (varsF ls p) (depF ls p 0)).length ≤ 1048576) := by have h := pattern_few H1.out; unfold Hid; rw [hsl]; omega
          rw [← HSL.out]
          clear hits hb4 hsl
          clear hS
          refine upto_one (i := 29) (by kernel_rfl) rfl (fun K hK => ?_)
          go_simp
          refine (l5Is_any t (shapeH oneS (varsF ls p) (depF ls p 0)) w4.heap.size sa' sc' _ w4 (Nat.le_refl _) HITS.out (InV.mono (fun k (hk : k < B) => by show k < w4.heap.size; omega) _ _ (InV.later (same_below (HB4.out.mono hB)) _ _ HV2.out)) HLN.out).mono ?_
          rintro e w5 ⟨rfl, hb5⟩
          have hs5 := hb5.size
          have HB5 : Hid (Below w.heap.size w w5) := HB4.out.trans (hb5.mono (by omega))
          have HS5 : Hid (RlBox w5 w.heap.size p t s1 t1 k1 l1 s2 t2 k2 l2) := HS4.out.later hb5
          have hS := HS5.out
          refine hK.out _ _ (.inr hS) ?_
          clear hK K hb5
          obtain ⟨q5, h5⟩ : ∃ q5, tmplB t (shapeH oneS (varsF ls p) (depF ls p 0)) = q5 := ⟨_, rfl⟩
          rw [h5]
          have H5 := Lib.hid h5
          clear h5
          cases q5 with
          | false =>
            have HF : Hid (ruleB p t ls = false) := by unfold Hid ruleB; rw [H5.out]; simp
            clear hS
            refine upto_one (i := 30) (by kernel_rfl) rfl (fun K hK => ?_)
            go_simp
            have hS := HS5.out
            refine hK.out _ _ (.inr hS) ?_
            clear hK K
            clear hS
            refine upto_one (i := 31) (by kernel_rfl) rfl (fun K hK => ?_)
            go_simp
            have hS := HS5.out
            refine hK.out _ _ (.inr hS) ?_
            clear hK K
            clear hS
            refine upto_done (by kernel_rfl) ?_ _
            go_wp2_with fail
            go_ret
            exact ⟨ret_bool HF.out.symm, HB5.out⟩
          | true =>
            have HF : Hid (ruleB p t ls = true) := by unfold Hid ruleB; rw [H1.out, decide_eq_true HK.out, decide_eq_true HP.out, H4.out, H5.out]; rfl
            clear hS
            refine upto_one (i := 30) (by kernel_rfl) rfl (fun K hK => ?_)
            go_simp
            have hS := HS5.out
            refine hK.out _ _ (.inr hS) ?_
            clear hK K
            clear hS
            refine upto_one (i := 31) (by kernel_rfl) rfl (fun K hK => ?_)
            go_simp
            have hS := HS5.out
            refine hK.out _ _ (.inr hS) ?_
            clear hK K
            clear hS
            refine upto_done (by kernel_rfl) ?_ _
            go_wp2_with fail
            go_ret
            exact ⟨ret_bool HF.out.symm, HB5.out⟩
      · have hpp : decide ((0 : Int) < (p.kids.length : Int)) = false := by rw [decide_eq_false_iff_not]; omega
        have hpq : decide (0 < p.kids.length) = false := decide_eq_false hp3
        have HF : Hid (ruleB p t ls = false) := by unfold Hid ruleB; rw [decide_eq_false hp3]; simp
        clear hp3
        clear hS
        refine upto_one (i := 10) (by kernel_rfl) rfl (fun K hK => ?_)
        go_simp
        have hS := HS2.out
        refine hK.out _ _ (.inr hS) ?_
        clear hK K
        refine upto_take (i := 11) (d := some 16) (v := ?_) rfl rfl (by kernel_rfl) (by kernel_rfl) (by kernel_rfl) (by kernel_rfl) (fun _ _ _ h => h) (Or.inl ⟨by rfl, ?_⟩) hS ?_
        rotate_left
        · (intro wS hSw; obtain ⟨_, _, _, _, _, _, _, _, _, _⟩ := hSw; go_simp; try with_reducible rfl)
        try simp only [Act.put, List.setIfInBounds_toArray, List.set_cons_zero, List.set_cons_succ]
        refine upto_take (i := 12) (d := some 17) (v := ?_) rfl rfl (by kernel_rfl) (by kernel_rfl) (by kernel_rfl) (by kernel_rfl) (fun _ _ _ h => h) (Or.inl ⟨by rfl, ?_⟩) hS ?_
        rotate_left
        · (intro wS hSw; obtain ⟨_, _, _, _, _, _, _, _, _, _⟩ := hSw; go_simp; try with_reducible rfl)
        try simp only [Act.put, List.setIfInBounds_toArray, List.set_cons_zero, List.set_cons_succ]
        refine upto_take (i := 13) (d := some 18) (v := ?_) rfl rfl (by kernel_rfl) (by kernel_rfl) (by kernel_rfl) (by kernel_rfl) (fun _ _ _ h => h) (Or.inl ⟨by rfl, ?_⟩) hS ?_
        rotate_left
        · (intro wS hSw; obtain ⟨_, _, _, _, _, _, _, _, _, _⟩ := hSw; go_simp; try with_reducible rfl)
        try simp only [Act.put, List.setIfInBounds_toArray, List.set_cons_zero, List.set_cons_succ]
        refine upto_take (i := 14) (d := some 19) (v := ?_) rfl rfl (by kernel_rfl) (by kernel_rfl) (by kernel_rfl) (by kernel_rfl) (fun _ _ _ h => h) (Or.inl ⟨by rfl, ?_⟩) hS ?_
        rotate_left
        · (intro wS hSw; obtain ⟨_, _, _, _, _, _, _, _, _, _⟩ := hSw; go_simp; try with_reducible rfl)
        try simp only [Act.put, List.setIfInBounds_toArray, List.set_cons_zero, List.set_cons_succ]
        refine upto_take (i := 15) (d := some 20) (v := ?_) rfl rfl (by kernel_rfl) (by kernel_rfl) (by kernel_rfl) (by kernel_rfl) (fun _ _ _ h => h) (Or.inl ⟨by rfl, ?_⟩) hS ?_
        rotate_left
        · (intro wS hSw; obtain ⟨_, _, _, _, _, _, _, _, _, _⟩ := hSw; go_simp; try with_reducible rfl)
        try simp only [Act.put, List.setIfInBounds_toArray, List.set_cons_zero, List.set_cons_succ]
        clear hS
        refine upto_one (i := 16) (by kernel_rfl) rfl (fun K hK => ?_)
        go_simp
        have hS := HS2.out
        refine hK.out _ _ (.inr hS) ?_
        clear hK K
        clear hS
        refine upto_one (i := 17) (by kernel_rfl) rfl (fun K hK => ?_)
        go_simp
        have hS := HS2.out
        refine hK.out _ _ (.inr hS) ?_
        clear hK K
        refine upto_take (i := 18) (d := some 23) (v := undef) rfl rfl (by kernel_rfl) (by kernel_rfl) (by kernel_rfl) (by kernel_rfl) (fun _ _ _ h => h) (Or.inr ⟨by rfl, rfl⟩) hS ?_
        try simp only [Act.put, List.setIfInBounds_toArray, List.set_cons_zero, List.set_cons_succ]
        refine upto_take (i := 19) (d := some 24) (v := undef) rfl rfl (by kernel_rfl) (by kernel_rfl) (by kernel_rfl) (by kernel_rfl) (fun _ _ _ h => h) (Or.inr ⟨by rfl, rfl⟩) hS ?_
        try simp only [Act.put, List.setIfInBounds_toArray, List.set_cons_zero, List.set_cons_succ]
        refine upto_take (i := 20) (d := some 25) (v := undef) rfl rfl (by kernel_rfl) (by kernel_rfl) (by kernel_rfl) (by kernel_rfl) (fun _ _ _ h => h) (Or.inr ⟨by rfl, rfl⟩) hS ?_
        try simp only [Act.put, List.setIfInBounds_toArray, List.set_cons_zero, List.set_cons_succ]
        clear hS
        refine upto_one (i := 21) (by kernel_rfl) rfl (fun K hK => ?_)
        go_simp
        have hS := HS2.out
        refine hK.out _ _ (.inr hS) ?_
        clear hK K
        clear hS
        refine upto_one (i := 22) (by kernel_rfl) rfl (fun K hK => ?_)
        go_simp
        have hS := HS2.out
        refine hK.out _ _ (.inr hS) ?_
        clear hK K
        refine upto_take (i := 23) (d := some 28) (v := undef) rfl rfl (by kernel_rfl) (by kernel_rfl) (by kernel_rfl) (by kernel_rfl) (fun _ _ _ h => h) (Or.inr ⟨by rfl, rfl⟩) hS ?_
        try simp only [Act.put, List.setIfInBounds_toArray, List.set_cons_zero, List.set_cons_succ]
        refine upto_take (i := 24) (d := some 29) (v := undef) rfl rfl (by kernel_rfl) (by kernel_rfl) (by kernel_rfl) (by kernel_rfl) (fun _ _ _ h => h) (Or.inr ⟨by rfl, rfl⟩) hS ?_
        try simp only [Act.put, List.setIfInBounds_toArray, List.set_cons_zero, List.set_cons_succ]
        refine upto_take (i := 25) (d := some 30) (v := undef) rfl rfl (by kernel_rfl) (by kernel_rfl) (by kernel_rfl) (by kernel_rfl) (fun _ _ _ h => h) (Or.inr ⟨by rfl, rfl⟩) hS ?_
        try simp only [Act.put, List.setIfInBounds_toArray, List.set_cons_zero, List.set_cons_succ]
        refine upto_take (i := 26) (d := some 31) (v := undef) rfl rfl (by kernel_rfl) (by kernel_rfl) (by kernel_rfl) (by kernel_rfl) (fun _ _ _ h => h) (Or.inr ⟨by rfl, rfl⟩) hS ?_
        try simp only [Act.put, List.setIfInBounds_toArray, List.set_cons_zero, List.set_cons_succ]
        refine upto_take (i := 27) (d := some 32) (v := undef) rfl rfl (by kernel_rfl) (by kernel_rfl) (by kernel_rfl) (by kernel_rfl) (fun _ _ _ h => h) (Or.inr ⟨by rfl, rfl⟩) hS ?_
        try simp only [Act.put, List.setIfInBounds_toArray, List.set_cons_zero, List.set_cons_succ]
        refine upto_take (i := 28) (d := some 33) (v := undef) rfl rfl (by kernel_rfl) (by kernel_rfl) (by kernel_rfl) (by kernel_rfl) (fun _ _ _ h => h) (Or.inr ⟨by rfl, rfl⟩) hS ?_
        try simp only [Act.put, List.setIfInBounds_toArray, List.set_cons_zero, List.set_cons_succ]
        refine upto_take (i := 29) (d := some 34) (v := undef) rfl rfl (by kernel_rfl) (by kernel_rfl) (by kernel_rfl) (by kernel_rfl) (fun _ _ _ h => h) (Or.inr ⟨by rfl, rfl⟩) hS ?_
        try simp only [Act.put, List.setIfInBounds_toArray, List.set_cons_zero, List.set_cons_succ]
        clear hS
        refine upto_one (i := 30) (by kernel_rfl) rfl (fun K hK => ?_)
        go_simp
        have hS := HS2.out
        refine hK.out _ _ (.inr hS) ?_
        clear hK K
        clear hS
        refine upto_one (i := 31) (by kernel_rfl) rfl (fun K hK => ?_)
        go_simp
        have hS := HS2.out
        refine hK.out _ _ (.inr hS) ?_
        clear hK K
        clear hS
        refine upto_done (by kernel_rfl) ?_ _
        go_wp2_with fail
        go_ret
        exact ⟨ret_bool HF.out.symm, HB2.out⟩
    · have hkk : (p.kind == 3) = false := by simp [hk3]
      have HF : Hid (ruleB p t ls = false) := by unfold Hid ruleB; rw [decide_eq_false hk3]; simp
      clear hk3
      clear hS
      refine upto_one (i := 4) (by kernel_rfl) rfl (fun K hK => ?_)
      go_simp
      have hS := HS2.out
      refine hK.out _ _ (.inr hS) ?_
      clear hK K
      refine upto_take (i := 5) (d := some 10) (v := ?_) rfl rfl (by kernel_rfl) (by kernel_rfl) (by kernel_rfl) (by kernel_rfl) (fun _ _ _ h => h) (Or.inl ⟨by rfl, ?_⟩) hS ?_
      rotate_left
      · (intro wS hSw; obtain ⟨_, _, _, _, _, _, _, _, _, _⟩ := hSw; go_simp; try with_reducible rfl)
      try simp only [Act.put, List.setIfInBounds_toArray, List.set_cons_zero, List.set_cons_succ]
      refine upto_take (i := 6) (d := some 11) (v := ?_) rfl rfl (by kernel_rfl) (by kernel_rfl) (by kernel_rfl) (by kernel_rfl) (fun _ _ _ h => h) (Or.inl ⟨by rfl, ?_⟩) hS ?_
      rotate_left
      · (intro wS hSw; obtain ⟨_, _, _, _, _, _, _, _, _, _⟩ := hSw; go_simp; try with_reducible rfl)
      try simp only [Act.put, List.setIfInBounds_toArray, List.set_cons_zero, List.set_cons_succ]
      refine upto_take (i := 7) (d := some 12) (v := ?_) rfl rfl (by kernel_rfl) (by kernel_rfl) (by kernel_rfl) (by kernel_rfl) (fun _ _ _ h => h) (Or.inl ⟨by rfl, ?_⟩) hS ?_
      rotate_left
      · (intro wS hSw; obtain ⟨_, _, _, _, _, _, _, _, _, _⟩ := hSw; go_simp; try with_reducible rfl)
      try simp only [Act.put, List.setIfInBounds_toArray, List.set_cons_zero, List.set_cons_succ]
      refine upto_take (i := 8) (d := some 13) (v := ?_) rfl rfl (by kernel_rfl) (by kernel_rfl) (by kernel_rfl) (by kernel_rfl) (fun _ _ _ h => h) (Or.inl ⟨by rfl, ?_⟩) hS ?_
      rotate_left
      · (intro wS hSw; obtain ⟨_, _, _, _, _, _, _, _, _, _⟩ := hSw; go_simp; try with_reducible rfl)
      try simp only [Act.put, List.setIfInBounds_toArray, List.set_cons_zero, List.set_cons_succ]
      clear hS
      refine upto_one (i := 9) (by kernel_rfl) rfl (fun K hK => ?_)
      go_simp
      have hS := HS2.out
      refine hK.out _ _ (.inr hS) ?_
      clear hK K
      clear hS
      refine upto_one (i := 10) (by kernel_rfl) rfl (fun K hK => ?_)
      go_simp
      have hS := HS2.out
      refine hK.out _ _ (.inr hS) ?_
      clear hK K
      refine upto_take (i := 11) (d := some 16) (v := undef) rfl rfl (by kernel_rfl) (by kernel_rfl) (by kernel_rfl) (by kernel_rfl) (fun _ _ _ h => h) (Or.inr ⟨by rfl, rfl⟩) hS ?_
      try simp only [Act.put, List.setIfInBounds_toArray, List.set_cons_zero, List.set_cons_succ]
      refine upto_take (i := 12) (d := some 17) (v := undef) rfl rfl (by kernel_rfl) (by kernel_rfl) (by kernel_rfl) (by kernel_rfl) (fun _ _ _ h => h) (Or.inr ⟨by rfl, rfl⟩) hS ?_
      try simp only [Act.put, List.setIfInBounds_toArray, List.set_cons_zero, List.set_cons_succ]
      refine upto_take (i := 13) (d := some 18) (v := undef) rfl rfl (by kernel_rfl) (by kernel_rfl) (by kernel_rfl) (by kernel_rfl) (fun _ _ _ h => h) (Or.inr ⟨by rfl, rfl⟩) hS ?_
      try simp only [Act.put, List.setIfInBounds_toArray, List.set_cons_zero, List.set_cons_succ]
      refine upto_take (i := 14) (d := some 19) (v := undef) rfl rfl (by kernel_rfl) (by kernel_rfl) (by kernel_rfl) (by kernel_rfl) (fun _ _ _ h => h) (Or.inr ⟨by rfl, rfl⟩) hS ?_
      try simp only [Act.put, List.setIfInBounds_toArray, List.set_cons_zero, List.set_cons_succ]
      refine upto_take (i := 15) (d := some 20) (v := undef) rfl rfl (by kernel_rfl) (by kernel_rfl) (by kernel_rfl) (by kernel_rfl) (fun _ _ _ h => h) (Or.inr ⟨by rfl, rfl⟩) hS ?_
      try simp only [Act.put, List.setIfInBounds_toArray, List.set_cons_zero, List.set_cons_succ]
      clear hS
      refine upto_one (i := 16) (by kernel_rfl) rfl (fun K hK => ?_)
      go_simp
      have hS := HS2.out
      refine hK.out _ _ (.inr hS) ?_
      clear hK K
      clear hS
      refine upto_one (i := 17) (by kernel_rfl) rfl (fun K hK => ?_)
      go_simp
      have hS := HS2.out
      refine hK.out _ _ (.inr hS) ?_
      clear hK K
      refine upto_take (i := 18) (d := some 23) (v := undef) rfl rfl (by kernel_rfl) (by kernel_rfl) (by kernel_rfl) (by kernel_rfl) (fun _ _ _ h => h) (Or.inr ⟨by rfl, rfl⟩) hS ?_
      try simp only [Act.put, List.setIfInBounds_toArray, List.set_cons_zero, List.set_cons_succ]
      refine upto_take (i := 19) (d := some 24) (v := undef) rfl rfl (by kernel_rfl) (by kernel_rfl) (by kernel_rfl) (by kernel_rfl) (fun _ _ _ h => h) (Or.inr ⟨by rfl, rfl⟩) hS ?_
      try simp only [Act.put, List.setIfInBounds_toArray, List.set_cons_zero, List.set_cons_succ]
      refine upto_take (i := 20) (d := some 25) (v := undef) rfl rfl (by kernel_rfl) (by kernel_rfl) (by kernel_rfl) (by kernel_rfl) (fun _ _ _ h => h) (Or.inr ⟨by rfl, rfl⟩) hS ?_
      try simp only [Act.put, List.setIfInBounds_toArray, List.set_cons_zero, List.set_cons_succ]
      clear hS
      refine upto_one (i := 21) (by kernel_rfl) rfl (fun K hK => ?_)
      go_simp
      have hS := HS2.out
      refine hK.out _ _ (.inr hS) ?_
      clear hK K
      clear hS
      refine upto_one (i := 22) (by kernel_rfl) rfl (fun K hK => ?_)
      go_simp
      have hS := HS2.out
      refine hK.out _ _ (.inr hS) ?_
      clear hK K
      refine upto_take (i := 23) (d := some 28) (v := undef) rfl rfl (by kernel_rfl) (by kernel_rfl) (by kernel_rfl) (by kernel_rfl) (fun _ _ _ h => h) (Or.inr ⟨by rfl, rfl⟩) hS ?_
      try simp only [Act.put, List.setIfInBounds_toArray, List.set_cons_zero, List.set_cons_succ]
      refine upto_take (i := 24) (d := some 29) (v := undef) rfl rfl (by kernel_rfl) (by kernel_rfl) (by kernel_rfl) (by kernel_rfl) (fun _ _ _ h => h) (Or.inr ⟨by rfl, rfl⟩) hS ?_
      try simp only [Act.put, List.setIfInBounds_toArray, List.set_cons_zero, List.set_cons_succ]
      refine upto_take (i := 25) (d := some 30) (v := undef) rfl rfl (by kernel_rfl) (by kernel_rfl) (by kernel_rfl) (by kernel_rfl) (fun _ _ _ h => h) (Or.inr ⟨by rfl, rfl⟩) hS ?_
      try simp only [Act.put, List.setIfInBounds_toArray, List.set_cons_zero, List.set_cons_succ]
      refine upto_take (i := 26) (d := some 31) (v := undef) rfl rfl (by kernel_rfl) (by kernel_rfl) (by kernel_rfl) (by kernel_rfl) (fun _ _ _ h => h) (Or.inr ⟨by rfl, rfl⟩) hS ?_
      try simp only [Act.put, List.setIfInBounds_toArray, List.set_cons_zero, List.set_cons_succ]
      refine upto_take (i := 27) (d := some 32) (v := undef) rfl rfl (by kernel_rfl) (by kernel_rfl) (by kernel_rfl) (by kernel_rfl) (fun _ _ _ h => h) (Or.inr ⟨by rfl, rfl⟩) hS ?_
      try simp only [Act.put, List.setIfInBounds_toArray, List.set_cons_zero, List.set_cons_succ]
      refine upto_take (i := 28) (d := some 33) (v := undef) rfl rfl (by kernel_rfl) (by kernel_rfl) (by kernel_rfl) (by kernel_rfl) (fun _ _ _ h => h) (Or.inr ⟨by rfl, rfl⟩) hS ?_
      try simp only [Act.put, List.setIfInBounds_toArray, List.set_cons_zero, List.set_cons_succ]
      refine upto_take (i := 29) (d := some 34) (v := undef) rfl rfl (by kernel_rfl) (by kernel_rfl) (by kernel_rfl) (by kernel_rfl) (fun _ _ _ h => h) (Or.inr ⟨by rfl, rfl⟩) hS ?_
      try simp only [Act.put, List.setIfInBounds_toArray, List.set_cons_zero, List.set_cons_succ]
      clear hS
      refine upto_one (i := 30) (by kernel_rfl) rfl (fun K hK => ?_)
      go_simp
      have hS := HS2.out
      refine hK.out _ _ (.inr hS) ?_
      clear hK K
      clear hS
      refine upto_one (i := 31) (by kernel_rfl) rfl (fun K hK => ?_)
      go_simp
      have hS := HS2.out
      refine hK.out _ _ (.inr hS) ?_
      clear hK K
      clear hS
      refine upto_done (by kernel_rfl) ?_ _
      go_wp2_with fail
      go_ret
      exact ⟨ret_bool HF.out.symm, HB2.out⟩
set_option maxRecDepth 100000 in
set_option maxHeartbeats 1000000 in
theorem specRuleValid_any (B : Nat) (p t : Fm) (ls : List Fm) (la : Option Addr) (lcap : Nat) (v : Value) (w : World) (hB : B ≤ w.heap.size) (hl : FormsIn (· < B) w la lcap ls) (hv : RlIn (· < B) w p t v) (hcn : ∀ g ∈ ls, g.count ≤ 1048577) (hcp : p.count ≤ 1048577) (hct : t.count ≤ 1048577) :
    Calls Try.prog 17 #[v, .slice la ls.length lcap] w fun e w' => e = .returned (.bool (ruleB p t ls)) ∧ Below w.heap.size w w' := by
  have HV := Lib.hid hv
  have HL := Lib.hid hl
  have HCN := Lib.hid hcn
  obtain ⟨s1, t1, k1, l1, s2, t2, k2, l2, rfl, _⟩ := hv
  clear hl hcn
  have HB0 := Lib.hid (below_alloc w (.cells #[.int .i64 p.kind, .string p.name, .int .i64 p.n, .slice s1 p.scopes.length t1, .slice k1 p.kids.length l1, .int .i64 t.kind, .string t.name, .int .i64 t.n, .slice s2 t.scopes.length t2, .slice k2 t.kids.length l2] 35))
  go_enter Try.func17, Try.ntmps17
  go_wp2_with fail
  refine (l5Rule_any B p t ls la lcap _ _ (by simp; omega) (HL.out.later (same_below (HB0.out.mono hB))) (RlIn.later (same_below (HB0.out.mono hB)) HV.out) HCN.out hcp hct).mono ?_
  rintro e w1 ⟨rfl, hb1⟩
  have HB1 : Hid (Below w.heap.size w w1) := HB0.out.trans (hb1.mono (by simp))
  clear hb1
  go_wp2_with fail
  go_ret
  exact ⟨rfl, HB1.out⟩
end
end
end Go.Proofs.Ytnogpaflibghhaa
namespace Go.Proofs.Ytnogpaflibghhaa
section
section
open Go.RowKit
set_option linter.unusedVariables false
set_option linter.unusedSimpArgs false
theorem formsIn_items2 {φ : Nat → Prop} {w : World} {base : Nat} {T : TypeId} {a : Option Addr} {cap : Nat} {its : List Item} (h : w.ownsRow base T 5 (.slice a its.length cap) its.length (rowOf its)) (hi : ∀ y ∈ its, InV φ w y.f y.val) (hφ : ∀ k, base ≤ k → k < w.heap.size → Plain w k → φ k) :
    FormsIn φ w a cap (its.map (·.f)) := by
  unfold FormsIn
  rw [List.length_map]
  rcases h.2 with ⟨h1, h2⟩ | ⟨g, cap', cur, h1, hb, hg, hn, hm, hs, hx⟩
  · injection h1 with e1 e2 e3
    subst e3
    refine ⟨by omega, Nat.zero_le _, .inl ?_⟩
    rw [List.eq_nil_of_length_eq_zero h2]
    rfl
  · injection h1 with e1 e2 e3
    subst e1 e3
    refine ⟨hn, hm, ?_⟩
    have hl : g < w.heap.size := (Array.getElem?_eq_some_iff.1 hg).1
    refine .inr ⟨g, 0, rfl, hφ g hb hl ⟨_, _, hg⟩, rowIn_items (fun j u hj => ?_) hi⟩
    rw [Nat.zero_add, cell_of_row w g j _ _ _ hg]
    have hjl : j < its.length * 5 := by have := (List.getElem?_eq_some_iff.1 hj).1; rw [rowOf_length] at this; exact this
    rw [← hx, List.getElem?_take_of_lt hjl] at hj
    simpa using hj
theorem kind_kids {f : Fm} (h : formB f = true) (hk : 0 < f.kids.length) : f.kind = 3 := by
  have h1 := formB_isB h
  cases f with
  | mk k nm n sc ks =>
    unfold isB at h1
    simp only [Fm.kids, Fm.kind] at hk ⊢
    split at h1
    · simp only [Bool.and_eq_true, List.isEmpty_iff] at h1; rw [h1.2] at hk; simp at hk
    · split at h1
      · simp only [Bool.and_eq_true, List.isEmpty_iff] at h1; rw [h1.2] at hk; simp at hk
      · simp only [Bool.and_eq_true, beq_iff_eq] at h1; exact h1.1.1.1.1
theorem name_sz {g : Fm} (h : isNameB g = true) : g.sz ≤ 36 := by
  unfold isNameB at h
  rw [Bool.and_eq_true, beq_iff_eq] at h
  have h1 := formB_isB h.2
  cases g with
  | mk k nm n sc ks =>
    obtain ⟨hs, _, _⟩ := isB_node h1
    have hl := scopes_length hs
    unfold isB at h1
    rw [if_pos (show k = 1 from h.1)] at h1
    simp only [Bool.and_eq_true, List.isEmpty_iff] at h1
    have hn : nm.size ≤ 12 := by
      have h2 := h1.1.1.1
      have e : nm.size = nm.data.toList.length := by rw [Array.length_toList]; rfl
      unfold nameB at h2
      simp only [Bool.or_eq_true, Bool.and_eq_true, beq_iff_eq, decide_eq_true_eq] at h2
      rw [e]
      rcases h2 with (h2 | h2) | h2
      · rw [h2]; decide
      · rw [h2]; decide
      · exact h2.1.2
    rw [h1.2, Fm.sz]
    simp only [szAll]
    omega
theorem shape_sz : ∀ (vs : List Fm) (ds : List Int), (∀ g ∈ vs, g.sz ≤ 36) → szHs (shapeH oneI vs ds) ≤ 37 * vs.length
  | [], _, _ => by simp [shapeH, szHs]
  | _ :: _, [], _ => by simp [shapeH, szHs]
  | v :: vs, d :: ds, h => by
    have h1 := h v (by simp)
    have h2 := shape_sz vs ds fun g hg => h g (by simp [hg])
    have h3 : (oneI v d).sz = 0 := by unfold oneI zeroForm; rw [Fm.sz]; rfl
    simp only [shapeH, szHs, Ht.sz, List.length_cons]
    omega
theorem shape_nm {vs : List Fm} {ds : List Int} (h : ∀ g ∈ vs, isNameB g = true) : ∀ x ∈ shapeH oneI vs ds, isNameB x.name = true := by
  induction vs generalizing ds with
  | nil => intro x hx; simp [shapeH] at hx
  | cons v vs ih =>
    cases ds with
    | nil => intro x hx; simp [shapeH] at hx
    | cons d ds =>
      intro x hx
      simp only [shapeH, List.mem_cons] at hx
      rcases hx with rfl | hx
      · exact h v (by simp)
      · exact ih (fun g hg => h g (by simp [hg])) x hx
set_option maxRecDepth 100000 in
set_option maxHeartbeats 16000000 in
theorem implRuleValid_any (p t : Fm) (ls : List Fm) (la : Option Addr) (lcap : Nat) (v : Value) (w : World) (hl : FormsIn (· < w.heap.size) w la lcap ls) (hv : RlIn (Pl w.heap.size w) w p t v) (hcp : p.count ≤ 1048577) :
    Calls Try.prog 20 #[v, .slice la ls.length lcap] w fun e w' => e = .returned (.bool (ruleB p t ls)) ∧ Below w.heap.size w w' := by
  obtain ⟨s1, t1, k1, l1, s2, t2, k2, l2, rfl, hv1, hv2⟩ := hv
  have HL := Lib.hid hl
  have HP1 := Lib.hid hv1
  have HT2 := Lib.hid hv2
  have HDP : Hid (∀ d ∈ depF ls p 0, -9223372036854775808 ≤ d ∧ d ≤ 9223372036854775807) := fun d hd => by have := depF_hi ls p 0 d hd; omega
  have hdl : (depF ls p 0).length = (varsF ls p).length := depF_length ls p 0
  obtain ⟨i0, hi0, hz0, hz1, hz2⟩ := info_parts Try.infoHt
  clear hl hv1 hv2
  obtain ⟨w1, hw1⟩ : ∃ w1, w1 = w.alloc (.cells #[.int .i64 p.kind, .string p.name, .int .i64 p.n, .slice s1 p.scopes.length t1, .slice k1 p.kids.length l1, .int .i64 t.kind, .string t.name, .int .i64 t.n, .slice s2 t.scopes.length t2, .slice k2 t.kids.length l2] 35) := ⟨_, rfl⟩
  have HB1 : Hid (Below w.heap.size w w1) := by rw [hw1]; exact below_alloc w _
  have HX1 : Hid (RlBox w1 w.heap.size p t s1 t1 k1 l1 s2 t2 k2 l2) := by rw [hw1]; exact RlBox.fresh w p t s1 t1 k1 l1 s2 t2 k2 l2 _
  have hs1 : w.heap.size + 1 ≤ w1.heap.size := by rw [hw1]; simp
  have HW1 := Lib.hid hw1
  clear hw1
  go_enter Try.func20, Try.ntmps20
  go_wp2_with fail
  rw [← HW1.out]
  refine (variablesOfP_any w.heap.size (Pl w.heap.size w) (fun k hk => hk.1) p ls la lcap _ w1 (by omega) (HL.out.later (same_below HB1.out)) (InV.later (fun k hk => HB1.out.block k hk.1) _ _ HP1.out) (by omega)).mono ?_
  rintro e w2 ⟨⟨na, nl, nc, da, dl, dc, rfl, hcase⟩, hb2⟩
  have hs2 := hb2.size
  have HB2 : Hid (Below w.heap.size w w2) := HB1.out.trans (hb2.mono (by omega))
  have HX2 := Lib.hid (HX1.out.later hb2)
  have HB12 := Lib.hid hb2
  have HCASE := Lib.hid hcase
  obtain ⟨w3, hw3⟩ : ∃ w3, w3 = w2.alloc (.cells #[.slice na nl nc, .slice da dl dc] 104) := ⟨_, rfl⟩
  have hb3 : Below w2.heap.size w2 w3 := by rw [hw3]; exact below_alloc w2 _
  have hs3 : w3.heap.size = w2.heap.size + 1 := by rw [hw3]; simp
  have HB3 : Hid (Below w.heap.size w w3) := HB2.out.trans (hb3.mono (by omega))
  have HB23 := Lib.hid hb3
  have HV30 : Hid (w3.cell? ⟨w2.heap.size, 0, none⟩ = some (.slice na nl nc)) := by unfold Hid; rw [hw3]; exact World.cell?_alloc_at _ _ _ _ rfl
  have HV31 : Hid (w3.cell? ⟨w2.heap.size, 1, none⟩ = some (.slice da dl dc)) := by unfold Hid; rw [hw3]; exact World.cell?_alloc_at _ _ _ _ rfl
  have HX3 := Lib.hid (HX2.out.later hb3)
  have HW3 := Lib.hid hw3
  have hs3' : w2.heap.size + 1 ≤ w3.heap.size := by omega
  have hvb2 : w2.heap.size < w3.heap.size := by omega
  obtain ⟨y0, y1, y2, y3, y4, y5, y6, y7, y8, y9⟩ : RlBox (w2.alloc (.cells #[.slice na nl nc, .slice da dl dc] 104)) w.heap.size p t s1 t1 k1 l1 s2 t2 k2 l2 := by have h := HX3.out; rw [hw3] at h; exact h
  clear hb2 hw3 hb3 hcase hs3
  cases hpb : patternB p ls with
  | false =>
    have HE : Hid (ruleB p t ls = false) := by unfold Hid ruleB; rw [hpb]; rfl
    go_wp2_with fail
    rw [← HW3.out]
    go_ret
    exact ⟨ret_bool HE.out.symm, HB3.out⟩
  | true =>
  have HPB := Lib.hid hpb
  have hpf : formB p = true := by have h := hpb; unfold patternB at h; simp only [Bool.and_eq_true] at h; exact h.1
  have HPF := Lib.hid hpf
  by_cases hp3 : 0 < p.kids.length
  rotate_left
  · have hkk : ((p.kids.length : Int) == 0) = true := by rw [beq_iff_eq]; omega
    have hkn : (p.kids.length == 0) = true := by rw [beq_iff_eq]; omega
    have hk0 : p.kids.length = 0 := by omega
    have HE : Hid (ruleB p t ls = false) := by unfold Hid ruleB; rw [decide_eq_false hp3]; simp
    clear hpb hpf
    go_wp2_with fail
    rw [← HW3.out]
    go_ret
    exact ⟨ret_bool HE.out.symm, HB3.out⟩
  have hkk : ((p.kids.length : Int) == 0) = false := by rw [beq_eq_false_iff_ne]; omega
  have hkn : (p.kids.length == 0) = false := by rw [beq_eq_false_iff_ne]; omega
  clear hpf
  go_wp2_with fail
  rw [← HW3.out]
  refine (implFormValid_any w.heap.size t _ w3 (by omega) (InV.mono (fun k hk => hk.1) _ _ (InV.later (fun k hk => HB3.out.block k hk.1) _ _ HT2.out))).mono ?_
  rintro e w4 ⟨rfl, hb4⟩
  have hs4 := hb4.size
  have HB4 : Hid (Below w.heap.size w w4) := HB3.out.trans (hb4.mono (by omega))
  have HX4 := Lib.hid (HX3.out.later hb4)
  have HV0 := Lib.hid (cell_later' hb4 HV30.out)
  have HV1 := Lib.hid (cell_later' hb4 HV31.out)
  have HB24 : Hid (Below w2.heap.size w2 w4) := HB23.out.trans (hb4.mono (by omega))
  clear hb4 y0 y1 y2 y3 y4 y5 y6 y7 y8 y9 hkk hkn
  cases hft : formB t with
  | false =>
    have HE : Hid (ruleB p t ls = false) := by unfold Hid ruleB; rw [hft]; simp
    clear hpb
    go_wp2_with fail
    go_ret
    exact ⟨ret_bool HE.out.symm, HB4.out⟩
  | true =>
  obtain ⟨its, hits, hinv, hnr, hdr⟩ : ∃ its : List Item, its.map (·.f) = (varsF ls p) ∧ (∀ y ∈ its, InV (Pl w.heap.size w) w1 y.f y.val) ∧ w2.ownsRow w1.heap.size 33 5 (.slice na nl nc) its.length (rowOf its) ∧ w2.ownsRow w1.heap.size 3 1 (.slice da dl dc) (depF ls p 0).length ((depF ls p 0).map (Value.int .i64)) := by
    rcases HCASE.out with ⟨h, _⟩ | ⟨_, h⟩
    · rw [hpb] at h; cases h
    · exact h
  have hcard : its.length = (varsF ls p).length := by rw [← hits, List.length_map]
  obtain ⟨na', nc', e1, _, _⟩ := ownsRow_slice hnr
  injection e1 with e1 e2 e3
  subst e2
  obtain ⟨da', dc', e1', _, _⟩ := ownsRow_slice hdr
  injection e1' with e1' e2' e3'
  subst e2'
  have HFI : Hid (FormsIn (Pl w2.heap.size w2) w2 na nc (varsF ls p)) := by
    have h1 : ∀ y ∈ its, InV (Pl w2.heap.size w2) w2 y.f y.val := fun y hy => InV.mono (fun k (hk : Pl w.heap.size w k) => ⟨by have := hk.1; omega, hk.2.same (HB2.out.block k hk.1)⟩) _ _ (InV.later (w := w1) (w' := w2) (fun k hk => HB12.out.block k (by have := hk.1; omega)) _ _ (hinv y hy))
    have h2 := formsIn_items2 (φ := Pl w2.heap.size w2) hnr h1 (fun k _ h3 h4 => ⟨h3, h4⟩)
    rw [hits] at h2
    exact h2
  have HDR := Lib.hid hdr
  have hlen20 : (varsF ls p).length ≤ 20 := by
    have h := hpb
    unfold patternB at h
    simp only [Bool.and_eq_true] at h
    have h2 := h.2.2.2
    unfold restB at h2
    simp only [Bool.and_eq_true, decide_eq_true_eq] at h2
    exact h2.2.2
  have HNM : Hid (∀ g ∈ (varsF ls p), isNameB g = true) := fun g hg => (vars_names HPF.out g hg).1
  have HSZ : Hid (szHs (shapeH oneI (varsF ls p) (depF ls p 0)) ≤ 1048576) := by have h := shape_sz (varsF ls p) (depF ls p 0) fun g hg => name_sz (HNM.out g hg); unfold Hid; omega
  rw [hcard] at HV0 ⊢
  have hv00 := HV0.out
  clear hits hinv hnr hdr hpb e1 e3 e1' e3' hcard
  go_wp2_with fail
  go_loopw [35, 7, 8, 9] (fun i vv c q wr => ∃ (j : Nat) (xs : List Value) (v : Value), v = vv ∧ j ≤ (varsF ls p).length ∧ i = .int .i64 j ∧ wr.ownsRow w4.heap.size 60 12 v j xs ∧ RowR (Pl w2.heap.size w2) wr (shapeH oneI ((varsF ls p).take j) ((depF ls p 0).take j)) xs ∧ Below w4.heap.size w4 wr) (fun i _ _ _ _ => (varsF ls p).length - (intOf i).toNat)
  case atStart => exact ⟨0, [], _, rfl, Nat.zero_le _, rfl, World.ownsRow_nil _ _ _ _, by simp [shapeH, RowR], Below.refl _ _⟩
  case round =>
    obtain ⟨j, xs, v, rfl, hj, rfl, hown, hvals, hb⟩ := hrel
    have HOWN := Lib.hid hown
    have HVAL := Lib.hid hvals
    have HB := Lib.hid hb
    have HBW : Hid (Below w.heap.size w wr) := HB4.out.trans (hb.mono (by omega))
    have hsz := hb.size
    have HX := Lib.hid (HX4.out.later hb)
    have hv0 := cell_later' hb HV0.out
    have hv1 := cell_later' hb HV1.out
    clear hown hvals hb
    by_cases hlt : j < (varsF ls p).length
    · have hfr := (HFI.out.later (w' := wr) (fun k hk => by rw [HB.out.block k (by have := hk.1; omega), HB24.out.block k hk.1])).2.2
      rcases hfr with h0 | ⟨b, off, e0, hbB, hr⟩
      · exfalso; rw [h0] at hlt; simp at hlt
      obtain ⟨ga, gcap, ka, kcap, q0, q1, q2, q3, q4, hin⟩ := hr.at' j hlt
      have HIN := Lib.hid hin
      obtain ⟨db, dcp, e1, _, _⟩ := HDR.out.form (by omega)
      injection e1 with e1 e2 e3
      subst e0 e1 e3
      have hdlt : j < (depF ls p 0).length := by omega
      have hdb := HDR.out.lt db (by simp [Value.ownBlock])
      have q5 : wr.cell? ⟨db, j, none⟩ = some (.int .i64 (depF ls p 0)[j]) := by
        rw [World.cell?_of_block (a := ⟨db, j, none⟩) (HB.out.block db (by omega)), World.cell?_of_block (a := ⟨db, j, none⟩) (HB24.out.block db hdb.2), HDR.out.cellAt j (by omega), List.getElem?_map, List.getElem?_eq_getElem hdlt]
        rfl
      have HTK := Lib.hid (shapeH_succ oneI (varsF ls p) (depF ls p 0) j hlt hdlt)
      have HDB : Hid (-9223372036854775808 ≤ (depF ls p 0)[j] ∧ (depF ls p 0)[j] ≤ 9223372036854775807) := HDP.out _ (List.getElem_mem hdlt)
      have hj0 : (0 : Int) ≤ (j : Int) := by omega
      have hj1 : (j : Int) < ((varsF ls p).length : Int) := by omega
      have hj2 : (j : Int) < ((depF ls p 0).length : Int) := by omega
      have hL1 : j + 1 ≤ maxLen := by unfold maxLen; omega
      have hL2 : (j + 1) * 192 ≤ 140737488355328 := by omega
      have hbB' : b < w2.heap.size := hbB.1
      have hdb' := hdb.2
      clear hr hin hdb hbB
      obtain ⟨w5, hw5⟩ : ∃ w5, w5 = wr.alloc (.cells #[.int .i64 (varsF ls p)[j].kind, .string (varsF ls p)[j].name, .int .i64 (varsF ls p)[j].n, .slice ga (varsF ls p)[j].scopes.length gcap, .slice ka (varsF ls p)[j].kids.length kcap] 33) := ⟨_, rfl⟩
      have hb5 : Below wr.heap.size wr w5 := by rw [hw5]; exact below_alloc wr _
      have hs5 : w5.heap.size = wr.heap.size + 1 := by rw [hw5]; simp
      have hn5 : FormBox w5 wr.heap.size (varsF ls p)[j] ga gcap ka kcap := by rw [hw5]; exact FormBox.fresh wr (varsF ls p)[j] ga ka gcap kcap 33
      have HS5 : Hid (FormBox w5 wr.heap.size (varsF ls p)[j] ga gcap ka kcap ∧ w5.cell? ⟨w2.heap.size, 1, none⟩ = some (.slice (some ⟨db, 0, none⟩) (depF ls p 0).length dc) ∧ w5.cell? ⟨db, j, none⟩ = some (.int .i64 (depF ls p 0)[j])) := ⟨hn5, cell_later' hb5 hv1, cell_later' hb5 q5⟩
      have HW5 := Lib.hid hw5
      have HB5 := Lib.hid hb5
      have hs5' : wr.heap.size + 1 ≤ w5.heap.size := by omega
      clear hw5 hb5 hn5 hs5
      go_wp2_with fail
      rw [← HW5.out]
      obtain ⟨nb, hnb⟩ : ∃ nb, nb = wr.heap.size := ⟨_, rfl⟩
      have HNB := Lib.hid hnb
      rw [← hnb] at HS5 ⊢
      have hnb1 : wr.heap.size ≤ nb := by omega
      have hnb2 : nb < w5.heap.size := by omega
      clear hnb
      refine upto_begin (fun W => FormBox W nb (varsF ls p)[j] ga gcap ka kcap ∧ W.cell? ⟨w2.heap.size, 1, none⟩ = some (.slice (some ⟨db, 0, none⟩) (depF ls p 0).length dc) ∧ W.cell? ⟨db, j, none⟩ = some (.int .i64 (depF ls p 0)[j])) 10 (by kernel_rfl) ?_
      obtain ⟨u, hu⟩ : ∃ u, u = w5.drew := ⟨_, rfl⟩
      rw [← hu]
      have hbu : Below w5.heap.size w5 u := by rw [hu]; exact (Below.refl _ _).drew
      have hsu := hbu.size
      have hS0 : (fun W => FormBox W nb (varsF ls p)[j] ga gcap ka kcap ∧ W.cell? ⟨w2.heap.size, 1, none⟩ = some (.slice (some ⟨db, 0, none⟩) (depF ls p 0).length dc) ∧ W.cell? ⟨db, j, none⟩ = some (.int .i64 (depF ls p 0)[j])) u := ⟨HS5.out.1.later hbu, cell_later' hbu HS5.out.2.1, cell_later' hbu HS5.out.2.2⟩
      have HBU : Hid (Below wr.heap.size wr u) := HB5.out.trans (hbu.mono (by omega))
      clear hbu hu q0 q1 q2 q3 q4 q5 hv0 hv1
      refine upto_take (i := 0) (d := some 40) (v := ?_) rfl rfl (by kernel_rfl) (by kernel_rfl) (by kernel_rfl) (by kernel_rfl) (fun _ _ _ h => h) (Or.inl ⟨by rfl, ?_⟩) hS0 ?_
      rotate_left
      · (intro wS hSw; obtain ⟨⟨_, _, _, _, _⟩, _, _⟩ := hSw; go_simp; try with_reducible rfl)
      try simp only [Act.put, List.setIfInBounds_toArray, List.set_cons_zero, List.set_cons_succ]
      refine upto_take (i := 1) (d := some 41) (v := ?_) rfl rfl (by kernel_rfl) (by kernel_rfl) (by kernel_rfl) (by kernel_rfl) (fun _ _ _ h => h) (Or.inl ⟨by rfl, ?_⟩) hS0 ?_
      rotate_left
      · (intro wS hSw; obtain ⟨⟨_, _, _, _, _⟩, _, _⟩ := hSw; go_simp; try with_reducible rfl)
      try simp only [Act.put, List.setIfInBounds_toArray, List.set_cons_zero, List.set_cons_succ]
      refine upto_take (i := 2) (d := some 42) (v := ?_) rfl rfl (by kernel_rfl) (by kernel_rfl) (by kernel_rfl) (by kernel_rfl) (fun _ _ _ h => h) (Or.inl ⟨by rfl, ?_⟩) hS0 ?_
      rotate_left
      · (intro wS hSw; obtain ⟨⟨_, _, _, _, _⟩, _, _⟩ := hSw; go_simp; try with_reducible rfl)
      try simp only [Act.put, List.setIfInBounds_toArray, List.set_cons_zero, List.set_cons_succ]
      refine upto_take (i := 3) (d := some 43) (v := ?_) rfl rfl (by kernel_rfl) (by kernel_rfl) (by kernel_rfl) (by kernel_rfl) (fun _ _ _ h => h) (Or.inl ⟨by rfl, ?_⟩) hS0 ?_
      rotate_left
      · (intro wS hSw; obtain ⟨⟨_, _, _, _, _⟩, _, _⟩ := hSw; go_simp; try with_reducible rfl)
      try simp only [Act.put, List.setIfInBounds_toArray, List.set_cons_zero, List.set_cons_succ]
      refine upto_take (i := 4) (d := some 44) (v := ?_) rfl rfl (by kernel_rfl) (by kernel_rfl) (by kernel_rfl) (by kernel_rfl) (fun _ _ _ h => h) (Or.inl ⟨by rfl, ?_⟩) hS0 ?_
      rotate_left
      · (intro wS hSw; obtain ⟨⟨_, _, _, _, _⟩, _, _⟩ := hSw; go_simp; try with_reducible rfl)
      try simp only [Act.put, List.setIfInBounds_toArray, List.set_cons_zero, List.set_cons_succ]
      refine upto_take (i := 5) (d := some 45) (v := ?_) rfl rfl (by kernel_rfl) (by kernel_rfl) (by kernel_rfl) (by kernel_rfl) (fun _ _ _ h => h) (Or.inl ⟨by rfl, ?_⟩) hS0 ?_
      rotate_left
      · (intro wS hSw; obtain ⟨⟨_, _, _, _, _⟩, _, _⟩ := hSw; go_simp; try with_reducible rfl)
      try simp only [Act.put, List.setIfInBounds_toArray, List.set_cons_zero, List.set_cons_succ]
      refine upto_take (i := 6) (d := some 46) (v := ?_) rfl rfl (by kernel_rfl) (by kernel_rfl) (by kernel_rfl) (by kernel_rfl) (fun _ _ _ h => h) (Or.inl ⟨by rfl, ?_⟩) hS0 ?_
      rotate_left
      · (intro wS hSw; obtain ⟨⟨_, _, _, _, _⟩, _, _⟩ := hSw; go_simp; try with_reducible rfl)
      try simp only [Act.put, List.setIfInBounds_toArray, List.set_cons_zero, List.set_cons_succ]
      refine upto_take (i := 7) (d := some 47) (v := ?_) rfl rfl (by kernel_rfl) (by kernel_rfl) (by kernel_rfl) (by kernel_rfl) (fun _ _ _ h => h) (Or.inl ⟨by rfl, ?_⟩) hS0 ?_
      rotate_left
      · (intro wS hSw; obtain ⟨⟨_, _, _, _, _⟩, _, _⟩ := hSw; go_simp; try with_reducible rfl)
      try simp only [Act.put, List.setIfInBounds_toArray, List.set_cons_zero, List.set_cons_succ]
      refine upto_one (i := 8) (by kernel_rfl) rfl (fun K hK => ?_)
      go_simp
      obtain ⟨w6, hw6⟩ : ∃ w6, w6 = u.alloc (.cells #[.int .i64 (varsF ls p)[j].kind, .string (varsF ls p)[j].name, .int .i64 (varsF ls p)[j].n, .slice ga (varsF ls p)[j].scopes.length gcap, .slice ka (varsF ls p)[j].kids.length kcap, .int .i64 (depF ls p 0)[j], .int .i64 0, .string { data := #[] }, .int .i64 0, .slice none 0 0, .slice none 0 0, .slice none 0 0] 60) := ⟨_, rfl⟩
      have hb6 : Below u.heap.size u w6 := by rw [hw6]; exact below_alloc u _
      have hs6 : w6.heap.size = u.heap.size + 1 := by rw [hw6]; simp
      have HNW : Hid (∀ (j' : Nat) (u' : Value), [.int .i64 (varsF ls p)[j].kind, .string (varsF ls p)[j].name, .int .i64 (varsF ls p)[j].n, .slice ga (varsF ls p)[j].scopes.length gcap, .slice ka (varsF ls p)[j].kids.length kcap, .int .i64 (depF ls p 0)[j], .int .i64 0, .string { data := #[] }, .int .i64 0, .slice none 0 0, .slice none 0 0, .slice none 0 0][j']? = some u' → w6.cell? ((⟨u.heap.size, 0, none⟩ : Addr).add j') = some u') := by unfold Hid; rw [hw6]; exact World.news_of_block (cs := #[.int .i64 (varsF ls p)[j].kind, .string (varsF ls p)[j].name, .int .i64 (varsF ls p)[j].n, .slice ga (varsF ls p)[j].scopes.length gcap, .slice ka (varsF ls p)[j].kids.length kcap, .int .i64 (depF ls p 0)[j], .int .i64 0, .string { data := #[] }, .int .i64 0, .slice none 0 0, .slice none 0 0, .slice none 0 0]) (t := 60) (fr := (0, 0)) (heap_alloc_new u _)
      rw [← hw6]
      have hS1 : (fun W => FormBox W nb (varsF ls p)[j] ga gcap ka kcap ∧ W.cell? ⟨w2.heap.size, 1, none⟩ = some (.slice (some ⟨db, 0, none⟩) (depF ls p 0).length dc) ∧ W.cell? ⟨db, j, none⟩ = some (.int .i64 (depF ls p 0)[j])) w6 := ⟨hS0.1.later hb6, cell_later' hb6 hS0.2.1, cell_later' hb6 hS0.2.2⟩
      refine hK.out _ _ (.inr hS1) ?_
      have HB6 : Hid (Below wr.heap.size wr w6) := HBU.out.trans (hb6.mono (by omega))
      have hs6' : u.heap.size + 1 ≤ w6.heap.size := by omega
      clear hK K hb6 hS0 hw6
      have hown6 : w6.ownsRow w4.heap.size 60 12 v j xs := HOWN.out.kept (row := none) ⟨HB6.out.os, HB6.out.tape, HB6.out.output, HB6.out.size, fun k hk _ => HB6.out.block k hk⟩ (by cases v.ownBlock <;> simp)
      refine upto_oper (i := 9) ⟨some 49, .call { callee := .builtin .append, args := #[.tmp 40, .tmp 48], argTypes := #[46, 46] }, 46, _, _, _⟩ (by kernel_rfl) rfl rfl (fun K hK => ?_)
      refine wp_append_lies _ (.tmp 40) (.tmp 48) 46 rfl (w4.heap.size) 60 i0 _ 12 192 Try.underlying46 hi0 hz0 hz1 hz2 rfl (by decide) _ j xs (by rfl) hown6
        ⟨u.heap.size, 0, none⟩ 1 1 [.int .i64 (varsF ls p)[j].kind, .string (varsF ls p)[j].name, .int .i64 (varsF ls p)[j].n, .slice ga (varsF ls p)[j].scopes.length gcap, .slice ka (varsF ls p)[j].kids.length kcap, .int .i64 (depF ls p 0)[j], .int .i64 0, .string { data := #[] }, .int .i64 0, .slice none 0 0, .slice none 0 0, .slice none 0 0] (by rfl) (by rfl) HNW.out (by simp [Value.oneCell'])
        (by omega) hL1 hL2 (by omega) w6.heap.size rfl ?_
      intro gq qd w7 hown7 hgrow hat hlt7
      have hfar : ∀ k, v.ownBlock = some k → w4.heap.size ≤ k ∧ k < wr.heap.size := fun k e => HOWN.out.lt k e
      have hblk : ∀ k, k < w6.heap.size → (k < w4.heap.size ∨ wr.heap.size ≤ k) → w7.heap[k]? = w6.heap[k]? := fun k h1 h2 => hgrow.block k h1 (fun e => by have := hfar k e.symm; omega)
      have hS2 : (fun W => FormBox W nb (varsF ls p)[j] ga gcap ka kcap ∧ W.cell? ⟨w2.heap.size, 1, none⟩ = some (.slice (some ⟨db, 0, none⟩) (depF ls p 0).length dc) ∧ W.cell? ⟨db, j, none⟩ = some (.int .i64 (depF ls p 0)[j])) w7 := ⟨hS1.1.keepT (hblk nb (by omega) (by omega)), (World.cell?_of_block (a := ⟨w2.heap.size, 1, none⟩) (hblk w2.heap.size (by omega) (by omega))).trans hS1.2.1, (World.cell?_of_block (a := ⟨db, j, none⟩) (hblk db (by omega) (by omega))).trans hS1.2.2⟩
      refine hK.out _ _ (.inr hS2) ?_
      clear hK K hS1
      refine upto_one (i := 10) (by kernel_rfl) rfl (fun K hK => ?_)
      go_simp
      refine hK.out _ _ (.inl rfl) ?_
      clear hK K hS2
      refine upto_done (by kernel_rfl) ?_ _
      have HBN : Hid (Below w4.heap.size w4 w7) := by
        have h1 : Below w4.heap.size w4 w6 := HB.out.trans (HB6.out.mono (by omega))
        exact h1.grown hgrow (by omega) (fun k hk => (hfar k hk).1)
      have HSM : Hid (Same (Pl w2.heap.size w2) wr w7) := fun k hk => by
        have := hk.1
        rw [HBN.out.block k (by omega), ← HB.out.block k (by omega)]
      have HNEXT : Hid (∃ (j' : Nat) (xs : List Value) (v : Value), v = .slice (some ⟨gq, 0, none⟩) (j + 1) qd ∧ j' ≤ (varsF ls p).length ∧ (Value.int .i64 ((j : Int) + 1)) = .int .i64 j' ∧ w7.ownsRow w4.heap.size 60 12 v j' xs ∧ RowR (Pl w2.heap.size w2) w7 (shapeH oneI ((varsF ls p).take j') ((depF ls p 0).take j')) xs ∧ Below w4.heap.size w4 w7) := by
        refine ⟨j + 1, _, _, rfl, by omega, by go_num, hown7, ?_, HBN.out⟩
        rw [HTK.out]
        refine RowR.snoc ?_ (HVAL.out.keep HSM.out)
        unfold InH
        have hn4 := HIN.out.later HSM.out
        exact ⟨ga, gcap, ka, kcap, none, 0, none, 0, none, 0, rfl, HDB.out, hn4, zeroIn _ _, Nat.le_refl _, Nat.zero_le _, .inl rfl⟩
      clear hown7 hgrow hat hblk hfar
      go_wp2_with fail
      go_roundw
      case rel => exact HNEXT.out
      case measure => simp [intOf]; omega
    · obtain rfl : j = (varsF ls p).length := by omega
      have HV2 : Hid (RowR (Pl w2.heap.size w2) wr (shapeH oneI (varsF ls p) (depF ls p 0)) xs) := by have := HVAL.out; rw [List.take_length, ← hdl, List.take_length] at this; exact this
      have hll : (shapeH oneI (varsF ls p) (depF ls p 0)).length = (varsF ls p).length := shapeH_length _ _ _ hdl
      have HSL : Hid (∃ va vc, v = .slice va (shapeH oneI (varsF ls p) (depF ls p 0)).length vc ∧ HitsIn (Pl wr.heap.size wr) wr va vc (shapeH oneI (varsF ls p) (depF ls p 0))) := by
        rcases HOWN.out.2 with ⟨e, h0⟩ | ⟨g, cp, cur, e, hbg, hg, hnc, hcm, _⟩
        · exact ⟨none, 0, by rw [e, hll, h0], by rw [hll]; omega, Nat.zero_le _, .inl (List.eq_nil_of_length_eq_zero (by rw [hll]; exact h0))⟩
        · have hgl : g < wr.heap.size := (Array.getElem?_eq_some_iff.1 hg).1
          refine ⟨some ⟨g, 0, none⟩, cp, by rw [e, hll], by rw [hll]; exact hnc, hcm, .inr ⟨g, 0, rfl, ⟨hgl, ⟨_, _, hg⟩⟩, RowR.row (fun k hk => ?_) HV2.out (fun j u hj => ?_)⟩⟩
          · have h1 := hk.1
            exact ⟨by omega, (hk.2.same (HB24.out.block k h1)).same (HB.out.block k (by omega))⟩
          · have := HOWN.out.cells (g := g) (by rw [e]; rfl) j u hj
            unfold Addr.add at this
            split at this <;> simp_all
      obtain ⟨va2, vc, rfl, hres⟩ := HSL.out
      have HRES := Lib.hid hres
      have HFT : Hid (Calls Try.prog 72 #[.agg #[.int .i64 t.kind, .string t.name, .int .i64 t.n, .slice s2 t.scopes.length t2, .slice k2 t.kids.length l2], .slice va2 (shapeH oneI (varsF ls p) (depF ls p 0)).length vc, .int .i64 ((0 : Nat) : Int)] wr fun e w' => e = .returned (.bool (fitB t (shapeH oneI (varsF ls p) (depF ls p 0)) 0)) ∧ Below wr.heap.size wr w') :=
        fitsHits_any (shapeH oneI (varsF ls p) (depF ls p 0)) (shape_nm HNM.out) (below_said _ HSZ.out) t 40 0 va2 vc _ wr (formB_is hft) (Nat.le_refl _) (by unfold formB at hft; rw [Bool.and_eq_true, decide_eq_true_eq] at hft; exact hft.2) (by omega) HRES.out (InV.mono (fun k (hk : Pl w.heap.size w k) => by have h1 := hk.1; show k < wr.heap.size; omega) _ _ (InV.later (fun k hk => HBW.out.block k hk.1) _ _ HT2.out))
      obtain ⟨x0, x1, x2, x3, x4, x5, x6, x7, x8, x9⟩ := HX.out
      clear hres HSL hll hdl
      go_wp2_with fail
      refine HFT.out.mono ?_
      rintro e w8 ⟨rfl, hb8⟩
      have HE : Hid (ruleB p t ls = fitB t (shapeH oneI (varsF ls p) (depF ls p 0)) 0) := by
        unfold Hid ruleB
        rw [HPB.out, rule_ok HPB.out hft, decide_eq_true (kind_kids HPF.out hp3), decide_eq_true hp3, hft]
        rfl
      have HB8 : Hid (Below w.heap.size w w8) := HBW.out.trans (hb8.mono (by omega))
      clear hb8 x0 x1 x2 x3 x4 x5 x6 x7 x8 x9
      go_wp2_with fail
      go_ret
      exact ⟨ret_bool HE.out.symm, HB8.out⟩
end
end
end Go.Proofs.Ytnogpaflibghhaa
