/- The state at the start: what the model's StartExpansion makes. -/
import Derived.Test.YtlmplfpdmelcjaaImplStart
import Derived.Test.YtlmplfpdmelcjaaPop
import Derived.Deep.AppendLies
import Derived.Deep.LoopGhost
import Derived.OwnWalk
namespace Go.Proofs.Ytlmplfpdmelcjaa
open Go.RowKit
set_option linter.unusedVariables false
set_option linter.unusedSimpArgs false
/-- the names of the core forms, by their numbers -/
def startN : List ByteArray := [{ data := #[] }, { data := #[108, 97, 109, 98, 100, 97] }, { data := #[105, 102] }, { data := #[113, 117, 111, 116, 101] }, { data := #[108, 101, 116] }, { data := #[108, 101, 116, 45, 115, 121, 110, 116, 97, 120] }]
theorem startN_get : ∀ (m j : Nat) (h : m < 5), j = m + 1 → ∃ nm, startN[j]? = some nm ∧ cellsOfB (startB.take (m + 1)) = cellsOfB (startB.take m) ++ [.string nm, .slice none 0 0, .int .i64 (j : Int)]
  | 0, _, _, rfl => ⟨_, rfl, rfl⟩
  | 1, _, _, rfl => ⟨_, rfl, rfl⟩
  | 2, _, _, rfl => ⟨_, rfl, rfl⟩
  | 3, _, _, rfl => ⟨_, rfl, rfl⟩
  | 4, _, _, rfl => ⟨_, rfl, rfl⟩
  | n + 5, _, h, _ => absurd h (by omega)
theorem l7Names_any (w : World) : Calls Try.prog 121 #[] w fun e w' => e = .returned (.slice (some ⟨w.heap.size, 0, none⟩) 6 6) ∧ w' = w.alloc (.cells #[.string { data := #[] }, .string { data := #[108, 97, 109, 98, 100, 97] }, .string { data := #[105, 102] }, .string { data := #[113, 117, 111, 116, 101] }, .string { data := #[108, 101, 116] }, .string { data := #[108, 101, 116, 45, 115, 121, 110, 116, 97, 120] }] 9) := by
  go_enter Try.func121, Try.ntmps121
  go_wp2_with fail
  go_ret
  exact ⟨rfl, rfl⟩
theorem info_bind : (Try.prog.info? 148).map (fun i => (i.zero, i.size, i.bytes)) = some (some (.agg #[.string ByteArray.empty, .slice none 0 0, .int .i64 0]), 3, 48) := by kernel_rfl
/-- between two rounds: the state's cells, the row, the names -/
structure StartMid (w wr : World) (m : Nat) (v : Value) : Prop where
  res : wr.heap[w.heap.size]? = some (.cells #[.slice none 0 0, .slice none 0 0, .int .i64 0, .int .i64 0, .int .i64 0] 93 (0, 0))
  c0 : wr.cell? ⟨w.heap.size + 1, 0, none⟩ = some v
  c1 : wr.cell? ⟨w.heap.size + 1, 1, none⟩ = some (.slice none 0 0)
  c2 : wr.cell? ⟨w.heap.size + 1, 2, none⟩ = some (.int .i64 0)
  c3 : wr.cell? ⟨w.heap.size + 1, 3, none⟩ = some (.int .i64 10)
  c4 : wr.cell? ⟨w.heap.size + 1, 4, none⟩ = some (.int .i64 0)
  fr : wr.frozen? ⟨w.heap.size + 1, 0, none⟩ = false
  names : wr.heap[w.heap.size + 1 + 1]? = some (.cells #[.string { data := #[] }, .string { data := #[108, 97, 109, 98, 100, 97] }, .string { data := #[105, 102] }, .string { data := #[113, 117, 111, 116, 101] }, .string { data := #[108, 101, 116] }, .string { data := #[108, 101, 116, 45, 115, 121, 110, 116, 97, 120] }] 9 (0, 0))
  own : wr.ownsRow (w.heap.size + 3) 148 3 v m (cellsOfB (startB.take m))
  below : Below w.heap.size w wr
  size : w.heap.size + 3 ≤ wr.heap.size
theorem start0 (w : World) : StartMid w (((w.alloc (.cells #[.slice none 0 0, .slice none 0 0, .int .i64 0, .int .i64 0, .int .i64 0] 93)).alloc (.cells #[.slice none 0 0, .slice none 0 0, .int .i64 0, .int .i64 10, .int .i64 0] 93)).alloc (.cells #[.string { data := #[] }, .string { data := #[108, 97, 109, 98, 100, 97] }, .string { data := #[105, 102] }, .string { data := #[113, 117, 111, 116, 101] }, .string { data := #[108, 101, 116] }, .string { data := #[108, 101, 116, 45, 115, 121, 110, 116, 97, 120] }] 9)) 0 (.slice none 0 0) := by
  have hb3 : Below w.heap.size w (((w.alloc (.cells #[.slice none 0 0, .slice none 0 0, .int .i64 0, .int .i64 0, .int .i64 0] 93)).alloc (.cells #[.slice none 0 0, .slice none 0 0, .int .i64 0, .int .i64 10, .int .i64 0] 93)).alloc (.cells #[.string { data := #[] }, .string { data := #[108, 97, 109, 98, 100, 97] }, .string { data := #[105, 102] }, .string { data := #[113, 117, 111, 116, 101] }, .string { data := #[108, 101, 116] }, .string { data := #[108, 101, 116, 45, 115, 121, 110, 116, 97, 120] }] 9)) := ((below_alloc w _).alloc (by simp) _).alloc (by simp; omega) _
  have hb2 : Below (w.alloc (.cells #[.slice none 0 0, .slice none 0 0, .int .i64 0, .int .i64 0, .int .i64 0] 93)).heap.size (w.alloc (.cells #[.slice none 0 0, .slice none 0 0, .int .i64 0, .int .i64 0, .int .i64 0] 93)) (((w.alloc (.cells #[.slice none 0 0, .slice none 0 0, .int .i64 0, .int .i64 0, .int .i64 0] 93)).alloc (.cells #[.slice none 0 0, .slice none 0 0, .int .i64 0, .int .i64 10, .int .i64 0] 93)).alloc (.cells #[.string { data := #[] }, .string { data := #[108, 97, 109, 98, 100, 97] }, .string { data := #[105, 102] }, .string { data := #[113, 117, 111, 116, 101] }, .string { data := #[108, 101, 116] }, .string { data := #[108, 101, 116, 45, 115, 121, 110, 116, 97, 120] }] 9)) := (below_alloc _ _).alloc (by simp) _
  have hb1 := below_alloc ((w.alloc (.cells #[.slice none 0 0, .slice none 0 0, .int .i64 0, .int .i64 0, .int .i64 0] 93)).alloc (.cells #[.slice none 0 0, .slice none 0 0, .int .i64 0, .int .i64 10, .int .i64 0] 93)) (.cells #[.string { data := #[] }, .string { data := #[108, 97, 109, 98, 100, 97] }, .string { data := #[105, 102] }, .string { data := #[113, 117, 111, 116, 101] }, .string { data := #[108, 101, 116] }, .string { data := #[108, 101, 116, 45, 115, 121, 110, 116, 97, 120] }] 9)
  have h0 := heap_alloc_new w (.cells #[.slice none 0 0, .slice none 0 0, .int .i64 0, .int .i64 0, .int .i64 0] 93)
  have h1 := heap_alloc_new (w.alloc (.cells #[.slice none 0 0, .slice none 0 0, .int .i64 0, .int .i64 0, .int .i64 0] 93)) (.cells #[.slice none 0 0, .slice none 0 0, .int .i64 0, .int .i64 10, .int .i64 0] 93)
  have h2 := heap_alloc_new ((w.alloc (.cells #[.slice none 0 0, .slice none 0 0, .int .i64 0, .int .i64 0, .int .i64 0] 93)).alloc (.cells #[.slice none 0 0, .slice none 0 0, .int .i64 0, .int .i64 10, .int .i64 0] 93)) (.cells #[.string { data := #[] }, .string { data := #[108, 97, 109, 98, 100, 97] }, .string { data := #[105, 102] }, .string { data := #[113, 117, 111, 116, 101] }, .string { data := #[108, 101, 116] }, .string { data := #[108, 101, 116, 45, 115, 121, 110, 116, 97, 120] }] 9)
  rw [size_alloc'] at h1
  rw [size_alloc', size_alloc'] at h2
  have h1' := (hb1.block (w.heap.size + 1) (by simp)).trans h1
  exact ⟨(hb2.block w.heap.size (by simp)).trans h0, cell_of_row _ _ 0 _ _ _ h1', cell_of_row _ _ 1 _ _ _ h1', cell_of_row _ _ 2 _ _ _ h1', cell_of_row _ _ 3 _ _ _ h1', cell_of_row _ _ 4 _ _ _ h1', (show Plain _ (w.heap.size + 1) from ⟨_, _, h1'⟩).frozen 0, h2, World.ownsRow_nil _ _ _ _, hb3, by simp⟩
/-- what the loads of the region read -/
def StartHeld (bx : Nat) (v : Value) (j : Nat) (nm : ByteArray) (W : World) : Prop := W.cell? ⟨bx, 0, none⟩ = some v ∧ W.cell? ⟨bx + 1, j, none⟩ = some (.string nm)
set_option maxRecDepth 100000 in
set_option maxHeartbeats 4000000 in
theorem specStart_any (w : World) :
    Calls Try.prog 65 #[] w fun e w' => ∃ g cap, e = .returned (stateV (some ⟨g, 0, none⟩) 5 cap) ∧ BdRow (· < w'.heap.size) w' (.slice (some ⟨g, 0, none⟩) 5 cap) startB ∧ Below w.heap.size w w' := by
  obtain ⟨i0, hi0, hz0, hz1, hz2⟩ := info_parts info_bind
  go_enter Try.func65, Try.ntmps65
  go_wp2_with fail
  refine (l7Names_any _).mono ?_
  rintro e w1 ⟨rfl, hw1⟩
  have HM0 : Hid (StartMid w w1 0 (.slice none 0 0)) := by
    rw [hw1]
    exact start0 w
  clear hw1
  go_wp2_with fail
  go_loopw [3] (fun i wr => ∃ (m j : Nat) (v : Value), m ≤ 5 ∧ j = m + 1 ∧ i = .int .i64 (j : Int) ∧ StartMid w wr m v) (fun i _ => 6 - (intOf i).toNat)
  case atStart => exact ⟨0, 1, _, by omega, rfl, rfl, HM0.out⟩
  case round =>
    obtain ⟨m, j, v, hm, hjm, rfl, hmid⟩ := hrel
    have HM := Lib.hid hmid
    have hszr := hmid.size
    have HJ := Lib.hid hjm
    clear hmid hjm
    by_cases hlt : m < 5
    · have hi1 : (j : Int) < 6 := by have := HJ.out; omega
      obtain ⟨nm, hnm, hstep⟩ := startN_get m j hlt HJ.out
      have hc0 := HM.out.c0
      have hcn : wr.cell? ⟨w.heap.size + 1 + 1, j, none⟩ = some (.string nm) := by
        rw [cell_of_row wr _ j _ _ _ HM.out.names]
        have : ∀ k, (#[.string { data := #[] }, .string { data := #[108, 97, 109, 98, 100, 97] }, .string { data := #[105, 102] }, .string { data := #[113, 117, 111, 116, 101] }, .string { data := #[108, 101, 116] }, .string { data := #[108, 101, 116, 45, 115, 121, 110, 116, 97, 120] }] : Array Value)[k]? = (startN[k]?).map Value.string := fun k => by rw [← Array.getElem?_toList, ← List.getElem?_map]; rfl
        rw [this, hnm]; rfl
      have HSTEP := Lib.hid hstep
      have ap : v.ownBlock ≠ some (w.heap.size + 1) := fun e => by have := HM.out.own.lt _ e; omega
      have hL1 : m + 1 ≤ maxLen := by unfold maxLen; omega
      have hfree := HM.out.fr
      clear hnm hstep
      go_wp2_with fail
      have hS0 : StartHeld (w.heap.size + 1) v j nm wr.drew := ⟨hc0, hcn⟩
      refine upto_begin (StartHeld (w.heap.size + 1) v j nm) 11 (by kernel_rfl) ?_
      refine upto_take (i := 0) (d := some 12) (v := ?_) rfl rfl (by kernel_rfl) (by kernel_rfl) (by kernel_rfl) (by kernel_rfl) (fun _ _ _ h => h) (Or.inl ⟨by rfl, ?_⟩) hS0 ?_
      rotate_left
      · (intro wS hSw; obtain ⟨y0, y1⟩ := hSw; go_simp; try with_reducible rfl)
      try simp only [Act.put, List.setIfInBounds_toArray, List.set_cons_zero, List.set_cons_succ]
      refine upto_take (i := 1) (d := some 13) (v := ?_) rfl rfl (by kernel_rfl) (by kernel_rfl) (by kernel_rfl) (by kernel_rfl) (fun _ _ _ h => h) (Or.inl ⟨by rfl, ?_⟩) hS0 ?_
      rotate_left
      · (intro wS hSw; obtain ⟨y0, y1⟩ := hSw; go_simp; try with_reducible rfl)
      try simp only [Act.put, List.setIfInBounds_toArray, List.set_cons_zero, List.set_cons_succ]
      refine upto_take (i := 2) (d := some 14) (v := ?_) rfl rfl (by kernel_rfl) (by kernel_rfl) (by kernel_rfl) (by kernel_rfl) (fun _ _ _ h => h) (Or.inl ⟨by rfl, ?_⟩) hS0 ?_
      rotate_left
      · (intro wS hSw; obtain ⟨y0, y1⟩ := hSw; go_simp; try with_reducible rfl)
      try simp only [Act.put, List.setIfInBounds_toArray, List.set_cons_zero, List.set_cons_succ]
      refine upto_take (i := 3) (d := some 15) (v := ?_) rfl rfl (by kernel_rfl) (by kernel_rfl) (by kernel_rfl) (by kernel_rfl) (fun _ _ _ h => h) (Or.inl ⟨by rfl, ?_⟩) hS0 ?_
      rotate_left
      · (intro wS hSw; obtain ⟨y0, y1⟩ := hSw; go_simp; try with_reducible rfl)
      try simp only [Act.put, List.setIfInBounds_toArray, List.set_cons_zero, List.set_cons_succ]
      refine upto_take (i := 4) (d := some 16) (v := ?_) rfl rfl (by kernel_rfl) (by kernel_rfl) (by kernel_rfl) (by kernel_rfl) (fun _ _ _ h => h) (Or.inl ⟨by rfl, ?_⟩) hS0 ?_
      rotate_left
      · (intro wS hSw; obtain ⟨y0, y1⟩ := hSw; go_simp; try with_reducible rfl)
      try simp only [Act.put, List.setIfInBounds_toArray, List.set_cons_zero, List.set_cons_succ]
      refine upto_take (i := 5) (d := some 17) (v := ?_) rfl rfl (by kernel_rfl) (by kernel_rfl) (by kernel_rfl) (by kernel_rfl) (fun _ _ _ h => h) (Or.inl ⟨by rfl, ?_⟩) hS0 ?_
      rotate_left
      · (intro wS hSw; obtain ⟨y0, y1⟩ := hSw; go_simp; try with_reducible rfl)
      try simp only [Act.put, List.setIfInBounds_toArray, List.set_cons_zero, List.set_cons_succ]
      refine upto_take (i := 6) (d := some 18) (v := ?_) rfl rfl (by kernel_rfl) (by kernel_rfl) (by kernel_rfl) (by kernel_rfl) (fun _ _ _ h => h) (Or.inl ⟨by rfl, ?_⟩) hS0 ?_
      rotate_left
      · (intro wS hSw; obtain ⟨y0, y1⟩ := hSw; go_simp; try with_reducible rfl)
      try simp only [Act.put, List.setIfInBounds_toArray, List.set_cons_zero, List.set_cons_succ]
      refine upto_take (i := 7) (d := some 19) (v := ?_) rfl rfl (by kernel_rfl) (by kernel_rfl) (by kernel_rfl) (by kernel_rfl) (fun _ _ _ h => h) (Or.inl ⟨by rfl, ?_⟩) hS0 ?_
      rotate_left
      · (intro wS hSw; obtain ⟨y0, y1⟩ := hSw; go_simp; try with_reducible rfl)
      try simp only [Act.put, List.setIfInBounds_toArray, List.set_cons_zero, List.set_cons_succ]
      refine upto_one (i := 8) (by kernel_rfl) rfl (fun K hK => ?_)
      go_simp
      have hbA : Below wr.heap.size wr (wr.alloc (Obj.cells #[.string nm, .slice none 0 0, .int .i64 (j : Int)] 148)).drew := ((Below.refl _ wr).alloc (Nat.le_refl _) _).drew
      have hS1 : StartHeld (w.heap.size + 1) v j nm (wr.alloc (Obj.cells #[.string nm, .slice none 0 0, .int .i64 (j : Int)] 148)).drew := ⟨cell_later' hbA hc0, cell_later' hbA hcn⟩
      refine hK.out _ _ (.inr hS1) ?_
      clear hK K
      refine upto_oper (i := 9) ⟨some 21, .call { callee := .builtin .append, args := #[.tmp 13, .tmp 20], argTypes := #[90, 90] }, 90, _, _, _⟩ (by kernel_rfl) rfl rfl (fun K hK => ?_)
      refine wp_append_lies _ (.tmp 13) (.tmp 20) 90 rfl (w.heap.size + 3) 148 i0 _ 3 48 Try.underlying90 hi0 hz0 hz1 hz2 rfl (by omega) _ m (cellsOfB (startB.take m)) (by rfl) ((HM.out.own.alloc _).drew)
            ⟨wr.heap.size, 0, none⟩ 1 1 [.string nm, .slice none 0 0, .int .i64 (j : Int)] (by rfl) (by rfl) (World.news_of_block (cs := #[.string nm, .slice none 0 0, .int .i64 (j : Int)]) (t := 148) (fr := (0, 0)) (heap_alloc_new wr _)) (by simp [Value.oneCell'])
            (by omega) hL1 (by omega) (by simp; omega) (wr.heap.size + 1) (by simp) ?_
      intro gg qcap w4 hown1 hgrow hat hlt4
      have hkeep : ∀ k, k < w.heap.size + 3 → w4.heap[k]? = wr.heap[k]? := fun k hk => (hgrow.block k (by simp; omega) (fun e => by have := HM.out.own.lt k e.symm; omega)).trans (hbA.block k (by omega))
      have hc4 : w4.cell? ⟨w.heap.size + 1, 0, none⟩ = some v := (World.cell?_of_block (a := ⟨w.heap.size + 1, 0, none⟩) (hkeep _ (by show w.heap.size + 1 < _; omega))).trans hc0
      have hcn4 : w4.cell? ⟨w.heap.size + 1 + 1, j, none⟩ = some (.string nm) := (World.cell?_of_block (a := ⟨w.heap.size + 1 + 1, j, none⟩) (hkeep _ (by show w.heap.size + 1 + 1 < _; omega))).trans hcn
      have hf4 : w4.frozen? ⟨w.heap.size + 1, 0, none⟩ = false := (World.frozen?_of_block (a := ⟨w.heap.size + 1, 0, none⟩) (hkeep _ (by show w.heap.size + 1 < _; omega))).trans hfree
      have hS4 : StartHeld (w.heap.size + 1) v j nm w4 := ⟨hc4, hcn4⟩
      refine hK.out _ _ (.inr hS4) ?_
      clear hK K
      refine upto_one (i := 10) (by kernel_rfl) rfl (fun K hK => ?_)
      go_simp
      refine hK.out _ _ (.inr hS4) ?_
      clear hK K
      refine upto_one (i := 11) (by kernel_rfl) rfl (fun K hK => ?_)
      go_simp
      refine hK.out _ _ (.inl rfl) ?_
      clear hK K
      refine upto_done (by kernel_rfl) ?_ _
      have hgp : gg ≠ w.heap.size + 1 := by
        rcases hat with h | h
        · exact fun e => ap (by rw [h, e])
        · omega
      have hcell : ∀ q : Nat, q ≠ 0 → (w4.setCell ⟨w.heap.size + 1, 0, none⟩ (.slice (some ⟨gg, 0, none⟩) (m + 1) qcap)).cell? ⟨w.heap.size + 1, q, none⟩ = wr.cell? ⟨w.heap.size + 1, q, none⟩ := fun q hq =>
        (World.cell?_setCell_other _ _ _ _ (addr_ne (by omega))).trans (World.cell?_of_block (a := ⟨w.heap.size + 1, q, none⟩) (hkeep _ (by show w.heap.size + 1 < _; omega)))
      have hb5 : Below w.heap.size wr (w4.setCell ⟨w.heap.size + 1, 0, none⟩ (.slice (some ⟨gg, 0, none⟩) (m + 1) qcap)) :=
        ((hbA.mono (by omega)).grown hgrow (by simp; omega) (fun k hk => by have := HM.out.own.lt k hk; omega)).setCell (p := ⟨w.heap.size + 1, 0, none⟩) (by show w.heap.size ≤ w.heap.size + 1; omega) _
      have hsz5 : wr.heap.size ≤ (w4.setCell ⟨w.heap.size + 1, 0, none⟩ (.slice (some ⟨gg, 0, none⟩) (m + 1) qcap)).heap.size := hb5.size
      have HNEXT : Hid (StartMid w (w4.setCell ⟨w.heap.size + 1, 0, none⟩ (.slice (some ⟨gg, 0, none⟩) (m + 1) qcap)) (m + 1) (.slice (some ⟨gg, 0, none⟩) (m + 1) qcap)) :=
        ⟨(Below.heap_setCell _ _ _ _ (by show w.heap.size ≠ w.heap.size + 1; omega)).trans ((hkeep _ (by omega)).trans HM.out.res), World.cell?_setCell_same _ _ _ hc4, (hcell 1 (by omega)).trans HM.out.c1, (hcell 2 (by omega)).trans HM.out.c2, (hcell 3 (by omega)).trans HM.out.c3, (hcell 4 (by omega)).trans HM.out.c4,
          by rw [World.frozen?_setCell]; exact hf4, (Below.heap_setCell _ _ _ _ (by show w.heap.size + 1 + 1 ≠ w.heap.size + 1; omega)).trans ((hkeep _ (by omega)).trans HM.out.names),
          by rw [HSTEP.out]; exact ownsRow_setFar hown1 hgp, HM.out.below.trans hb5, by omega⟩
      clear hb5 hgrow hown1 hat hbA hkeep hcell hS0 hS1 hS4 hsz5
      go_wp2_with fail
      go_roundw
      case rel => exact ⟨m + 1, j + 1, _, by omega, by have := HJ.out; omega, by go_num, HNEXT.out⟩
      case measure => simp [intOf]; omega
    · obtain rfl : m = 5 := by omega
      have hrow := HM.out.own
      obtain ⟨g, cap, rfl, hg1, hg2⟩ := hrow.form (by omega)
      have hi1 : ¬ (j : Int) < 6 := by have := HJ.out; omega
      have hc0 := HM.out.c0
      have hc1 := HM.out.c1
      have hc2 := HM.out.c2
      have hc3 := HM.out.c3
      have hc4 := HM.out.c4
      have hpr : Plain wr w.heap.size := ⟨_, _, HM.out.res⟩
      have r0 : wr.cell? ⟨w.heap.size, 0, none⟩ = some (.slice none 0 0) := cell_of_row _ _ 0 _ _ _ HM.out.res
      have r1 : wr.cell? ⟨w.heap.size, 1, none⟩ = some (.slice none 0 0) := cell_of_row _ _ 1 _ _ _ HM.out.res
      have r2 : wr.cell? ⟨w.heap.size, 2, none⟩ = some (.int .i64 0) := cell_of_row _ _ 2 _ _ _ HM.out.res
      have r3 : wr.cell? ⟨w.heap.size, 3, none⟩ = some (.int .i64 0) := cell_of_row _ _ 3 _ _ _ HM.out.res
      have r4 : wr.cell? ⟨w.heap.size, 4, none⟩ = some (.int .i64 0) := cell_of_row _ _ 4 _ _ _ HM.out.res
      have t0 := hpr.frozen 0
      have t1 := hpr.frozen 1
      have t2 := hpr.frozen 2
      have t3 := hpr.frozen 3
      have t4 := hpr.frozen 4
      have hcap : 5 ≤ cap ∧ cap ≤ maxLen := by
        rcases hrow.2 with ⟨h', _⟩ | ⟨g', cap', cur, h', _, _, h1, h2, _⟩
        · simp at h'
        · simp only [Value.slice.injEq, Option.some.injEq, Addr.mk.injEq, and_true, true_and] at h'
          obtain ⟨rfl, rfl⟩ := h'
          exact ⟨h1, h2⟩
      have HROW : Hid (BdRow (· < (set5 wr w.heap.size 0 (.slice (some ⟨g, 0, none⟩) 5 cap) (.slice none 0 0) (.int .i64 0) (.int .i64 10) (.int .i64 0)).heap.size) (set5 wr w.heap.size 0 (.slice (some ⟨g, 0, none⟩) 5 cap) (.slice none 0 0) (.int .i64 0) (.int .i64 10) (.int .i64 0)) (.slice (some ⟨g, 0, none⟩) 5 cap) startB) := by
        refine startRow hcap.1 hcap.2 (by rw [set5_size]; omega) (fun k u hk => ?_)
        have hk15 : k < 5 * 3 := by
          have := (List.getElem?_eq_some_iff.1 hk).1
          exact this
        rw [World.cell?_of_block (a := ⟨g, k, none⟩) (set5_block wr w.heap.size 0 _ _ _ _ _ (by show g ≠ w.heap.size; omega)), hrow.cellAt k hk15]
        exact hk
      have HBEL : Hid (Below w.heap.size w (set5 wr w.heap.size 0 (.slice (some ⟨g, 0, none⟩) 5 cap) (.slice none 0 0) (.int .i64 0) (.int .i64 10) (.int .i64 0))) := set5_below HM.out.below (Nat.le_refl _) _ _ _ _ _ _
      obtain ⟨z0, z1, z2, z3, z4⟩ := set5_in wr w.heap.size 0 (.slice (some ⟨g, 0, none⟩) 5 cap) (.slice none 0 0) (.int .i64 0) (.int .i64 10) (.int .i64 0) (fun k hk => match k, hk with
        | 0, _ => ⟨_, r0⟩ | 1, _ => ⟨_, r1⟩ | 2, _ => ⟨_, r2⟩ | 3, _ => ⟨_, r3⟩ | 4, _ => ⟨_, r4⟩ | n + 5, h => absurd h (by omega))
      have hr5 := HROW.out
      have hb5 := HBEL.out
      unfold set5 at z0 z1 z2 z3 z4 hr5 hb5
      simp only [Nat.zero_add] at z0 z1 z2 z3 z4 hr5 hb5
      clear HROW HBEL
      have HR5 := Lib.hid hr5
      have HB5 := Lib.hid hb5
      clear hr5 hb5 hrow
      go_wp2_with fail
      refine bodyPost_ret (v := stateV (some ⟨g, 0, none⟩) 5 cap) (by simp [results, Try.results65, go_sem, stateV, z0, z1, z2, z3, z4]) rfl ⟨g, cap, rfl, HR5.out, HB5.out⟩
end Go.Proofs.Ytlmplfpdmelcjaa
