/- The draw of two sets of scopes. -/
import Derived.Test.YtaihblfabaijoaaDrawSets
import Derived.Test.YtaihblfabaijoaaOpenBy
namespace Go.Proofs.Ytaihblfabaijoaa
open Go.RowKit
set_option linter.unusedVariables false
set_option linter.unusedSimpArgs false
def setsTwo : List (List Int) := [[], [1], [2], [1, 2], [1, 3], [1, 2, 3], [3, 1]]
set_option maxRecDepth 100000 in
set_option maxHeartbeats 1000000 in
theorem drawTwo_any (v : Value) (n : Nat) (w : World) (h : Bytes w v n) :
    Calls Try.prog 15 #[v] w
      fun e w' => ∃ (xa ya : Option Addr) (xl yl : List Int), e = .returned (.tuple #[.slice xa xl.length xl.length, .slice ya yl.length yl.length]) ∧ xl ∈ setsTwo ∧ yl ∈ setsTwo ∧
        IntRow (fun k => w.heap.size ≤ k ∧ k < w'.heap.size) w' (.slice xa xl.length xl.length) xl ∧ IntRow (fun k => w.heap.size ≤ k ∧ k < w'.heap.size) w' (.slice ya yl.length yl.length) yl ∧ Below w.heap.size w w' := by
  obtain ⟨a, cap, rfl, hcap, hmax, hrow⟩ := h
  go_enter Try.func15, Try.ntmps15
  go_wp2_with fail
  refine (open_any a n cap w hrow hcap hmax).mono ?_
  rintro e w1 ⟨b, rfl, hb, hrd, hbl⟩
  obtain ⟨W, hW⟩ : ∃ W, W = (((((((w1.alloc (.cells #[] 3)).alloc (.cells #[.int .i64 1] 3)).alloc (.cells #[.int .i64 2] 3)).alloc (.cells #[.int .i64 1, .int .i64 2] 3)).alloc
      (.cells #[.int .i64 1, .int .i64 3] 3)).alloc (.cells #[.int .i64 1, .int .i64 2, .int .i64 3] 3)).alloc (.cells #[.int .i64 3, .int .i64 1] 3)).alloc
      (.cells #[.slice (some ⟨w1.heap.size, 0, none⟩) 0 0, .slice (some ⟨w1.heap.size + 1, 0, none⟩) 1 1, .slice (some ⟨w1.heap.size + 1 + 1, 0, none⟩) 1 1,
        .slice (some ⟨w1.heap.size + 1 + 1 + 1, 0, none⟩) 2 2, .slice (some ⟨w1.heap.size + 1 + 1 + 1 + 1, 0, none⟩) 2 2, .slice (some ⟨w1.heap.size + 1 + 1 + 1 + 1 + 1, 0, none⟩) 3 3,
        .slice (some ⟨w1.heap.size + 1 + 1 + 1 + 1 + 1 + 1, 0, none⟩) 2 2] 23) := ⟨_, rfl⟩
  obtain ⟨hV, hB8, hz8⟩ := sets7 w1 3 23 [] [1] [2] [1, 2] [1, 3] [1, 2, 3] [3, 1] (by decide) W hW
  obtain ⟨V, hV⟩ := Classical.axiomOfChoice hV
  have HV := Lib.hid hV
  have HB8 := Lib.hid hB8
  have HW := Lib.hid hW
  have hrd8 := hrd.later hB8
  clear hV hB8 hW
  have hz1 := hbl.size
  have hcell : ∀ i, i < 7 → W.cell? ⟨w1.heap.size + 1 + 1 + 1 + 1 + 1 + 1 + 1, i, none⟩ = some (V i).1 := fun i hi => (HV.out i hi).1
  go_wp2_with fail
  have hW := HW.out
  rw [← hW]
  clear hW
  have hS0 : (fun w' : World => ∀ i, i < 7 → w'.cell? ⟨w1.heap.size + 1 + 1 + 1 + 1 + 1 + 1 + 1, i, none⟩ = some (V i).1) W.drew := hcell
  refine upto_begin (fun w' : World => ∀ i, i < 7 → w'.cell? ⟨w1.heap.size + 1 + 1 + 1 + 1 + 1 + 1 + 1, i, none⟩ = some (V i).1) 16 (by kernel_rfl) ?_
  refine upto_take (i := 0) (d := some 16) (v := ?_) rfl rfl (by kernel_rfl) (by kernel_rfl) (by kernel_rfl) (by kernel_rfl) (fun _ _ _ h => h) (Or.inl ⟨by rfl, ?_⟩) hS0 ?_
  rotate_left
  · (intro wS hSw; go_simp; try with_reducible rfl)
  try simp only [Act.put, List.setIfInBounds_toArray, List.set_cons_zero, List.set_cons_succ]
  refine upto_take (i := 1) (d := some 17) (v := ?_) rfl rfl (by kernel_rfl) (by kernel_rfl) (by kernel_rfl) (by kernel_rfl) (fun _ _ _ h => h) (Or.inl ⟨by rfl, ?_⟩) hS0 ?_
  rotate_left
  · (intro wS hSw; go_simp; try with_reducible rfl)
  try simp only [Act.put, List.setIfInBounds_toArray, List.set_cons_zero, List.set_cons_succ]
  refine upto_take (i := 2) (d := some 18) (v := ?_) rfl rfl (by kernel_rfl) (by kernel_rfl) (by kernel_rfl) (by kernel_rfl) (fun _ _ _ h => h) (Or.inl ⟨by rfl, ?_⟩) hS0 ?_
  rotate_left
  · (intro wS hSw; go_simp; try with_reducible rfl)
  try simp only [Act.put, List.setIfInBounds_toArray, List.set_cons_zero, List.set_cons_succ]
  refine upto_take (i := 3) (d := some 19) (v := ?_) rfl rfl (by kernel_rfl) (by kernel_rfl) (by kernel_rfl) (by kernel_rfl) (fun _ _ _ h => h) (Or.inl ⟨by rfl, ?_⟩) hS0 ?_
  rotate_left
  · (intro wS hSw; go_simp; try with_reducible rfl)
  try simp only [Act.put, List.setIfInBounds_toArray, List.set_cons_zero, List.set_cons_succ]
  refine upto_take (i := 8) (d := some 24) (v := ?_) rfl rfl (by kernel_rfl) (by kernel_rfl) (by kernel_rfl) (by kernel_rfl) (fun _ _ _ h => h) (Or.inl ⟨by rfl, ?_⟩) hS0 ?_
  rotate_left
  · (intro wS hSw; go_simp; try with_reducible rfl)
  try simp only [Act.put, List.setIfInBounds_toArray, List.set_cons_zero, List.set_cons_succ]
  refine upto_take (i := 9) (d := some 25) (v := ?_) rfl rfl (by kernel_rfl) (by kernel_rfl) (by kernel_rfl) (by kernel_rfl) (fun _ _ _ h => h) (Or.inl ⟨by rfl, ?_⟩) hS0 ?_
  rotate_left
  · (intro wS hSw; go_simp; try with_reducible rfl)
  try simp only [Act.put, List.setIfInBounds_toArray, List.set_cons_zero, List.set_cons_succ]
  refine upto_take (i := 10) (d := some 26) (v := ?_) rfl rfl (by kernel_rfl) (by kernel_rfl) (by kernel_rfl) (by kernel_rfl) (fun _ _ _ h => h) (Or.inl ⟨by rfl, ?_⟩) hS0 ?_
  rotate_left
  · (intro wS hSw; go_simp; try with_reducible rfl)
  try simp only [Act.put, List.setIfInBounds_toArray, List.set_cons_zero, List.set_cons_succ]
  refine upto_take (i := 7) (d := some 23) (v := ?_) rfl rfl (by kernel_rfl) (by kernel_rfl) (by kernel_rfl) (by kernel_rfl) (fun _ _ _ h => h) (Or.inl ⟨by rfl, ?_⟩) hS0 ?_
  rotate_left
  · (intro wS hSw; go_simp; try with_reducible rfl)
  try simp only [Act.put, List.setIfInBounds_toArray, List.set_cons_zero, List.set_cons_succ]
  refine upto_one (i := 4) (by kernel_rfl) rfl (fun K hK => ?_)
  go_simp
  refine (pick_any b 0 7 W.drew hrd8 (by omega) (by omega) (by omega)).mono ?_
  rintro e w2 ⟨i, hi, rfl, hr2, hk2⟩
  have hS2 : (fun w' : World => ∀ i, i < 7 → w'.cell? ⟨w1.heap.size + 1 + 1 + 1 + 1 + 1 + 1 + 1, i, none⟩ = some (V i).1) w2 := fun i hi => kept_cell hk2 (hcell i hi) (by have := hrd.lt; omega)
  refine hK.out _ _ (.inr hS2) ?_
  clear hK K
  refine upto_take (i := 5) (d := some 21) (v := ?_) rfl rfl (by kernel_rfl) (by kernel_rfl) (by kernel_rfl) (by kernel_rfl) (fun _ _ _ h => h) (Or.inl ⟨by rfl, ?_⟩) hS2 ?_
  rotate_left
  · (intro wS hSw; have hiI : (i : Int) < 7 := (by omega); go_simp; try with_reducible rfl)
  try simp only [Act.put, List.setIfInBounds_toArray, List.set_cons_zero, List.set_cons_succ]
  refine upto_take (i := 6) (d := some 22) (v := ?_) rfl rfl (by kernel_rfl) (by kernel_rfl) (by kernel_rfl) (by kernel_rfl) (fun _ _ _ h => h) (Or.inl ⟨by rfl, ?_⟩) hS2 ?_
  rotate_left
  · (intro wS hSw; have hz := hSw i hi; go_simp; try with_reducible rfl)
  try simp only [Act.put, List.setIfInBounds_toArray, List.set_cons_zero, List.set_cons_succ]
  refine upto_one (i := 11) (by kernel_rfl) rfl (fun K hK => ?_)
  go_simp
  refine (pick_any b 1 7 w2 hr2 (by omega) (by omega) (by omega)).mono ?_
  rintro e w3 ⟨j, hj, rfl, hr3, hk3⟩
  have hS3 : (fun w' : World => ∀ i, i < 7 → w'.cell? ⟨w1.heap.size + 1 + 1 + 1 + 1 + 1 + 1 + 1, i, none⟩ = some (V i).1) w3 := fun i hi => kept_cell hk3 (hS2 i hi) (by have := hrd.lt; omega)
  refine hK.out _ _ (.inr hS3) ?_
  clear hK K
  refine upto_take (i := 12) (d := some 28) (v := ?_) rfl rfl (by kernel_rfl) (by kernel_rfl) (by kernel_rfl) (by kernel_rfl) (fun _ _ _ h => h) (Or.inl ⟨by rfl, ?_⟩) hS3 ?_
  rotate_left
  · (intro wS hSw; have hiI : (j : Int) < 7 := (by omega); go_simp; try with_reducible rfl)
  try simp only [Act.put, List.setIfInBounds_toArray, List.set_cons_zero, List.set_cons_succ]
  refine upto_take (i := 13) (d := some 29) (v := ?_) rfl rfl (by kernel_rfl) (by kernel_rfl) (by kernel_rfl) (by kernel_rfl) (fun _ _ _ h => h) (Or.inl ⟨by rfl, ?_⟩) hS3 ?_
  rotate_left
  · (intro wS hSw; have hz := hSw j hj; go_simp; try with_reducible rfl)
  try simp only [Act.put, List.setIfInBounds_toArray, List.set_cons_zero, List.set_cons_succ]
  refine upto_take (i := 14) (d := some 2) (v := ?_) rfl rfl (by kernel_rfl) (by kernel_rfl) (by kernel_rfl) (by kernel_rfl) (fun _ _ _ h => h) (Or.inl ⟨by rfl, ?_⟩) hS3 ?_
  rotate_left
  · (intro wS hSw; go_simp; try with_reducible rfl)
  try simp only [Act.put, List.setIfInBounds_toArray, List.set_cons_zero, List.set_cons_succ]
  refine upto_take (i := 15) (d := some 3) (v := ?_) rfl rfl (by kernel_rfl) (by kernel_rfl) (by kernel_rfl) (by kernel_rfl) (fun _ _ _ h => h) (Or.inl ⟨by rfl, ?_⟩) hS3 ?_
  rotate_left
  · (intro wS hSw; go_simp; try with_reducible rfl)
  try simp only [Act.put, List.setIfInBounds_toArray, List.set_cons_zero, List.set_cons_succ]
  refine upto_done (by kernel_rfl) ?_ _
  go_wp2_with fail
  go_ret2
  have k8 : w.heap.size ≤ W.heap.size := by omega
  have kk : Kept b 1 2 W w3 := ((Kept.refl b 1 2 W).drew.trans hk2).trans hk3
  have up : ∀ (x : Value) (l : List Int), IntRow (fun k => w1.heap.size ≤ k ∧ k < W.heap.size) W x l → IntRow (fun k => w.heap.size ≤ k ∧ k < w3.heap.size) w3 x l := fun x l h =>
    (h.later fun k hk => kk.block k hk.2 (by have := hrd.lt; omega)).mono fun k hk => ⟨by omega, Nat.lt_of_lt_of_le hk.2 kk.size⟩
  obtain ⟨_, i1, i2, xa, i3⟩ := HV.out i hi
  obtain ⟨_, j1, j2, ya, j3⟩ := HV.out j hj
  have u1 := up _ _ i2
  have u2 := up _ _ j2
  rw [i3] at u1
  rw [j3] at u2
  exact ⟨xa, ya, (V i).2, (V j).2, by rw [← i3, ← j3]; rfl, i1, j1, u1, u2, (hbl.trans (HB8.out.mono hz1)).trans (kk.below hb k8)⟩
end Go.Proofs.Ytaihblfabaijoaa
