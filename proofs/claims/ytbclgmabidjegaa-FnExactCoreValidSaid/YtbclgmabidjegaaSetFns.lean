/- The contracts of impl's sets of numbers: union. -/
import Derived.Test.YtbclgmabidjegaaData
import Derived.Test.YtbclgmabidjegaaSetLay
import Derived.Test.YtbclgmabidjegaaFolds
import Derived.Test.YtbclgmabidjegaaMids
import Derived.Shelf.SortM.Plain
import Derived.Shelf.SlicesG.CompactI
namespace Go.Proofs.Ytbclgmabidjegaa
open Go.RowKit Go.Lib Go.Sort
set_option linter.unusedVariables false
set_option linter.unusedSimpArgs false
/-- what a call that makes a set hands back -/
def MadeSet (l : List Int) (w : World) (e : Ending) (w' : World) : Prop :=
  ∃ g cap, e = .returned (.slice (some ⟨g, 0, none⟩) l.length cap) ∧ w'.ownsRow w.heap.size 3 1 (.slice (some ⟨g, 0, none⟩) l.length cap) l.length (l.map (Value.int .i64)) ∧ Below w.heap.size w w'
theorem intRow_cells {φ : Nat → Prop} {w : World} {a : Option Addr} {n cap : Nat} {l : List Int} (h : IntRow φ w (.slice a n cap) l) :
    n = l.length ∧ (0 < l.length → ∃ ad, a = some ad ∧ φ ad.block ∧ ∀ j v, (l.map (Value.int .i64))[j]? = some v → w.cell? (ad.add j) = some v) := by
  obtain ⟨a', cap', e, _, _, _, hrow⟩ := h
  injection e with e1 e2 e3
  subst e1 e2 e3
  refine ⟨rfl, fun hp => ?_⟩
  rcases hrow with h0 | ⟨b, off, rfl, hb, hc⟩
  · rw [h0] at hp; simp at hp
  · refine ⟨_, rfl, hb, fun j v hv => ?_⟩
    rw [List.getElem?_map] at hv
    obtain ⟨x, hx, rfl⟩ := Option.map_eq_some_iff.1 hv
    obtain ⟨hj, rfl⟩ := List.getElem?_eq_some_iff.1 hx
    have := hc j hj
    unfold Addr.add
    split
    · rename_i h; subst h; exact this
    · exact this
theorem intRow_bounds {φ : Nat → Prop} {w : World} {v : Value} {l : List Int} (h : IntRow φ w v l) : ∀ n ∈ l, -9223372036854775808 ≤ n ∧ n ≤ 9223372036854775807 := by
  obtain ⟨a', cap', e, _, _, h, _⟩ := h
  exact h
theorem sort_ints {base g n cap : Nat} {l : List Int} {w w0 : World} (h : w.ownsRow base 3 1 (.slice (some ⟨g, 0, none⟩) n cap) n (l.map (Value.int .i64))) (hb : Below base w0 w) (hn : n ≤ 1048576) :
    Calls Try.prog 243 #[.slice (some ⟨g, 0, none⟩) n cap] w fun e w' => e = .returned (.tuple #[]) ∧
      Hid (w'.ownsRow base 3 1 (.slice (some ⟨g, 0, none⟩) n cap) n ((l.mergeSort fun x y => decide (x ≤ y)).map (Value.int .i64))) ∧ Below base w0 w' := by
  obtain ⟨hh, hl, hcap, hmax, hbg, hg⟩ := row_holds h
  have := AnyM.slices_Sort_int Try.laySort g 0 cap l w hh hg (by omega)
  rw [hl] at this
  refine this.mono ?_
  rintro e w' ⟨rfl, q, os, rfl⟩
  obtain ⟨h1, h2⟩ := row_sorted (q := q) (os := os) (s := l.mergeSort fun x y => decide (x ≤ y)) h hb (by rw [List.length_mergeSort, hl])
  exact ⟨rfl, h1, h2⟩
theorem compact_ints {base g n cap : Nat} {l : List Int} {w w0 : World} (h : w.ownsRow base 3 1 (.slice (some ⟨g, 0, none⟩) n cap) n (l.map (Value.int .i64))) (hb : Below base w0 w) (hn : n ≤ 1048576) :
    Calls Try.prog 244 #[.slice (some ⟨g, 0, none⟩) n cap] w fun e w' => e = .returned (.slice (some ⟨g, 0, none⟩) (compact l).length cap) ∧
      Hid (w'.ownsRow base 3 1 (.slice (some ⟨g, 0, none⟩) (compact l).length cap) (compact l).length ((compact l).map (Value.int .i64))) ∧ Below base w0 w' := by
  obtain ⟨hh, hl, hcap, hmax, hbg, hg⟩ := row_holds h
  have := AnyG.slices_Compact_int Try.layCompact g 0 cap l w hh (by omega) (by omega)
  rw [hl] at this
  refine this.mono ?_
  rintro e w' ⟨rfl, q, rfl⟩
  obtain ⟨h1, h2⟩ := row_cut (q := q) (s := compact l) (z := List.replicate (n - (compact l).length) 0) h hb (by have := compact_length_le l; simp; omega)
  exact ⟨rfl, h1, h2⟩
set_option maxRecDepth 100000 in
set_option maxHeartbeats 1000000 in
theorem union_cons (φ : Nat → Prop) (a b : List Int) (pa pb : Option Addr) (ca cb : Nat) (w : World) (hφ : ∀ k, φ k → k < w.heap.size) (ha : IntRow φ w (.slice pa a.length ca) a) (hb : IntRow φ w (.slice pb b.length cb) b) (hl : a.length + b.length ≤ 1048576) (hb0 : 0 < b.length) :
    Calls Try.prog 242 #[.slice pa a.length ca, .slice pb b.length cb] w (MadeSet (uniqL (a ++ b)) w) := by
  have hbn : ¬ b = [] := fun e => by rw [e] at hb0; simp at hb0
  obtain ⟨A1, hA1⟩ : ∃ A1, A1 = a.map (Value.int .i64) := ⟨_, rfl⟩
  obtain ⟨B1, hB1⟩ : ∃ B1, B1 = b.map (Value.int .i64) := ⟨_, rfl⟩
  obtain ⟨Z1, hZ1⟩ : ∃ Z1, Z1 = (List.replicate (a.length + b.length) 0).map (Value.int .i64) := ⟨_, rfl⟩
  have HLA : Hid (A1.length = a.length) := by unfold Hid; rw [hA1]; simp
  have HLB : Hid (B1.length = b.length) := by unfold Hid; rw [hB1]; simp
  have HLZ : Hid (Z1.length = a.length + b.length) := by unfold Hid; rw [hZ1]; simp
  have h1A : ∀ v ∈ A1, v.oneCell' = true := by rw [hA1]; intro u hu; obtain ⟨x, _, rfl⟩ := List.mem_map.1 hu; rfl
  have h1B : ∀ v ∈ B1, v.oneCell' = true := by rw [hB1]; intro u hu; obtain ⟨x, _, rfl⟩ := List.mem_map.1 hu; rfl
  have hmk : ∀ w, (Instr.makeSlice 22 (.int .i64 ((a.length : Int) + (b.length : Int))) (.int .i64 ((a.length : Int) + (b.length : Int)))).run Try.prog w =
      .ok (.slice (some ⟨w.heap.size, 0, none⟩) (a.length + b.length) (a.length + b.length)) (w.alloc (.cells Z1.toArray 3)) := fun w => by
    rw [hZ1, ← madeCells_ints, ← Int.natCast_add]
    exact make_ints _ hl w
  have hg1 : (w.alloc (.cells Z1.toArray 3)).heap[w.heap.size]? = some (.cells Z1.toArray 3 (0, 0)) := heap_alloc_new w _
  have hi1 : (Try.prog.info? 3).map (·.size) = some 1 := by kernel_rfl
  have HN1 : Hid (A1.length = Nat.min a.length (a.length + b.length)) := by rw [HLA.out]; exact (Nat.min_eq_left (by omega)).symm
  have HP1 : Hid (0 < A1.length → ∃ ad, pa = some ad ∧ ∀ j v, A1[j]? = some v → (w.alloc (.cells Z1.toArray 3)).cell? (ad.add j) = some v) := fun h => by
    obtain ⟨ad, h1, h2, h3⟩ := (intRow_cells ha).2 (by rw [HLA.out] at h; exact h)
    refine ⟨ad, h1, fun j v hv => ?_⟩
    have hb : (ad.add j).block < w.heap.size := by have := hφ _ h2; unfold Addr.add; split <;> exact this
    rw [(below_alloc w _).cell (p := ad.add j) hb]
    exact h3 j v (by rw [← hA1]; exact hv)
  have HPB : Hid (∀ w2, Below w.heap.size w w2 → 0 < B1.length → ∃ ad, pb = some ad ∧ ∀ j v, B1[j]? = some v → w2.cell? (ad.add j) = some v) := fun w2 hw2 h => by
    obtain ⟨ad, h1, h2, h3⟩ := (intRow_cells hb).2 hb0
    refine ⟨ad, h1, fun j v hv => ?_⟩
    have hb : (ad.add j).block < w.heap.size := by have := hφ _ h2; unfold Addr.add; split <;> exact this
    rw [hw2.cell (p := ad.add j) hb]
    exact h3 j v (by rw [← hB1]; exact hv)
  have HA1 := Lib.hid hA1
  have HB1 := Lib.hid hB1
  clear ha hb hA1 hB1 hZ1
  go_enter Try.func242, Try.ntmps242
  go_wp2_with (first
    | (refine wpList_copy_splice rfl _ _ 22 22 rfl 3 Try.underlying22 hi1 _ _ _ _ _ _ rfl rfl w.heap.size 0 Z1 3 hg1 A1 HN1.out (fun h => ⟨rfl, HP1.out h⟩) (by have h1 := HLA.out; have h2 := HLZ.out; omega) h1A w.heap.size w (below_alloc w _) (Nat.le_refl _) ?_; intro w2 HG2 HB2; clear hg1; rw [HLA.out])
    | (refine wpList_copy_splice rfl _ _ 22 22 rfl 3 Try.underlying22 hi1 _ _ _ _ _ _ rfl rfl w.heap.size a.length (splice Z1 0 A1) 3 HG2.out B1 (by rw [HLB.out]; exact (Nat.min_self _).symm) (fun h => ⟨rfl, HPB.out w2 HB2 h⟩) (by have h1 := HLA.out; have h2 := HLZ.out; have h3 := HLB.out; rw [length_splice _ _ _ (by omega)]; omega) h1B w.heap.size w HB2 (Nat.le_refl _) ?_; intro w3 HG3 HB3; clear HG2 HB2))
  have hown : w3.ownsRow w.heap.size 3 1 (.slice (some ⟨w.heap.size, 0, none⟩) (a ++ b).length (a ++ b).length) (a ++ b).length ((a ++ b).map (Value.int .i64)) := by
    refine ownsRow_heap HG3.out ?_ (Nat.le_refl _) (by unfold maxLen; simp; omega)
    rw [splice2 a.length b.length A1 B1 HLA.out HLB.out Z1 HLZ.out, HA1.out, HB1.out, List.map_append]
  rw [List.length_append] at hown
  refine (sort_ints hown HB3 hl).mono ?_
  rintro e w4 ⟨rfl, HS, HB4⟩
  clear HG3 HB3 hown
  have HL1 : Hid (((a ++ b).mergeSort fun x y => decide (x ≤ y)).length = a.length + b.length) := by unfold Hid; rw [List.length_mergeSort, List.length_append]
  go_wp2_with fail
  refine (compact_ints HS.out HB4 hl).mono ?_
  rintro e w5 ⟨rfl, HC, HB5⟩
  go_wp2_with fail
  go_ret
  exact ⟨_, _, rfl, HC.out, HB5⟩
set_option maxRecDepth 100000 in
set_option maxHeartbeats 1000000 in
theorem union_nil (φ : Nat → Prop) (a : List Int) (pa pb : Option Addr) (ca cb : Nat) (w : World) (hφ : ∀ k, φ k → k < w.heap.size) (ha : IntRow φ w (.slice pa a.length ca) a) (hl : a.length ≤ 1048576) :
    Calls Try.prog 242 #[.slice pa a.length ca, .slice pb 0 cb] w (MadeSet (uniqL a) w) := by
  obtain ⟨A1, hA1⟩ : ∃ A1, A1 = a.map (Value.int .i64) := ⟨_, rfl⟩
  obtain ⟨Z1, hZ1⟩ : ∃ Z1, Z1 = (List.replicate a.length 0).map (Value.int .i64) := ⟨_, rfl⟩
  have HLA : Hid (A1.length = a.length) := by unfold Hid; rw [hA1]; simp
  have HLZ : Hid (Z1.length = a.length) := by unfold Hid; rw [hZ1]; simp
  have h1A : ∀ v ∈ A1, v.oneCell' = true := by rw [hA1]; intro u hu; obtain ⟨x, _, rfl⟩ := List.mem_map.1 hu; rfl
  have hmk : ∀ w, (Instr.makeSlice 22 (.int .i64 (a.length : Int)) (.int .i64 (a.length : Int))).run Try.prog w =
      .ok (.slice (some ⟨w.heap.size, 0, none⟩) a.length a.length) (w.alloc (.cells Z1.toArray 3)) := fun w => by
    rw [hZ1, ← madeCells_ints]
    exact make_ints _ hl w
  have hg1 : (w.alloc (.cells Z1.toArray 3)).heap[w.heap.size]? = some (.cells Z1.toArray 3 (0, 0)) := heap_alloc_new w _
  have hi1 : (Try.prog.info? 3).map (·.size) = some 1 := by kernel_rfl
  have HN1 : Hid (A1.length = Nat.min a.length a.length) := by rw [HLA.out]; exact (Nat.min_self _).symm
  have HP1 : Hid (0 < A1.length → ∃ ad, pa = some ad ∧ ∀ j v, A1[j]? = some v → (w.alloc (.cells Z1.toArray 3)).cell? (ad.add j) = some v) := fun h => by
    obtain ⟨ad, h1, h2, h3⟩ := (intRow_cells ha).2 (by rw [HLA.out] at h; exact h)
    refine ⟨ad, h1, fun j v hv => ?_⟩
    have hb : (ad.add j).block < w.heap.size := by have := hφ _ h2; unfold Addr.add; split <;> exact this
    rw [(below_alloc w _).cell (p := ad.add j) hb]
    exact h3 j v (by rw [← hA1]; exact hv)
  have HA1 := Lib.hid hA1
  clear ha hA1 hZ1
  go_enter Try.func242, Try.ntmps242
  go_wp2_with (first
    | (refine wpList_copy_splice rfl _ _ 22 22 rfl 3 Try.underlying22 hi1 _ _ _ _ _ _ rfl rfl w.heap.size 0 Z1 3 hg1 A1 HN1.out (fun h => ⟨rfl, HP1.out h⟩) (by have h1 := HLA.out; have h2 := HLZ.out; omega) h1A w.heap.size w (below_alloc w _) (Nat.le_refl _) ?_; intro w2 HG2 HB2; clear hg1; rw [HLA.out])
    | (refine wpList_copy_nothing rfl _ _ 22 22 rfl 3 Try.underlying22 hi1 _ _ _ _ _ _ rfl rfl (Nat.zero_min _) ?_))
  have hown : w2.ownsRow w.heap.size 3 1 (.slice (some ⟨w.heap.size, 0, none⟩) a.length a.length) a.length (a.map (Value.int .i64)) := by
    refine ownsRow_heap HG2.out ?_ (Nat.le_refl _) (by unfold maxLen; omega)
    have h1 := HLA.out
    have h2 := HLZ.out
    unfold splice
    rw [List.take_zero, List.nil_append, Nat.zero_add, List.drop_eq_nil_of_le (by omega), List.append_nil, HA1.out]
  refine (sort_ints hown HB2 hl).mono ?_
  rintro e w4 ⟨rfl, HS, HB4⟩
  clear HG2 HB2 hown
  go_wp2_with fail
  refine (compact_ints HS.out HB4 hl).mono ?_
  rintro e w5 ⟨rfl, HC, HB5⟩
  go_wp2_with fail
  go_ret
  exact ⟨_, _, rfl, HC.out, HB5⟩
theorem union_any (φ : Nat → Prop) (a b : List Int) (pa pb : Option Addr) (ca cb : Nat) (w : World) (hφ : ∀ k, φ k → k < w.heap.size) (ha : IntRow φ w (.slice pa a.length ca) a) (hb : IntRow φ w (.slice pb b.length cb) b) (hl : a.length + b.length ≤ 1048576) :
    Calls Try.prog 242 #[.slice pa a.length ca, .slice pb b.length cb] w (MadeSet (uniqL (a ++ b)) w) := by
  cases b with
  | nil =>
    rw [List.append_nil]
    exact union_nil φ a pa pb ca cb w hφ ha (by simpa using hl)
  | cons x r => exact union_cons φ a (x :: r) pa pb ca cb w hφ ha hb hl (by simp)
theorem uniqL_bounds {l : List Int} (h : ∀ n ∈ l, -9223372036854775808 ≤ n ∧ n ≤ 9223372036854775807) : ∀ n ∈ uniqL l, -9223372036854775808 ≤ n ∧ n ≤ 9223372036854775807 :=
  fun n hn => h n ((mem_uniqL l n).1 hn)
/-- a set made reads as a list of numbers -/
theorem made_row {w w' : World} {g cap base : Nat} {l : List Int} (h : w.ownsRow base 3 1 (.slice (some ⟨g, 0, none⟩) l.length cap) l.length (l.map (Value.int .i64)))
    (hb : ∀ n ∈ l, -9223372036854775808 ≤ n ∧ n ≤ 9223372036854775807) (hl : Below w.heap.size w w') : IntRow (fun k => base ≤ k ∧ k < w'.heap.size) w' (.slice (some ⟨g, 0, none⟩) l.length cap) l := by
  have h1 := (h.lt _ rfl)
  have h2 := (ownsRow_ints h hb).inRow (φ := fun k => base ≤ k ∧ k < w.heap.size) (fun b hb => by rw [List.mem_singleton] at hb; subst hb; exact h1)
  exact (h2.mono (ψ := fun k => base ≤ k ∧ k < w.heap.size) (fun k hk => hk)).later (Same.of_below hl (fun k hk => hk.2)) |>.mono fun k hk => ⟨hk.1, by have := hl.size; omega⟩
end Go.Proofs.Ytbclgmabidjegaa
