/- The contracts of impl's sets of numbers: difference, symmetricDifference, ScopesWithin. -/
import Derived.Test.YtmakaoomdnlebaaSetFns
import Derived.Test.YtmakaoomdnlebaaSetLay2
import Derived.Shelf.SlicesG.SearchI
import Derived.Shelf.SlicesE.DeleteFunc
namespace Go.Proofs.Ytmakaoomdnlebaa
open Go.RowKit Go.Lib Go.Sort
set_option linter.unusedVariables false
set_option linter.unusedSimpArgs false
/-- one look into a set -/
theorem search_empty (pa : Option Addr) (ca : Nat) (x : Int) (w : World) :
    Calls Try.prog 84 #[.slice pa 0 ca, .int .i64 x] w fun e w' => e = .returned (.tuple #[.int .i64 0, .bool false]) ∧ ∃ q, w' = w.drewN q := by
  go_enter Try.func84, Try.ntmps84
  go_wp2_with fail
  go_loop [7, 8] (fun i j => i = .int .i64 0 ∧ j = .int .i64 0) (fun _ _ => 0)
  case atStart => exact ⟨rfl, rfl⟩
  case round =>
    obtain ⟨rfl, rfl⟩ := hrel
    go_wp2_with fail
    refine bodyPost_ret (v := .tuple #[.int .i64 0, .bool false]) (by simp [results, Try.results84, go_sem]) rfl ⟨rfl, 0, rfl⟩
theorem search_ints (φ : Nat → Prop) (m : List Int) (pa : Option Addr) (ca : Nat) (x : Int) (w : World) (hm : IntRow φ w (.slice pa m.length ca) m) (hs : m.Pairwise (· ≤ ·)) (hl : m.length ≤ 1048576) :
    Calls Try.prog 84 #[.slice pa m.length ca, .int .i64 x] w fun e w' => (∃ i, e = .returned (.tuple #[.int .i64 i, .bool (m.contains x)])) ∧ ∃ q, w' = w.drewN q := by
  obtain ⟨a', cap', e, _, _, _, hrow⟩ := hm
  injection e with e1 e2 e3
  subst e1 e3
  rcases hrow with rfl | ⟨b, off, rfl, _, hc⟩
  · refine (search_empty pa ca x w).mono ?_
    rintro e w' ⟨rfl, hq⟩
    exact ⟨⟨0, rfl⟩, hq⟩
  · have := AnyG.slices_BinarySearch_int Try.laySearch b off m.length ca m x w (Nat.le_refl _) (by omega) (fun j hj => by rw [hc j hj]; simp [hj]) (by rw [List.take_length]; exact hs)
    rw [List.take_length] at this
    refine this.mono ?_
    rintro e w' ⟨rfl, hq⟩
    exact ⟨⟨_, rfl⟩, hq⟩
/-- the question that the program hands to DeleteFunc -/
theorem inSet_gives (φ : Nat → Prop) (m : List Int) (pa : Option Addr) (ca : Nat) (B : Nat) (W : World) (hm : IntRow φ W (.slice pa m.length ca) m) (hs : m.Pairwise (· ≤ ·)) (hl : m.length ≤ 1048576)
    (hc : W.cell? ⟨B, 0, none⟩ = some (.slice pa m.length ca)) (x : Int) :
    FnGives Try.prog 83 #[.pointer (some ⟨B, 0, none⟩)] #[.int .i64 x] (.bool (m.contains x)) W := by
  show Calls Try.prog 83 #[.int .i64 x, .pointer (some ⟨B, 0, none⟩)] W _
  have hcon := search_ints φ m pa ca x W hm hs hl
  generalize m.contains x = r at hcon ⊢
  clear hm hs
  go_enter Try.func83, Try.ntmps83
  go_wp2_with fail
  refine hcon.mono ?_
  rintro e w' ⟨⟨i, rfl⟩, q, rfl⟩
  go_wp2_with fail
  go_ret
  exact ⟨rfl, q, rfl⟩
theorem delete_ints {g n cap B : Nat} {l : List Int} {w w0 : World} (h : w.ownsRow w0.heap.size 3 1 (.slice (some ⟨g, 0, none⟩) n cap) n (l.map (Value.int .i64))) (hb : Below w0.heap.size w0 w) (hn : n ≤ 1048576) (p : Int → Bool)
    (hg : ∀ W, Below w0.heap.size w0 W → ∀ x, FnGives Try.prog 83 #[.pointer (some ⟨B, 0, none⟩)] #[.int .i64 x] (.bool (p x)) W) :
    Calls Try.prog 82 #[.slice (some ⟨g, 0, none⟩) n cap, .func (.func 83) #[] #[.pointer (some ⟨B, 0, none⟩)]] w fun e w' =>
      e = .returned (.slice (some ⟨g, 0, none⟩) (l.filter fun x => !p x).length cap) ∧
      Hid (w'.ownsRow w0.heap.size 3 1 (.slice (some ⟨g, 0, none⟩) (l.filter fun x => !p x).length cap) (l.filter fun x => !p x).length ((l.filter fun x => !p x).map (Value.int .i64))) ∧ Below w0.heap.size w0 w' := by
  obtain ⟨hh, hl, hcap, hmax, hbg, hgl⟩ := row_holds h
  have eg : ∀ args w, (callFunc 83 args).run Try.prog w = .ok (.enter 83 args) w := enters_of Try.func83 (by kernel_rfl) rfl
  have := AnyE.slices_DeleteFunc Try.layDelete (Value.int .i64) (fun _ => rfl) p 83 #[.pointer (some ⟨B, 0, none⟩)] eg 0 Try.zeroValue3 g 0 cap l.toArray w
    (fun W x hW => hg W (hb.trans (hW.mono (by have := hb.size; omega))) x)
    (fun q os dk x _ => hg _ (below_grow' (below_putRow hb hbg) os (by have := hb.size; simp only [putRow, mapBlock, Sort.ahead, Array.size_modify]; omega)) x) hh (by simp; omega) (by simp; omega)
  simp only [List.size_toArray] at this
  rw [hl] at this
  refine this.mono ?_
  rintro e w' ⟨rfl, q, rfl⟩
  obtain ⟨h1, h2⟩ := row_cut (q := q) (s := l.filter fun x => !p x) (z := List.replicate (n - (l.filter fun x => !p x).length) 0) h hb (by have := List.length_filter_le (fun x => !p x) l; simp; omega)
  exact ⟨rfl, h1, h2⟩
set_option maxRecDepth 100000 in
set_option maxHeartbeats 1000000 in
theorem difference_any (φ : Nat → Prop) (a b : List Int) (pa pb : Option Addr) (ca cb : Nat) (w : World) (hφ : ∀ k, φ k → k < w.heap.size) (ha : IntRow φ w (.slice pa a.length ca) a) (hb : IntRow φ w (.slice pb b.length cb) b) (hl : a.length ≤ 1048576) (hlb : b.length ≤ 1048576) (hs : b.Pairwise (· ≤ ·)) :
    Calls Try.prog 59 #[.slice pa a.length ca, .slice pb b.length cb] w (MadeSet (diffL a b) w) := by
  obtain ⟨w1, hw1⟩ : ∃ w1, w1 = w.alloc (.cells #[.slice pb b.length cb] 25) := ⟨_, rfl⟩
  have hs1 : w1.heap.size = w.heap.size + 1 := by rw [hw1]; simp
  have hb1 : Below w.heap.size w w1 := by rw [hw1]; exact below_alloc w _
  have HC1 : Hid (w1.cell? ⟨w.heap.size, 0, none⟩ = some (.slice pb b.length cb)) := by unfold Hid; rw [hw1]; exact World.cell?_alloc_at _ _ _ _ rfl
  have HA := Lib.hid (ha.later (Same.of_below hb1 hφ))
  have HB := Lib.hid (hb.later (Same.of_below hb1 hφ))
  have HW1 := Lib.hid hw1
  have HGIV : Hid (∀ W, Below w1.heap.size w1 W → ∀ x, FnGives Try.prog 83 #[.pointer (some ⟨w.heap.size, 0, none⟩)] #[.int .i64 x] (.bool (b.contains x)) W) := fun W hW x =>
    inSet_gives φ b pb cb w.heap.size W (HB.out.later (Same.of_below hW (fun k hk => by have := hφ k hk; omega))) hs hlb ((hW.cell (p := ⟨w.heap.size, 0, none⟩) (by show w.heap.size < _; omega)).trans HC1.out) x
  clear ha hb hw1 hs
  go_enter Try.func59, Try.ntmps59
  go_wp2_with fail
  have hw1 := HW1.out
  rw [← hw1]
  clear hw1
  refine (union_nil φ a pa none ca 0 w1 (fun k hk => by have := hφ k hk; omega) HA.out hl).mono ?_
  rintro e w2 ⟨g, cap, rfl, hown, hb2⟩
  have HOWN := Lib.hid hown
  have HB2 := Lib.hid hb2
  have hlu := uniqL_length a
  obtain ⟨u, hu⟩ : ∃ u, u = uniqL a := ⟨_, rfl⟩
  rw [← hu] at HOWN hlu ⊢
  have HU := Lib.hid hu
  clear hown hb2 hu
  go_wp2_with fail
  refine (delete_ints HOWN.out HB2.out (by omega) (fun x => b.contains x) HGIV.out).mono ?_
  rintro e w3 ⟨rfl, HOWN3, HB3⟩
  obtain ⟨d, hd⟩ : ∃ d, d = u.filter fun x => !b.contains x := ⟨_, rfl⟩
  rw [← hd] at HOWN3 ⊢
  have HD := Lib.hid hd
  clear hd HGIV
  go_wp2_with fail
  go_ret
  have e1 : diffL a b = d := by rw [HD.out, HU.out]; rfl
  rw [e1]
  exact ⟨g, cap, rfl, ownsRow_base HOWN3.out (by omega), hb1.trans (HB3.mono (by omega))⟩
theorem diffL_bounds {l m : List Int} (h : ∀ n ∈ l, -9223372036854775808 ≤ n ∧ n ≤ 9223372036854775807) : ∀ n ∈ diffL l m, -9223372036854775808 ≤ n ∧ n ≤ 9223372036854775807 :=
  fun n hn => h n ((mem_diffL l m n).1 hn).1
set_option maxRecDepth 100000 in
set_option maxHeartbeats 1000000 in
theorem symm_any (φ : Nat → Prop) (a b : List Int) (pa pb : Option Addr) (ca cb : Nat) (w : World) (hφ : ∀ k, φ k → k < w.heap.size) (ha : IntRow φ w (.slice pa a.length ca) a) (hb : IntRow φ w (.slice pb b.length cb) b) (hl : a.length + b.length ≤ 1048576) (hsa : a.Pairwise (· ≤ ·)) (hsb : b.Pairwise (· ≤ ·)) :
    Calls Try.prog 57 #[.slice pa a.length ca, .slice pb b.length cb] w (MadeSet (symL a b) w) := by
  have HA := Lib.hid ha
  have HB := Lib.hid hb
  have HSA := Lib.hid hsa
  have HSB := Lib.hid hsb
  have HBA := Lib.hid (intRow_bounds ha)
  have HBB := Lib.hid (intRow_bounds hb)
  have hla := diffL_length a b
  have hlb := diffL_length b a
  clear ha hb hsa hsb
  go_enter Try.func57, Try.ntmps57
  go_wp2_with fail
  refine (difference_any φ a b pa pb ca cb w hφ HA.out HB.out (by omega) (by omega) HSB.out).mono ?_
  rintro e w1 ⟨g1, c1, rfl, hown1, hb1⟩
  have HO1 := Lib.hid hown1
  have HB1 := Lib.hid hb1
  obtain ⟨d1, hd1⟩ : ∃ d, d = diffL a b := ⟨_, rfl⟩
  rw [← hd1] at HO1 hla ⊢
  have HD1 := Lib.hid hd1
  clear hown1 hb1 hd1
  go_wp2_with fail
  refine (difference_any φ b a pb pa cb ca w1 (fun k hk => Nat.lt_of_lt_of_le (hφ k hk) HB1.out.size) (HB.out.later (Same.of_below HB1.out hφ)) (HA.out.later (Same.of_below HB1.out hφ)) (by omega) (by omega) HSA.out).mono ?_
  rintro e w2 ⟨g2, c2, rfl, hown2, hb2⟩
  have HO2 := Lib.hid hown2
  have HB2 := Lib.hid hb2
  obtain ⟨d2, hd2⟩ : ∃ d, d = diffL b a := ⟨_, rfl⟩
  rw [← hd2] at HO2 hlb ⊢
  have HD2 := Lib.hid hd2
  clear hown2 hb2 hd2
  go_wp2_with fail
  have r1 : IntRow (· < w2.heap.size) w2 (.slice (some ⟨g1, 0, none⟩) d1.length c1) d1 :=
    (made_row HO1.out (by rw [HD1.out]; exact diffL_bounds HBA.out) HB2.out).mono fun k hk => hk.2
  have r2 : IntRow (· < w2.heap.size) w2 (.slice (some ⟨g2, 0, none⟩) d2.length c2) d2 :=
    (made_row HO2.out (by rw [HD2.out]; exact diffL_bounds HBB.out) (Below.refl _ _)).mono fun k hk => hk.2
  refine (union_any (· < w2.heap.size) d1 d2 _ _ _ _ w2 (fun k hk => hk) r1 r2 (by omega)).mono ?_
  rintro e w3 ⟨g3, c3, rfl, hown3, hb3⟩
  have HO3 := Lib.hid hown3
  have e1 : symL a b = uniqL (d1 ++ d2) := by rw [HD1.out, HD2.out]; rfl
  rw [← e1] at HO3 ⊢
  clear hown3 e1 r1 r2
  go_wp2_with fail
  go_ret
  have hz1 := HB1.out.size
  have hz2 := HB2.out.size
  exact ⟨g3, c3, rfl, ownsRow_base HO3.out (by omega), HB1.out.trans ((HB2.out.mono (by omega)).trans (hb3.mono (by omega)))⟩
theorem within_iff (a b : List Int) : decide ((diffL a (uniqL b)).length = 0) = a.all fun x => hasB b x := by
  rw [Bool.eq_iff_iff, decide_eq_true_eq, List.all_eq_true, List.length_eq_zero_iff]
  constructor
  · intro h x hx
    rw [hasB_iff]
    have : x ∉ diffL a (uniqL b) := by rw [h]; simp
    rw [mem_diffL, mem_uniqL] at this
    exact Classical.byContradiction fun hn => this ⟨hx, hn⟩
  · intro h
    apply List.eq_nil_iff_forall_not_mem.2
    intro x hx
    rw [mem_diffL, mem_uniqL] at hx
    exact hx.2 ((hasB_iff b x).1 (h x hx.1))
set_option maxRecDepth 100000 in
set_option maxHeartbeats 1000000 in
theorem implWithin_any (φ : Nat → Prop) (a b : List Int) (pa pb : Option Addr) (ca cb : Nat) (w : World) (hφ : ∀ k, φ k → k < w.heap.size) (ha : IntRow φ w (.slice pa a.length ca) a) (hb : IntRow φ w (.slice pb b.length cb) b) (hl : a.length ≤ 1048576) (hlb : b.length ≤ 1048576) :
    Calls Try.prog 29 #[.slice pa a.length ca, .slice pb b.length cb] w fun e w' => e = .returned (.bool (a.all fun x => hasB b x)) ∧ Below w.heap.size w w' := by
  have HA := Lib.hid ha
  have HB := Lib.hid hb
  have HBB := Lib.hid (intRow_bounds hb)
  have hlu := uniqL_length b
  have HWI := Lib.hid (within_iff a b)
  clear ha hb
  go_enter Try.func29, Try.ntmps29
  go_wp2_with fail
  refine (union_nil φ b pb none cb 0 w hφ HB.out hlb).mono ?_
  rintro e w1 ⟨g1, c1, rfl, hown1, hb1⟩
  have HO1 := Lib.hid hown1
  have HB1 := Lib.hid hb1
  obtain ⟨u, hu⟩ : ∃ u, u = uniqL b := ⟨_, rfl⟩
  rw [← hu] at HO1 hlu HWI ⊢
  have HU := Lib.hid hu
  clear hown1 hb1 hu
  go_wp2_with fail
  have hz1 := HB1.out.size
  have r1 : IntRow (· < w1.heap.size) w1 (.slice (some ⟨g1, 0, none⟩) u.length c1) u :=
    (made_row HO1.out (by rw [HU.out]; exact uniqL_bounds HBB.out) (Below.refl _ _)).mono fun k hk => hk.2
  have r2 : IntRow (· < w1.heap.size) w1 (.slice pa a.length ca) a := (HA.out.later (Same.of_below HB1.out hφ)).mono fun k hk => by have := hφ k hk; omega
  refine (difference_any (· < w1.heap.size) a u pa _ ca _ w1 (fun k hk => hk) r2 r1 hl (by omega) (by rw [HU.out]; exact (uniqL_asc b).le)).mono ?_
  rintro e w2 ⟨g2, c2, rfl, hown2, hb2⟩
  have HB2 := Lib.hid hb2
  have HWI2 : Hid (decide ((diffL a u).length = 0) = a.all fun x => hasB b x) := HWI.out
  generalize diffL a u = d at HWI2 ⊢
  clear hown2 hb2 r1 r2 HWI
  go_wp2_with fail
  go_ret
  refine ⟨ret_bool ?_, HB1.out.trans (HB2.out.mono (by omega))⟩
  rw [← HWI2.out, Bool.eq_iff_iff, beq_iff_eq, decide_eq_true_eq]
  omega
end Go.Proofs.Ytmakaoomdnlebaa
