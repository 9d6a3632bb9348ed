/- The contract of the model's draw of a form with scopes, and of a scope. -/
import Derived.Test.YtmakaoomdnlebaaDrawMut
import Derived.Test.YtmakaoomdnlebaaDrawForm
import Derived.Test.YtmakaoomdnlebaaOpenBy
namespace Go.Proofs.Ytmakaoomdnlebaa
open Go.RowKit
set_option linter.unusedVariables false
set_option linter.unusedSimpArgs false
def scopesCase : List Int := [1, 2, 3, 5, 99, 0, 100]
theorem scopesCase_bounds : ∀ n ∈ scopesCase, 0 ≤ n ∧ n ≤ 100 := by decide
/-- what a draw of a form and a number leaves -/
def CasePost (w : World) (e : Ending) (w' : World) : Prop :=
  ∃ f sa scap a cap scope, e = .returned (.tuple #[.agg #[.int .i64 f.kind, .string f.name, .int .i64 f.n, .slice sa f.scopes.length scap, .slice a f.kids.length cap], .int .i64 scope]) ∧ InV (fun k => w.heap.size ≤ k ∧ k < w'.heap.size) w' f (.agg #[.int .i64 f.kind, .string f.name, .int .i64 f.n, .slice sa f.scopes.length scap, .slice a f.kids.length cap]) ∧ Slim 121 13 5 f ∧ scope ∈ scopesCase ∧ Below w.heap.size w w'
theorem Slim.big {f : Fm} (h : Slim 121 13 5 f) : f.sz ≤ 2299 := by have := h.sz; omega
theorem gen_world'' {w : World} {Q : World → Prop} (h : ∀ W', W' = w → Q W') : Q w := h w rfl
set_option maxRecDepth 100000 in
set_option maxHeartbeats 4000000 in
theorem l2Case_any (v : Value) (n : Nat) (w : World) (h : Bytes w v n) : Calls Try.prog 55 #[v] w (CasePost w) := by
  obtain ⟨a, cap, rfl, hcap, hmax, hrow⟩ := h
  have hb0 := below_alloc w (.cells #[.int .i64 0, .string { data := #[] }, .int .i64 0, .slice none 0 0, .slice none 0 0] 27)
  have hz0 := heap_alloc_new w (.cells #[.int .i64 0, .string { data := #[] }, .int .i64 0, .slice none 0 0, .slice none 0 0] 27)
  have HB0 := Lib.hid hb0
  have HZ0 := Lib.hid hz0
  have hrow0 := hrow.later (same_below hb0) (ψ := (· < (w.alloc (.cells #[.int .i64 0, .string { data := #[] }, .int .i64 0, .slice none 0 0, .slice none 0 0] 27)).heap.size)) (fun k hk => by have := hb0.size; omega)
  have HROW0 := Lib.hid hrow0
  clear hrow hb0 hz0 hrow0
  go_enter Try.func55, Try.ntmps55
  go_wp2_with fail
  refine (open_any a n cap _ HROW0.out hcap hmax).mono ?_
  rintro e w1 ⟨b, rfl, hb, hrd, hbl⟩
  rw [size_alloc'] at hb hrd
  have hs1 : w.heap.size + 1 ≤ w1.heap.size := by have := hbl.size; simpa using this
  have HB1 : Hid (Below w.heap.size w w1) := HB0.out.trans (hbl.mono (by simp))
  have HZ1 := Lib.hid ((hbl.block _ (by simp)).trans HZ0.out)
  have hbw := hrd.lt
  have HBA := Lib.hid (below_alloc w1 (.cells (([3, 2, 4] : List Int).map (Value.int .i64)).toArray 3))
  have HRA := Lib.hid (hrd.later HBA.out)
  have HROW := Lib.hid ((row_new w1 3 ([3, 2, 4] : List Int) (by simp) (by decide)).mono (ψ := fun k => k < (w1.alloc (.cells (([3, 2, 4] : List Int).map (Value.int .i64)).toArray 3)).heap.size ∧ k ≠ b) (fun k (hk : k = w1.heap.size) => ⟨by rw [size_alloc']; omega, by omega⟩))
  clear hrd hbl
  go_wp2_with fail
  refine (num_any b 0 ([3, 2, 4] : List Int) _ _ HRA.out (by omega) HROW.out (by simp) (by simp)).mono ?_
  rintro e w2 ⟨d', hd, rfl, hr2, hk2⟩
  have hs2 : w1.heap.size + 1 ≤ w2.heap.size := by have := hk2.size; simpa using this
  have HK2 : Hid (Kept b 1 2 w1 w2) := (Kept.of_below HBA.out hbw).trans hk2
  have HR2 := Lib.hid hr2
  obtain ⟨d, hd2, hd4⟩ : ∃ d : Nat, d' = (d : Int) ∧ d ≤ 4 := by
    have h : ∀ y ∈ ([3, 2, 4] : List Int), 0 ≤ y ∧ y ≤ 4 := by decide
    have h1 := h d' hd
    exact ⟨d'.toNat, by omega, by omega⟩
  subst hd2
  clear hr2 hk2 hd HROW HBA HRA
  have hpk := pickS_four d hd4
  go_wp2_with fail
  refine (l1Some_any d d _ b (0 + 1) w2 rfl hd4 HR2.out (by omega)).mono ?_
  rintro e w3 ⟨f0, v0, p3, rfl, hin3, hsl3, hp3, hr3, hk3⟩
  have hs3 := hk3.size
  have HK3 : Hid (Kept b 1 2 w1 w3) := HK2.out.trans hk3
  have HR3 := Lib.hid hr3
  have HSL3 : Hid (Slim 121 13 3 f0) := hsl3.mono hpk.2 (Nat.le_refl _) (by omega)
  have hc0 : f0.count ≤ 121 := HSL3.out.1
  have HI3 : Hid (InV (· < w3.heap.size) w3 f0 v0) := InV.mono (fun k hk => hk.2) _ _ hin3
  obtain ⟨sa0, scap0, a0, cap0, rfl⟩ := hin3.form
  clear hr3 hk3 hin3 hsl3 HK2 HR2
  go_wp2_with fail
  refine (l1Dress_aux f0.count f0 _ _ b p3 w3 (Nat.le_refl _) HR3.out (by omega) HI3.out (by have := HSL3.out.sz; omega) HSL3.out.2).mono ?_
  rintro e w4 ⟨f, v4, p4, rfl, hin4, hdr, hp4, hr4, hk4⟩
  have hs4 := hk4.size
  have HK4 : Hid (Kept b 1 2 w1 w4) := HK3.out.trans hk4
  have HSL : Hid (Slim 121 13 3 f) := ⟨Nat.le_trans hdr.count hc0, hdr.slim⟩
  have hcf : f.count ≤ 121 := HSL.out.1
  obtain ⟨sa, scap, a1, cap1, rfl⟩ := hin4.form
  have HB5 := Lib.hid (below_alloc w4 (.cells #[.int .i64 f.kind, .string f.name, .int .i64 f.n, .slice sa f.scopes.length scap, .slice a1 f.kids.length cap1] 27))
  have HR5 := Lib.hid (hr4.later HB5.out)
  have HX5 := Lib.hid (FormBox.fresh w4 f sa a1 scap cap1 27)
  have HI5 : Hid (InV (fun k => w3.heap.size ≤ k ∧ k < w4.heap.size) (w4.alloc (.cells #[.int .i64 f.kind, .string f.name, .int .i64 f.n, .slice sa f.scopes.length scap, .slice a1 f.kids.length cap1] 27)) f (.agg #[.int .i64 f.kind, .string f.name, .int .i64 f.n, .slice sa f.scopes.length scap, .slice a1 f.kids.length cap1])) := InV.later (Same.of_below HB5.out fun k hk => hk.2) _ _ hin4
  clear hr4 hk4 hin4 hdr HK3 HR3 HI3
  go_wp2_with fail
  refine (pick_any b p4 16 _ HR5.out (by omega) (by omega) (by omega)).mono ?_
  rintro e w6 ⟨x, hx, rfl, hr6, hk6⟩
  have hs6 : w4.heap.size + 1 ≤ w6.heap.size := by have := hk6.size; simpa using this
  have HK6 : Hid (Kept b 1 2 w1 w6) := (HK4.out.later HB5.out hbw).trans hk6
  have HR6 := Lib.hid hr6
  have HX6 : Hid (FormBox w6 w4.heap.size f sa scap a1 cap1) := by
    obtain ⟨x0, x1, x2, x3, x4⟩ := HX5.out
    have hne : w4.heap.size ≠ b := by omega
    exact ⟨kept_cell hk6 x0 hne, kept_cell hk6 x1 hne, kept_cell hk6 x2 hne, kept_cell hk6 x3 hne, kept_cell hk6 x4 hne⟩
  have HI6 : Hid (InV (fun k => w3.heap.size ≤ k ∧ k < w4.heap.size) w6 f (.agg #[.int .i64 f.kind, .string f.name, .int .i64 f.n, .slice sa f.scopes.length scap, .slice a1 f.kids.length cap1])) := InV.later (fun k hk => hk6.block k (by simp; omega) (by omega)) _ _ HI5.out
  have hfr6 : ∀ i, w6.frozen? ⟨w4.heap.size, i, none⟩ = false := fun i => by
    rw [World.frozen?_of_block (a := ⟨w4.heap.size, i, none⟩) (hk6.block w4.heap.size (by simp) (by omega))]
    exact World.frozen?_alloc_at _ _ _ _ rfl
  have HFR6 := Lib.hid hfr6
  clear hr6 hk6 HB5 HR5 HX5 HI5 HK4 hfr6
  by_cases hx0 : x = 0
  · subst hx0
    obtain ⟨x0, x1, x2, x3, x4⟩ := HX6.out
    go_wp2_with fail
    refine (l1Mutate_any (k := 3) HR6.out (by omega) (InV.mono (fun k hk => by omega) _ _ HI6.out) (by have := HSL.out.sz; omega) HSL.out.2).mono ?_
    rintro e w7 ⟨f2, v2, p7, rfl, hin7, hmu7, hp7, hr7, hk7⟩
    have hs7 := hk7.size
    have HK7 : Hid (Kept b 1 2 w6 w7) := hk7
    have HM7 : Hid (Slim 121 13 4 f2) := ⟨Nat.le_trans hmu7.count hcf, hmu7.slim⟩
    have hc2 : f2.count ≤ 121 := HM7.out.1
    have HI7 : Hid (InV (· < w7.heap.size) w7 f2 v2) := InV.mono (fun k hk => hk.2) _ _ hin7
    have HR7 := Lib.hid hr7
    obtain ⟨sa2, scap2, a2, cap2, rfl⟩ := hin7.form
    clear hk7 hin7 hmu7 hr7 x0 x1 x2 x3 x4
    go_wp2_with fail
    refine (l1Mutate_any (k := 4) HR7.out (by omega) HI7.out (by have := HM7.out.sz; omega) HM7.out.2).mono ?_
    rintro e w8 ⟨f3, v3, p8, rfl, hin8, hmu8, hp8, hr8, hk8⟩
    have hs8 := hk8.size
    have hk68 := HK7.out.trans hk8
    have HM8 : Hid (Slim 121 13 5 f3) := ⟨Nat.le_trans hmu8.count hc2, hmu8.slim⟩
    obtain ⟨sb, sbcap, b1, bcap1, rfl⟩ := hin8.form
    have hth : Plain w8 w4.heap.size → True := fun _ => trivial
    have hcell8 : ∀ i, w8.cell? ⟨w4.heap.size, i, none⟩ = w6.cell? ⟨w4.heap.size, i, none⟩ := fun i => World.cell?_of_block (a := ⟨w4.heap.size, i, none⟩) (hk68.block w4.heap.size (by omega) (by omega))
    obtain ⟨x0, x1, x2, x3, x4⟩ := HX6.out
    have y0 := (hcell8 0).trans x0
    have y1 := (hcell8 1).trans x1
    have y2 := (hcell8 2).trans x2
    have y3 := (hcell8 3).trans x3
    have y4 := (hcell8 4).trans x4
    have hfr8 : ∀ i, w8.frozen? ⟨w4.heap.size, i, none⟩ = false := fun i => (World.frozen?_of_block (a := ⟨w4.heap.size, i, none⟩) (hk68.block w4.heap.size (by omega) (by omega))).trans (HFR6.out i)
    have g0 := hfr8 0
    have g1 := hfr8 1
    have g2 := hfr8 2
    have g3 := hfr8 3
    have g4 := hfr8 4
    have hin9 : InV (fun k => w7.heap.size ≤ k ∧ k < w8.heap.size) (set5 w8 w4.heap.size 0 (.int .i64 f3.kind) (.string f3.name) (.int .i64 f3.n) (.slice sb f3.scopes.length sbcap) (.slice b1 f3.kids.length bcap1)) f3 (.agg #[.int .i64 f3.kind, .string f3.name, .int .i64 f3.n, .slice sb f3.scopes.length sbcap, .slice b1 f3.kids.length bcap1]) := InV.later (fun k hk => set5_block _ _ _ _ _ _ _ _ (by omega)) _ _ hin8
    have hx9 : FormBox (set5 w8 w4.heap.size 0 (.int .i64 f3.kind) (.string f3.name) (.int .i64 f3.n) (.slice sb f3.scopes.length sbcap) (.slice b1 f3.kids.length bcap1)) w4.heap.size f3 sb sbcap b1 bcap1 := set5_in w8 w4.heap.size 0 _ _ _ _ _ (fun j hj => by
      rw [Nat.zero_add]
      match j, hj with
      | 0, _ => exact ⟨_, y0⟩
      | 1, _ => exact ⟨_, y1⟩
      | 2, _ => exact ⟨_, y2⟩
      | 3, _ => exact ⟨_, y3⟩
      | 4, _ => exact ⟨_, y4⟩)
    have hk9 : Kept b 1 2 w1 (set5 w8 w4.heap.size 0 (.int .i64 f3.kind) (.string f3.name) (.int .i64 f3.n) (.slice sb f3.scopes.length sbcap) (.slice b1 f3.kids.length bcap1)) := by
      unfold set5
      exact (((((HK6.out.trans hk68).setNew hbw (by omega)).setNew hbw (by omega)).setNew hbw (by omega)).setNew hbw (by omega)).setNew hbw (by omega)
    have hr9 : Rd (w.heap.size + 1) (set5 w8 w4.heap.size 0 (.int .i64 f3.kind) (.string f3.name) (.int .i64 f3.n) (.slice sb f3.scopes.length sbcap) (.slice b1 f3.kids.length bcap1)) b p8 := hr8.same fun k hk => set5_block _ _ _ _ _ _ _ _ (by omega)
    have hs9 := set5_size w8 w4.heap.size 0 (.int .i64 f3.kind) (.string f3.name) (.int .i64 f3.n) (.slice sb f3.scopes.length sbcap) (.slice b1 f3.kids.length bcap1)
    have HALL := Lib.hid (And.intro hin9 (And.intro hx9 (And.intro hk9 (And.intro hr9 hs9))))
    clear hin9 hx9 hk9 hr9 hs9 hin8 hmu8 hr8 hk8 hk68 hcell8 hfr8 x0 x1 x2 x3 x4
    have HALL2 := HALL.out
    unfold set5 at HALL2
    simp only [Nat.zero_add] at HALL2
    have HALL3 := Lib.hid HALL2
    clear HALL2 HALL
    go_wp2_with fail
    refine gen_world'' (fun w9 h9 => ?_)
    rw [← h9] at HALL3
    obtain ⟨hin9, hx9, hk9, hr9, hs9e⟩ := HALL3.out
    have hs9 : w8.heap.size ≤ w9.heap.size := by omega
    have hs9' : w9.heap.size ≤ w8.heap.size := by omega
    have HI := Lib.hid hin9
    have HX := Lib.hid hx9
    have HK := Lib.hid hk9
    have HR := Lib.hid hr9
    clear hs9e h9 hin9 hx9 hk9 hr9 y0 y1 y2 y3 y4 g0 g1 g2 g3 g4 HALL3
    obtain ⟨x0, x1, x2, x3, x4⟩ := HX.out
    go_wp2_with fail
    have hS0 : (fun WS : World => FormBox WS w4.heap.size f3 sb sbcap b1 bcap1) w9.drew := HX.out
    refine upto_begin (fun WS : World => FormBox WS w4.heap.size f3 sb sbcap b1 bcap1) 6 (by kernel_rfl) ?_
    refine upto_take (i := 0) (d := some 23) (v := ?_) rfl rfl (by kernel_rfl) (by kernel_rfl) (by kernel_rfl) (by kernel_rfl) (fun _ _ _ h => h) (Or.inl ⟨by rfl, ?_⟩) hS0 ?_
    rotate_left
    · (intro wS hSw; obtain ⟨_, _, _, _, _⟩ := hSw; go_simp; try with_reducible rfl)
    try simp only [Act.put, List.setIfInBounds_toArray, List.set_cons_zero, List.set_cons_succ]
    refine upto_take (i := 1) (d := some 24) (v := ?_) rfl rfl (by kernel_rfl) (by kernel_rfl) (by kernel_rfl) (by kernel_rfl) (fun _ _ _ h => h) (Or.inl ⟨by rfl, ?_⟩) hS0 ?_
    rotate_left
    · (intro wS hSw; go_simp; try with_reducible rfl)
    try simp only [Act.put, List.setIfInBounds_toArray, List.set_cons_zero, List.set_cons_succ]
    refine upto_one (i := 2) (by kernel_rfl) rfl (fun K hK => ?_)
    go_simp
    have hbA : Below w9.drew.heap.size w9.drew (w9.drew.alloc (.cells (([1, 2, 3, 5, 99, 0, 100] : List Int).map (Value.int .i64)).toArray 3)) := below_alloc _ _
    have hsd : w9.drew.heap.size = w9.heap.size := rfl
    have HROW := Lib.hid ((row_new2 w9.drew 3 ([1, 2, 3, 5, 99, 0, 100] : List Int) (by simp) (by decide)).mono (ψ := fun k => k < (w9.drew.alloc (.cells (([1, 2, 3, 5, 99, 0, 100] : List Int).map (Value.int .i64)).toArray 3)).heap.size ∧ k ≠ b) (fun k (hk : k = w9.drew.heap.size) => ⟨by rw [size_alloc']; omega, by have := HR.out.lt; omega⟩))
    have hS1 : (fun WS : World => FormBox WS w4.heap.size f3 sb sbcap b1 bcap1) (w9.drew.alloc (.cells (([1, 2, 3, 5, 99, 0, 100] : List Int).map (Value.int .i64)).toArray 3)) := FormBox.later hS0 hbA
    refine hK.out _ _ (.inr hS1) ?_
    clear hK K
    have hbA' : Below w9.heap.size w9 (w9.drew.alloc (.cells (([1, 2, 3, 5, 99, 0, 100] : List Int).map (Value.int .i64)).toArray 3)) := below_drew hbA
    have HBA := Lib.hid hbA'
    clear hbA hbA'
    refine upto_one (i := 3) (by kernel_rfl) rfl (fun K hK => ?_)
    go_simp
    refine (num_any b p8 ([1, 2, 3, 5, 99, 0, 100] : List Int) _ _ (HR.out.later HBA.out) (by omega) HROW.out (by simp) (by simp)).mono ?_
    rintro e wA ⟨y, hy, rfl, hrA, hkA⟩
    have hsA : w9.heap.size + 1 ≤ wA.heap.size := by have h := hkA.size; rw [size_alloc'] at h; exact h
    have hkAll := (HK.out.later HBA.out hbw).trans hkA
    have hne : w4.heap.size ≠ b := (by have := HR.out.lt; omega)
    have hS2 : (fun WS : World => FormBox WS w4.heap.size f3 sb sbcap b1 bcap1) wA := by
      obtain ⟨s0, s1, s2, s3, s4⟩ := hS1
      exact ⟨kept_cell hkA s0 hne, kept_cell hkA s1 hne, kept_cell hkA s2 hne, kept_cell hkA s3 hne, kept_cell hkA s4 hne⟩
    refine hK.out _ _ (.inr hS2) ?_
    clear hK K
    have hzA : wA.heap[w.heap.size]? = some (.cells #[.int .i64 0, .string { data := #[] }, .int .i64 0, .slice none 0 0, .slice none 0 0] 27 (0, 0)) := (hkAll.block _ (by omega) (by omega)).trans HZ1.out
    obtain ⟨r0, r1, r2, r3, r4, t0, t1, t2, t3, t4⟩ := zeroFacts hzA
    have HTH := Lib.hid (zeroThere hzA)
    have hinA : InV (fun k => w7.heap.size ≤ k ∧ k < w8.heap.size) wA f3 (.agg #[.int .i64 f3.kind, .string f3.name, .int .i64 f3.n, .slice sb f3.scopes.length sbcap, .slice b1 f3.kids.length bcap1]) := InV.later (w := w9) (fun k hk => (hkA.block k (by have := HBA.out.size; omega) (by omega)).trans (HBA.out.block k (by omega))) _ _ HI.out
    have HIA := Lib.hid hinA
    have HKA := Lib.hid hkAll
    have HRA := Lib.hid hrA
    have HY : Hid (y ∈ scopesCase) := hy
    clear hrA hkA hkAll hy HROW HBA hS1 hS0 hinA hzA
    refine upto_one (i := 4) (by kernel_rfl) rfl (fun K hK => ?_)
    go_simp
    refine gen_world' (fun wZ hZ => ?_)
    have heZ : wZ = set5 wA w.heap.size 0 (.int .i64 f3.kind) (.string f3.name) (.int .i64 f3.n) (.slice sb f3.scopes.length sbcap) (.slice b1 f3.kids.length bcap1) := by rw [hZ]; simp only [set5, Nat.zero_add]
    have hS3 : (fun WS : World => FormBox WS w4.heap.size f3 sb sbcap b1 bcap1) wZ := by
      obtain ⟨s0, s1, s2, s3, s4⟩ := hS2
      have hb : wZ.heap[w4.heap.size]? = wA.heap[w4.heap.size]? := by rw [heZ]; exact set5_block _ _ _ _ _ _ _ _ (by omega)
      exact ⟨(World.cell?_of_block (a := ⟨w4.heap.size, 0, none⟩) hb).trans s0, (World.cell?_of_block (a := ⟨w4.heap.size, 1, none⟩) hb).trans s1, (World.cell?_of_block (a := ⟨w4.heap.size, 2, none⟩) hb).trans s2, (World.cell?_of_block (a := ⟨w4.heap.size, 3, none⟩) hb).trans s3, (World.cell?_of_block (a := ⟨w4.heap.size, 4, none⟩) hb).trans s4⟩
    refine hK.out _ _ (.inr hS3) ?_
    clear hK K hZ
    refine upto_take (i := 5) (d := some 3) (v := ?_) rfl rfl (by kernel_rfl) (by kernel_rfl) (by kernel_rfl) (by kernel_rfl) (fun _ _ _ h => h) (Or.inl ⟨by rfl, ?_⟩) hS3 ?_
    rotate_left
    · (intro wS hSw; go_simp; try with_reducible rfl)
    try simp only [Act.put, List.setIfInBounds_toArray, List.set_cons_zero, List.set_cons_succ]
    obtain ⟨z0, z1, z2, z3, z4⟩ : FormBox wZ w.heap.size f3 sb sbcap b1 bcap1 := by rw [heZ]; exact set5_in wA w.heap.size 0 (.int .i64 f3.kind) (.string f3.name) (.int .i64 f3.n) (.slice sb f3.scopes.length sbcap) (.slice b1 f3.kids.length bcap1) HTH.out
    have hzs : wZ.heap.size = wA.heap.size := by rw [heZ]; exact set5_size _ _ _ _ _ _ _ _
    have hinZ : InV (fun k => w.heap.size ≤ k ∧ k < wZ.heap.size) wZ f3 (.agg #[.int .i64 f3.kind, .string f3.name, .int .i64 f3.n, .slice sb f3.scopes.length sbcap, .slice b1 f3.kids.length bcap1]) := InV.mono (fun k hk => by omega) _ _ (InV.later (w := wA) (fun k hk => by rw [heZ]; exact set5_block _ _ _ _ _ _ _ _ (by omega)) _ _ HIA.out)
    have hbZ : Below w.heap.size w wZ := by
      rw [heZ]
      exact set5_below (HB1.out.trans (HKA.out.below (by omega) (by omega))) (b := w.heap.size) (Nat.le_refl _) 0 _ _ _ _ _
    have HEND := Lib.hid (And.intro hinZ hbZ)
    clear hinZ hbZ heZ hS2 hS3 r0 r1 r2 r3 r4 t0 t1 t2 t3 t4 HTH x0 x1 x2 x3 x4
    refine upto_done (by kernel_rfl) ?_ _
    go_wp2_with fail
    refine bodyPost_ret (v := .tuple #[.agg #[.int .i64 f3.kind, .string f3.name, .int .i64 f3.n, .slice sb f3.scopes.length sbcap, .slice b1 f3.kids.length bcap1], .int .i64 y]) (by simp [results, Try.results55, go_sem, z0, z1, z2, z3, z4]) rfl ?_
    exact ⟨f3, sb, sbcap, b1, bcap1, y, rfl, HEND.out.1, HM8.out, HY.out, HEND.out.2⟩
  · have hx1 : ((x : Int) == 0) = false := by rw [beq_eq_false_iff_ne]; omega
    clear hx0
    obtain ⟨x0, x1, x2, x3, x4⟩ := HX6.out
    go_wp2_with fail
    have hS0 : (fun WS : World => FormBox WS w4.heap.size f sa scap a1 cap1) w6.drew := HX6.out
    refine upto_begin (fun WS : World => FormBox WS w4.heap.size f sa scap a1 cap1) 6 (by kernel_rfl) ?_
    refine upto_take (i := 0) (d := some 23) (v := ?_) rfl rfl (by kernel_rfl) (by kernel_rfl) (by kernel_rfl) (by kernel_rfl) (fun _ _ _ h => h) (Or.inl ⟨by rfl, ?_⟩) hS0 ?_
    rotate_left
    · (intro wS hSw; obtain ⟨_, _, _, _, _⟩ := hSw; go_simp; try with_reducible rfl)
    try simp only [Act.put, List.setIfInBounds_toArray, List.set_cons_zero, List.set_cons_succ]
    refine upto_take (i := 1) (d := some 24) (v := ?_) rfl rfl (by kernel_rfl) (by kernel_rfl) (by kernel_rfl) (by kernel_rfl) (fun _ _ _ h => h) (Or.inl ⟨by rfl, ?_⟩) hS0 ?_
    rotate_left
    · (intro wS hSw; go_simp; try with_reducible rfl)
    try simp only [Act.put, List.setIfInBounds_toArray, List.set_cons_zero, List.set_cons_succ]
    refine upto_one (i := 2) (by kernel_rfl) rfl (fun K hK => ?_)
    go_simp
    have hbA : Below w6.drew.heap.size w6.drew (w6.drew.alloc (.cells (([1, 2, 3, 5, 99, 0, 100] : List Int).map (Value.int .i64)).toArray 3)) := below_alloc _ _
    have hsd : w6.drew.heap.size = w6.heap.size := rfl
    have HROW := Lib.hid ((row_new2 w6.drew 3 ([1, 2, 3, 5, 99, 0, 100] : List Int) (by simp) (by decide)).mono (ψ := fun k => k < (w6.drew.alloc (.cells (([1, 2, 3, 5, 99, 0, 100] : List Int).map (Value.int .i64)).toArray 3)).heap.size ∧ k ≠ b) (fun k (hk : k = w6.drew.heap.size) => ⟨by rw [size_alloc']; omega, by have := HR6.out.lt; omega⟩))
    have hS1 : (fun WS : World => FormBox WS w4.heap.size f sa scap a1 cap1) (w6.drew.alloc (.cells (([1, 2, 3, 5, 99, 0, 100] : List Int).map (Value.int .i64)).toArray 3)) := FormBox.later hS0 hbA
    refine hK.out _ _ (.inr hS1) ?_
    clear hK K
    have hbA' : Below w6.heap.size w6 (w6.drew.alloc (.cells (([1, 2, 3, 5, 99, 0, 100] : List Int).map (Value.int .i64)).toArray 3)) := below_drew hbA
    have HBA := Lib.hid hbA'
    clear hbA hbA'
    refine upto_one (i := 3) (by kernel_rfl) rfl (fun K hK => ?_)
    go_simp
    refine (num_any b (p4 + 1) ([1, 2, 3, 5, 99, 0, 100] : List Int) _ _ (HR6.out.later HBA.out) (by omega) HROW.out (by simp) (by simp)).mono ?_
    rintro e wA ⟨y, hy, rfl, hrA, hkA⟩
    have hsA : w6.heap.size + 1 ≤ wA.heap.size := by have h := hkA.size; rw [size_alloc'] at h; exact h
    have hkAll := (HK6.out.later HBA.out hbw).trans hkA
    have hne : w4.heap.size ≠ b := (by have := HR6.out.lt; omega)
    have hS2 : (fun WS : World => FormBox WS w4.heap.size f sa scap a1 cap1) wA := by
      obtain ⟨s0, s1, s2, s3, s4⟩ := hS1
      exact ⟨kept_cell hkA s0 hne, kept_cell hkA s1 hne, kept_cell hkA s2 hne, kept_cell hkA s3 hne, kept_cell hkA s4 hne⟩
    refine hK.out _ _ (.inr hS2) ?_
    clear hK K
    have hzA : wA.heap[w.heap.size]? = some (.cells #[.int .i64 0, .string { data := #[] }, .int .i64 0, .slice none 0 0, .slice none 0 0] 27 (0, 0)) := (hkAll.block _ (by omega) (by omega)).trans HZ1.out
    obtain ⟨r0, r1, r2, r3, r4, t0, t1, t2, t3, t4⟩ := zeroFacts hzA
    have HTH := Lib.hid (zeroThere hzA)
    have hinA : InV (fun k => w3.heap.size ≤ k ∧ k < w4.heap.size) wA f (.agg #[.int .i64 f.kind, .string f.name, .int .i64 f.n, .slice sa f.scopes.length scap, .slice a1 f.kids.length cap1]) := InV.later (w := w6) (fun k hk => (hkA.block k (by have := HBA.out.size; omega) (by omega)).trans (HBA.out.block k (by omega))) _ _ HI6.out
    have HIA := Lib.hid hinA
    have HKA := Lib.hid hkAll
    have HRA := Lib.hid hrA
    have HY : Hid (y ∈ scopesCase) := hy
    clear hrA hkA hkAll hy HROW HBA hS1 hS0 hinA hzA
    refine upto_one (i := 4) (by kernel_rfl) rfl (fun K hK => ?_)
    go_simp
    refine gen_world' (fun wZ hZ => ?_)
    have heZ : wZ = set5 wA w.heap.size 0 (.int .i64 f.kind) (.string f.name) (.int .i64 f.n) (.slice sa f.scopes.length scap) (.slice a1 f.kids.length cap1) := by rw [hZ]; simp only [set5, Nat.zero_add]
    have hS3 : (fun WS : World => FormBox WS w4.heap.size f sa scap a1 cap1) wZ := by
      obtain ⟨s0, s1, s2, s3, s4⟩ := hS2
      have hb : wZ.heap[w4.heap.size]? = wA.heap[w4.heap.size]? := by rw [heZ]; exact set5_block _ _ _ _ _ _ _ _ (by omega)
      exact ⟨(World.cell?_of_block (a := ⟨w4.heap.size, 0, none⟩) hb).trans s0, (World.cell?_of_block (a := ⟨w4.heap.size, 1, none⟩) hb).trans s1, (World.cell?_of_block (a := ⟨w4.heap.size, 2, none⟩) hb).trans s2, (World.cell?_of_block (a := ⟨w4.heap.size, 3, none⟩) hb).trans s3, (World.cell?_of_block (a := ⟨w4.heap.size, 4, none⟩) hb).trans s4⟩
    refine hK.out _ _ (.inr hS3) ?_
    clear hK K hZ
    refine upto_take (i := 5) (d := some 3) (v := ?_) rfl rfl (by kernel_rfl) (by kernel_rfl) (by kernel_rfl) (by kernel_rfl) (fun _ _ _ h => h) (Or.inl ⟨by rfl, ?_⟩) hS3 ?_
    rotate_left
    · (intro wS hSw; go_simp; try with_reducible rfl)
    try simp only [Act.put, List.setIfInBounds_toArray, List.set_cons_zero, List.set_cons_succ]
    obtain ⟨z0, z1, z2, z3, z4⟩ : FormBox wZ w.heap.size f sa scap a1 cap1 := by rw [heZ]; exact set5_in wA w.heap.size 0 (.int .i64 f.kind) (.string f.name) (.int .i64 f.n) (.slice sa f.scopes.length scap) (.slice a1 f.kids.length cap1) HTH.out
    have hzs : wZ.heap.size = wA.heap.size := by rw [heZ]; exact set5_size _ _ _ _ _ _ _ _
    have hinZ : InV (fun k => w.heap.size ≤ k ∧ k < wZ.heap.size) wZ f (.agg #[.int .i64 f.kind, .string f.name, .int .i64 f.n, .slice sa f.scopes.length scap, .slice a1 f.kids.length cap1]) := InV.mono (fun k hk => by omega) _ _ (InV.later (w := wA) (fun k hk => by rw [heZ]; exact set5_block _ _ _ _ _ _ _ _ (by omega)) _ _ HIA.out)
    have hbZ : Below w.heap.size w wZ := by
      rw [heZ]
      exact set5_below (HB1.out.trans (HKA.out.below (by omega) (by omega))) (b := w.heap.size) (Nat.le_refl _) 0 _ _ _ _ _
    have HEND := Lib.hid (And.intro hinZ hbZ)
    clear hinZ hbZ heZ hS2 hS3 r0 r1 r2 r3 r4 t0 t1 t2 t3 t4 HTH x0 x1 x2 x3 x4
    refine upto_done (by kernel_rfl) ?_ _
    go_wp2_with fail
    refine bodyPost_ret (v := .tuple #[.agg #[.int .i64 f.kind, .string f.name, .int .i64 f.n, .slice sa f.scopes.length scap, .slice a1 f.kids.length cap1], .int .i64 y]) (by simp [results, Try.results55, go_sem, z0, z1, z2, z3, z4]) rfl ?_
    exact ⟨f, sa, scap, a1, cap1, y, rfl, HEND.out.1, (HSL.out.mono (Nat.le_refl _) (Nat.le_refl _) (by omega)), HY.out, HEND.out.2⟩
end Go.Proofs.Ytmakaoomdnlebaa
