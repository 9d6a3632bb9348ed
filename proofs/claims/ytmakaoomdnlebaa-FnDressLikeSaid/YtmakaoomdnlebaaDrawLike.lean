/- The contract of the model's draw of a form and of a name. -/
import Derived.Test.YtmakaoomdnlebaaDrawCase
namespace Go.Proofs.Ytmakaoomdnlebaa
open Go.RowKit
set_option linter.unusedVariables false
set_option linter.unusedSimpArgs false
/-- what a draw of two forms leaves -/
def PairPost (w : World) (e : Ending) (w' : World) : Prop :=
  ∃ f f0 f1 f2 f3 g g0 g1 g2 g3, e = .returned (.tuple #[.agg #[.int .i64 f.kind, .string f.name, .int .i64 f.n, .slice f0 f.scopes.length f1, .slice f2 f.kids.length f3], .agg #[.int .i64 g.kind, .string g.name, .int .i64 g.n, .slice g0 g.scopes.length g1, .slice g2 g.kids.length g3]]) ∧ InV (fun k => w.heap.size ≤ k ∧ k < w'.heap.size) w' f (.agg #[.int .i64 f.kind, .string f.name, .int .i64 f.n, .slice f0 f.scopes.length f1, .slice f2 f.kids.length f3]) ∧ InV (fun k => w.heap.size ≤ k ∧ k < w'.heap.size) w' g (.agg #[.int .i64 g.kind, .string g.name, .int .i64 g.n, .slice g0 g.scopes.length g1, .slice g2 g.kids.length g3]) ∧ Slim 121 13 5 f ∧ Slim 121 13 5 g ∧ Below w.heap.size w w'
theorem name_slim (s : ByteArray) (h : s.size ≤ 13) (k : Nat) : Slim 121 13 k (.mk 1 s 0 [] []) := by
  have := Slim.node (m := 0) (kd := 1) (n := 0) (sc := []) h (Nat.zero_le k) (SlimAll.nil 0 13 k)
  exact this.mono (by omega) (Nat.le_refl _) (Nat.le_refl _)
theorem nameIn (φ : Nat → Prop) (w : World) (s : ByteArray) (h : s.size ≤ 13) : InV φ w (.mk 1 s 0 [] []) (.agg #[.int .i64 1, .string s, .int .i64 0, .slice none 0 0, .slice none 0 0]) := inV_leaf φ w 1 s 0 (by omega) (by omega) (by unfold maxLen; omega)
set_option maxRecDepth 100000 in
set_option maxHeartbeats 4000000 in
theorem drawLike_any (v : Value) (n : Nat) (w : World) (h : Bytes w v n) : Calls Try.prog 35 #[v] w (PairPost w) := by
  obtain ⟨a, cap, rfl, hcap, hmax, hrow⟩ := h
  have hb0 := below_alloc w (.cells #[.int .i64 0, .string { data := #[] }, .int .i64 0, .slice none 0 0, .slice none 0 0] 27)
  have hb1 : Below w.heap.size w ((w.alloc (.cells #[.int .i64 0, .string { data := #[] }, .int .i64 0, .slice none 0 0, .slice none 0 0] 27)).alloc (.cells #[.int .i64 0, .string { data := #[] }, .int .i64 0, .slice none 0 0, .slice none 0 0] 27)) := hb0.alloc (by simp) _
  have HZ1' : Hid (((w.alloc (.cells #[.int .i64 0, .string { data := #[] }, .int .i64 0, .slice none 0 0, .slice none 0 0] 27)).alloc (.cells #[.int .i64 0, .string { data := #[] }, .int .i64 0, .slice none 0 0, .slice none 0 0] 27)).heap[w.heap.size]? = some (.cells #[.int .i64 0, .string { data := #[] }, .int .i64 0, .slice none 0 0, .slice none 0 0] 27 (0, 0))) := ((below_alloc (w.alloc (.cells #[.int .i64 0, .string { data := #[] }, .int .i64 0, .slice none 0 0, .slice none 0 0] 27)) (.cells #[.int .i64 0, .string { data := #[] }, .int .i64 0, .slice none 0 0, .slice none 0 0] 27)).block _ (by simp)).trans (heap_alloc_new w _)
  have HZ2' : Hid (((w.alloc (.cells #[.int .i64 0, .string { data := #[] }, .int .i64 0, .slice none 0 0, .slice none 0 0] 27)).alloc (.cells #[.int .i64 0, .string { data := #[] }, .int .i64 0, .slice none 0 0, .slice none 0 0] 27)).heap[w.heap.size + 1]? = some (.cells #[.int .i64 0, .string { data := #[] }, .int .i64 0, .slice none 0 0, .slice none 0 0] 27 (0, 0))) := by
    have h := heap_alloc_new (w.alloc (.cells #[.int .i64 0, .string { data := #[] }, .int .i64 0, .slice none 0 0, .slice none 0 0] 27)) (.cells #[.int .i64 0, .string { data := #[] }, .int .i64 0, .slice none 0 0, .slice none 0 0] 27)
    rw [size_alloc'] at h
    exact h
  have HBY : Hid (Bytes ((w.alloc (.cells #[.int .i64 0, .string { data := #[] }, .int .i64 0, .slice none 0 0, .slice none 0 0] 27)).alloc (.cells #[.int .i64 0, .string { data := #[] }, .int .i64 0, .slice none 0 0, .slice none 0 0] 27)) (.slice a n cap) n) := ⟨a, cap, rfl, hcap, hmax, hrow.later (same_below hb1) fun k hk => by have := hb1.size; omega⟩
  have HB1 := Lib.hid hb1
  clear hb0 hb1 hrow
  go_enter Try.func35, Try.ntmps35
  go_wp2_with fail
  refine (l2Case_any _ n _ HBY.out).mono ?_
  rintro e w2 ⟨f, f0, f1, f2, f3, scope, rfl, hin, hsl, hsc, hb2⟩
  have hs2 : w.heap.size + 2 ≤ w2.heap.size := by have := hb2.size; simp at this; omega
  have hb3 := below_alloc w2 (.cells #[.int .i64 f.kind, .string f.name, .int .i64 f.n, .slice f0 f.scopes.length f1, .slice f2 f.kids.length f3] 27)
  have HB3 : Hid (Below w.heap.size w (w2.alloc (.cells #[.int .i64 f.kind, .string f.name, .int .i64 f.n, .slice f0 f.scopes.length f1, .slice f2 f.kids.length f3] 27))) := (HB1.out.trans (hb2.mono (by simp <;> omega))).alloc (by omega) _
  have hbb : Below ((w.alloc (.cells #[.int .i64 0, .string { data := #[] }, .int .i64 0, .slice none 0 0, .slice none 0 0] 27)).alloc (.cells #[.int .i64 0, .string { data := #[] }, .int .i64 0, .slice none 0 0, .slice none 0 0] 27)).heap.size ((w.alloc (.cells #[.int .i64 0, .string { data := #[] }, .int .i64 0, .slice none 0 0, .slice none 0 0] 27)).alloc (.cells #[.int .i64 0, .string { data := #[] }, .int .i64 0, .slice none 0 0, .slice none 0 0] 27)) (w2.alloc (.cells #[.int .i64 f.kind, .string f.name, .int .i64 f.n, .slice f0 f.scopes.length f1, .slice f2 f.kids.length f3] 27)) := hb2.trans (hb3.mono hb2.size)
  have HZ1a := Lib.hid ((hbb.block _ (by simp; omega)).trans HZ1'.out)
  have HZ2a := Lib.hid ((hbb.block _ (by simp)).trans HZ2'.out)
  obtain ⟨a', cap', e', hcap', hmax', hrow'⟩ := HBY.out
  injection e' with e1 e2 e3
  subst e1 e3
  have HROW : Hid (ByteRow (· < (w2.alloc (.cells #[.int .i64 f.kind, .string f.name, .int .i64 f.n, .slice f0 f.scopes.length f1, .slice f2 f.kids.length f3] 27)).heap.size) (w2.alloc (.cells #[.int .i64 f.kind, .string f.name, .int .i64 f.n, .slice f0 f.scopes.length f1, .slice f2 f.kids.length f3] 27)) a n) := hrow'.later (same_below hbb) fun k hk => Nat.lt_of_lt_of_le hk hbb.size
  have HI2 : Hid (InV (fun k => w.heap.size + 2 ≤ k ∧ k < w2.heap.size) (w2.alloc (.cells #[.int .i64 f.kind, .string f.name, .int .i64 f.n, .slice f0 f.scopes.length f1, .slice f2 f.kids.length f3] 27)) f (.agg #[.int .i64 f.kind, .string f.name, .int .i64 f.n, .slice f0 f.scopes.length f1, .slice f2 f.kids.length f3])) := InV.mono (fun k hk => ⟨by have := hk.1; simp at this; omega, hk.2⟩) _ _ (InV.later (Same.of_below hb3 fun k hk => hk.2) _ _ hin)
  have HX2 := Lib.hid (FormBox.fresh w2 f f0 f2 f1 f3 27)
  have HSLF := Lib.hid hsl
  clear hin hsl hsc hb2 hb3 hbb hrow' HZ1' HZ2' HBY
  go_wp2_with fail
  refine (open_any a n cap _ HROW.out hcap hmax).mono ?_
  rintro e w3 ⟨b, rfl, hb, hrd, hbl⟩
  rw [size_alloc'] at hb hrd
  have hs3 : w2.heap.size + 1 ≤ w3.heap.size := by have := hbl.size; simpa using this
  have HB0 : Hid (Below w.heap.size w w3) := HB3.out.trans (hbl.mono (by simp <;> omega))
  have HZ1 := Lib.hid ((hbl.block _ (by simp; omega)).trans HZ1a.out)
  have HZ2 := Lib.hid ((hbl.block _ (by simp; omega)).trans HZ2a.out)
  have HI3 : Hid (InV (fun k => w.heap.size + 2 ≤ k ∧ k < w2.heap.size) w3 f (.agg #[.int .i64 f.kind, .string f.name, .int .i64 f.n, .slice f0 f.scopes.length f1, .slice f2 f.kids.length f3])) := InV.later (fun k hk => hbl.block k (by simp; omega)) _ _ HI2.out
  have HX3 := Lib.hid (HX2.out.later hbl)
  have hbw := hrd.lt
  have HR3 := Lib.hid hrd
  clear hrd hbl HZ1a HZ2a HI2 HX2 HROW HB3
  go_wp2_with fail
  refine (pick_any b 0 12 w3 HR3.out (by omega) (by omega) (by omega)).mono ?_
  rintro e w4 ⟨x, hx, rfl, hr4, hk4⟩
  have hs4 := hk4.size
  have HK4 := Lib.hid hk4
  have HR4 := Lib.hid hr4
  have hnb : w2.heap.size ≠ b := by omega
  have HX4 : Hid (FormBox w4 w2.heap.size f f0 f1 f2 f3) := by
    obtain ⟨x0, x1, x2, x3, x4⟩ := HX3.out
    exact ⟨kept_cell hk4 x0 hnb, kept_cell hk4 x1 hnb, kept_cell hk4 x2 hnb, kept_cell hk4 x3 hnb, kept_cell hk4 x4 hnb⟩
  have HI4 : Hid (InV (fun k => w.heap.size + 2 ≤ k ∧ k < w2.heap.size) w4 f (.agg #[.int .i64 f.kind, .string f.name, .int .i64 f.n, .slice f0 f.scopes.length f1, .slice f2 f.kids.length f3])) := InV.later (fun k hk => hk4.block k (by omega) (by omega)) _ _ HI3.out
  clear hr4 hk4 HX3 HI3 HR3
  by_cases hx0 : x = 0
  · subst hx0
    obtain ⟨x0, x1, x2, x3, x4⟩ := HX4.out
    go_wp2_with fail
    have hS0 : (fun WS : World => FormBox WS w2.heap.size f f0 f1 f2 f3) w4.drew := HX4.out
    have hsd : w4.drew.heap.size = w4.heap.size := rfl
    have HRD := Lib.hid (HR4.out.drew)
    refine upto_begin (fun WS : World => FormBox WS w2.heap.size f f0 f1 f2 f3) 5 (by kernel_rfl) ?_
    refine upto_take (i := 0) (d := some 17) (v := ?_) rfl rfl (by kernel_rfl) (by kernel_rfl) (by kernel_rfl) (by kernel_rfl) (fun _ _ _ h => h) (Or.inl ⟨by rfl, ?_⟩) hS0 ?_
    rotate_left
    · (intro wS hSw; obtain ⟨_, _, _, _, _⟩ := hSw; go_simp; try with_reducible rfl)
    try simp only [Act.put, List.setIfInBounds_toArray, List.set_cons_zero, List.set_cons_succ]
    refine upto_take (i := 1) (d := some 18) (v := ?_) rfl rfl (by kernel_rfl) (by kernel_rfl) (by kernel_rfl) (by kernel_rfl) (fun _ _ _ h => h) (Or.inl ⟨by rfl, ?_⟩) hS0 ?_
    rotate_left
    · (intro wS hSw; obtain ⟨_, _, _, _, _⟩ := hSw; go_simp; try with_reducible rfl)
    try simp only [Act.put, List.setIfInBounds_toArray, List.set_cons_zero, List.set_cons_succ]
    refine upto_one (i := 2) (by kernel_rfl) rfl (fun K hK => ?_)
    go_simp
    refine (l1Some_any 1 1 _ b (0 + 1) w4.drew rfl (by omega) HRD.out (by have := pickS_four 1 (by omega); omega)).mono ?_
    rintro e wA ⟨s5, v5, q5, rfl, hi5, hsl5, hq5, hr5, hk5⟩
    obtain ⟨g0, g1, g2, g3, rfl⟩ := hi5.form
    obtain ⟨g, hg⟩ : ∃ g, g = s5 := ⟨_, rfl⟩
    rw [← hg] at hi5 hsl5
    rw [← hg]
    clear hg
    have hkA : Kept b 1 2 w4 wA := ((Kept.refl b 1 2 w4).drew).trans hk5
    have hgA : InV (fun k => w4.heap.size ≤ k ∧ k < wA.heap.size) wA g (.agg #[.int .i64 g.kind, .string g.name, .int .i64 g.n, .slice g0 g.scopes.length g1, .slice g2 g.kids.length g3]) := hi5
    have HSLG : Hid (Slim 121 13 5 g) := hsl5.mono (by have := (pickS_four 1 (by omega)).2; omega) (Nat.le_refl _) (by omega)
    have hrA := hr5
    have hSA : (fun WS : World => FormBox WS w2.heap.size f f0 f1 f2 f3) wA := by
      obtain ⟨s0, s1, s2, s3, s4⟩ := hS0
      exact ⟨kept_cell hkA s0 hnb, kept_cell hkA s1 hnb, kept_cell hkA s2 hnb, kept_cell hkA s3 hnb, kept_cell hkA s4 hnb⟩
    refine hK.out _ _ (.inr hSA) ?_
    clear hK K hk5 hr5 hi5 hsl5 hS0
    have hsA : w4.heap.size ≤ wA.heap.size := hkA.size
    have hkAll := HK4.out.trans hkA
    have hne : w2.heap.size ≠ b := by have := HR4.out.lt; omega
    have hzA : wA.heap[w.heap.size]? = some (.cells #[.int .i64 0, .string { data := #[] }, .int .i64 0, .slice none 0 0, .slice none 0 0] 27 (0, 0)) := (hkAll.block _ (by omega) (by omega)).trans HZ1.out
    have hzB : wA.heap[w.heap.size + 1]? = some (.cells #[.int .i64 0, .string { data := #[] }, .int .i64 0, .slice none 0 0, .slice none 0 0] 27 (0, 0)) := (hkAll.block _ (by omega) (by omega)).trans HZ2.out
    obtain ⟨r0, r1, r2, r3, r4, t0, t1, t2, t3, t4⟩ := zeroFacts hzA
    have HTH := Lib.hid (zeroThere hzA)
    have HZB := Lib.hid hzB
    have hinA : InV (fun k => w.heap.size + 2 ≤ k ∧ k < w2.heap.size) wA f (.agg #[.int .i64 f.kind, .string f.name, .int .i64 f.n, .slice f0 f.scopes.length f1, .slice f2 f.kids.length f3]) := InV.later (w := w4) (fun k hk => hkA.block k (by omega) (by omega)) _ _ HI4.out
    have HIA := Lib.hid hinA
    have HKA := Lib.hid hkAll
    have HGA : Hid (InV (fun k => w4.heap.size ≤ k ∧ k < wA.heap.size) wA g (.agg #[.int .i64 g.kind, .string g.name, .int .i64 g.n, .slice g0 g.scopes.length g1, .slice g2 g.kids.length g3])) := hgA
    have HRA : Hid (b < wA.heap.size) := hrA.lt
    clear hkA hkAll hinA hzA hzB hrA hgA
    refine upto_one (i := 3) (by kernel_rfl) rfl (fun K hK => ?_)
    go_simp
    refine gen_world' (fun wB hB => ?_)
    have heB : wB = set5 wA w.heap.size 0 (.int .i64 f.kind) (.string f.name) (.int .i64 f.n) (.slice f0 f.scopes.length f1) (.slice f2 f.kids.length f3) := by rw [hB]; simp only [set5, Nat.zero_add]
    have hblk : ∀ k, k ≠ w.heap.size → wB.heap[k]? = wA.heap[k]? := fun k hk => by rw [heB]; exact set5_block _ _ _ _ _ _ _ _ hk
    have hS3 : (fun WS : World => FormBox WS w2.heap.size f f0 f1 f2 f3) wB := by
      obtain ⟨s0, s1, s2, s3, s4⟩ := hSA
      have hb := hblk w2.heap.size (by omega)
      exact ⟨(World.cell?_of_block (a := ⟨w2.heap.size, 0, none⟩) hb).trans s0, (World.cell?_of_block (a := ⟨w2.heap.size, 1, none⟩) hb).trans s1, (World.cell?_of_block (a := ⟨w2.heap.size, 2, none⟩) hb).trans s2, (World.cell?_of_block (a := ⟨w2.heap.size, 3, none⟩) hb).trans s3, (World.cell?_of_block (a := ⟨w2.heap.size, 4, none⟩) hb).trans s4⟩
    refine hK.out _ _ (.inr hS3) ?_
    clear hK K hB
    have HZF : Hid (FormBox wB w.heap.size f f0 f1 f2 f3) := by unfold Hid; rw [heB]; exact set5_in wA w.heap.size 0 (.int .i64 f.kind) (.string f.name) (.int .i64 f.n) (.slice f0 f.scopes.length f1) (.slice f2 f.kids.length f3) HTH.out
    have hsB : wB.heap.size = wA.heap.size := by rw [heB]; exact set5_size _ _ _ _ _ _ _ _
    have HSB := Lib.hid hsB
    have hsB1 : wA.heap.size ≤ wB.heap.size := by omega
    have HIB : Hid (InV (fun k => w.heap.size + 2 ≤ k ∧ k < w2.heap.size) wB f (.agg #[.int .i64 f.kind, .string f.name, .int .i64 f.n, .slice f0 f.scopes.length f1, .slice f2 f.kids.length f3])) := InV.later (w := wA) (fun k hk => hblk k (by omega)) _ _ HIA.out
    have HGB : Hid (InV (fun k => w4.heap.size ≤ k ∧ k < wA.heap.size) wB g (.agg #[.int .i64 g.kind, .string g.name, .int .i64 g.n, .slice g0 g.scopes.length g1, .slice g2 g.kids.length g3])) := InV.later (w := wA) (fun k hk => hblk k (by omega)) _ _ HGA.out
    have hzB2 : wB.heap[w.heap.size + 1]? = some (.cells #[.int .i64 0, .string { data := #[] }, .int .i64 0, .slice none 0 0, .slice none 0 0] 27 (0, 0)) := (hblk _ (by omega)).trans HZB.out
    have HBB : Hid (Below w.heap.size w wB) := by
      unfold Hid
      rw [heB]
      exact set5_below (HB0.out.trans (HKA.out.below (by omega) (by omega))) (b := w.heap.size) (Nat.le_refl _) 0 _ _ _ _ _
    clear r0 r1 r2 r3 r4 t0 t1 t2 t3 t4 heB hsB hSA HTH x0 x1 x2 x3 x4
    obtain ⟨r0, r1, r2, r3, r4, t0, t1, t2, t3, t4⟩ := zeroFacts hzB2
    have HTH := Lib.hid (zeroThere hzB2)
    clear hzB2
    refine upto_one (i := 4) (by kernel_rfl) rfl (fun K hK => ?_)
    go_simp
    refine gen_world' (fun wC hC => ?_)
    have heC : wC = set5 wB (w.heap.size + 1) 0 (.int .i64 g.kind) (.string g.name) (.int .i64 g.n) (.slice g0 g.scopes.length g1) (.slice g2 g.kids.length g3) := by rw [hC]; simp only [set5, Nat.zero_add]
    have hblk2 : ∀ k, k ≠ w.heap.size + 1 → wC.heap[k]? = wB.heap[k]? := fun k hk => by rw [heC]; exact set5_block _ _ _ _ _ _ _ _ hk
    have hS4 : (fun WS : World => FormBox WS w2.heap.size f f0 f1 f2 f3) wC := by
      obtain ⟨s0, s1, s2, s3, s4⟩ := hS3
      have hb := hblk2 w2.heap.size (by omega)
      exact ⟨(World.cell?_of_block (a := ⟨w2.heap.size, 0, none⟩) hb).trans s0, (World.cell?_of_block (a := ⟨w2.heap.size, 1, none⟩) hb).trans s1, (World.cell?_of_block (a := ⟨w2.heap.size, 2, none⟩) hb).trans s2, (World.cell?_of_block (a := ⟨w2.heap.size, 3, none⟩) hb).trans s3, (World.cell?_of_block (a := ⟨w2.heap.size, 4, none⟩) hb).trans s4⟩
    refine hK.out _ _ (.inr hS4) ?_
    clear hK K hC
    have hsC : wC.heap.size = wB.heap.size := by rw [heC]; exact set5_size _ _ _ _ _ _ _ _
    obtain ⟨z0, z1, z2, z3, z4⟩ : FormBox wC w.heap.size f f0 f1 f2 f3 := by
      obtain ⟨s0, s1, s2, s3, s4⟩ := HZF.out
      have hb := hblk2 w.heap.size (by omega)
      exact ⟨(World.cell?_of_block (a := ⟨w.heap.size, 0, none⟩) hb).trans s0, (World.cell?_of_block (a := ⟨w.heap.size, 1, none⟩) hb).trans s1, (World.cell?_of_block (a := ⟨w.heap.size, 2, none⟩) hb).trans s2, (World.cell?_of_block (a := ⟨w.heap.size, 3, none⟩) hb).trans s3, (World.cell?_of_block (a := ⟨w.heap.size, 4, none⟩) hb).trans s4⟩
    obtain ⟨y0, y1, y2, y3, y4⟩ : FormBox wC (w.heap.size + 1) g g0 g1 g2 g3 := by rw [heC]; exact set5_in wB (w.heap.size + 1) 0 (.int .i64 g.kind) (.string g.name) (.int .i64 g.n) (.slice g0 g.scopes.length g1) (.slice g2 g.kids.length g3) HTH.out
    have HIC : Hid (InV (fun k => w.heap.size ≤ k ∧ k < wC.heap.size) wC f (.agg #[.int .i64 f.kind, .string f.name, .int .i64 f.n, .slice f0 f.scopes.length f1, .slice f2 f.kids.length f3])) := InV.mono (fun k hk => by have := HSB.out; omega) _ _ (InV.later (w := wB) (fun k hk => hblk2 k (by omega)) _ _ HIB.out)
    have HGC : Hid (InV (fun k => w.heap.size ≤ k ∧ k < wC.heap.size) wC g (.agg #[.int .i64 g.kind, .string g.name, .int .i64 g.n, .slice g0 g.scopes.length g1, .slice g2 g.kids.length g3])) := InV.mono (fun k hk => by have := HSB.out; omega) _ _ (InV.later (w := wB) (fun k hk => hblk2 k (by omega)) _ _ HGB.out)
    have HBC : Hid (Below w.heap.size w wC) := by
      unfold Hid
      rw [heC]
      exact set5_below HBB.out (b := w.heap.size + 1) (by omega) 0 _ _ _ _ _
    clear r0 r1 r2 r3 r4 t0 t1 t2 t3 t4 heC hsC hblk hblk2 hS3 hS4 HTH
    refine upto_done (by kernel_rfl) ?_ _
    go_wp2_with fail
    refine bodyPost_ret (v := .tuple #[.agg #[.int .i64 f.kind, .string f.name, .int .i64 f.n, .slice f0 f.scopes.length f1, .slice f2 f.kids.length f3], .agg #[.int .i64 g.kind, .string g.name, .int .i64 g.n, .slice g0 g.scopes.length g1, .slice g2 g.kids.length g3]]) (by simp [results, Try.results35, go_sem, z0, z1, z2, z3, z4, y0, y1, y2, y3, y4]) rfl ?_
    exact ⟨f, f0, f1, f2, f3, g, g0, g1, g2, g3, rfl, HIC.out, HGC.out, HSLF.out, HSLG.out, HBC.out⟩
  · have hx1 : ((x : Int) == 0) = false := by rw [beq_eq_false_iff_ne]; omega
    clear hx0
    obtain ⟨x0, x1, x2, x3, x4⟩ := HX4.out
    go_wp2_with fail
    have hS0 : (fun WS : World => FormBox WS w2.heap.size f f0 f1 f2 f3) w4.drew := HX4.out
    have hsd : w4.drew.heap.size = w4.heap.size := rfl
    have HRD := Lib.hid (HR4.out.drew)
    refine upto_begin (fun WS : World => FormBox WS w2.heap.size f f0 f1 f2 f3) 6 (by kernel_rfl) ?_
    refine upto_take (i := 0) (d := some 20) (v := ?_) rfl rfl (by kernel_rfl) (by kernel_rfl) (by kernel_rfl) (by kernel_rfl) (fun _ _ _ h => h) (Or.inl ⟨by rfl, ?_⟩) hS0 ?_
    rotate_left
    · (intro wS hSw; obtain ⟨_, _, _, _, _⟩ := hSw; go_simp; try with_reducible rfl)
    try simp only [Act.put, List.setIfInBounds_toArray, List.set_cons_zero, List.set_cons_succ]
    refine upto_take (i := 1) (d := some 21) (v := ?_) rfl rfl (by kernel_rfl) (by kernel_rfl) (by kernel_rfl) (by kernel_rfl) (fun _ _ _ h => h) (Or.inl ⟨by rfl, ?_⟩) hS0 ?_
    rotate_left
    · (intro wS hSw; obtain ⟨_, _, _, _, _⟩ := hSw; go_simp; try with_reducible rfl)
    try simp only [Act.put, List.setIfInBounds_toArray, List.set_cons_zero, List.set_cons_succ]
    refine upto_one (i := 2) (by kernel_rfl) rfl (fun K hK => ?_)
    go_simp
    refine (l1Name_any _ w4.drew).mono ?_
    rintro e w5 ⟨rfl, hb5⟩
    have hb45 : Below w4.heap.size w4 w5 := below_drew hb5
    have hk5 : Kept b 1 2 w4 w5 := Kept.of_below hb45 HR4.out.lt
    have hs5 : w4.heap.size ≤ w5.heap.size := hb45.size
    have HR5 := Lib.hid (HR4.out.later hb45)
    have hS1 : (fun WS : World => FormBox WS w2.heap.size f f0 f1 f2 f3) w5 := by
      obtain ⟨s0, s1, s2, s3, s4⟩ := hS0
      exact ⟨kept_cell hk5 s0 hnb, kept_cell hk5 s1 hnb, kept_cell hk5 s2 hnb, kept_cell hk5 s3 hnb, kept_cell hk5 s4 hnb⟩
    refine hK.out _ _ (.inr hS1) ?_
    clear hK K hb5 hb45
    refine upto_one (i := 3) (by kernel_rfl) rfl (fun K hK => ?_)
    go_simp
    refine (l1Dress_aux 1 (.mk 1 ⟨#[120]⟩ 0 [] []) _ _ b (0 + 1) w5 (by simp [Fm.count, countAll]) HR5.out (by simp [Fm.count, countAll]) (nameIn _ _ _ (by decide)) (by decide) (name_slim _ (by decide) 3).2).mono ?_
    rintro e wA ⟨g, v6, q6, rfl, hi6, hdr, hq6, hrA, hk6⟩
    obtain ⟨g0, g1, g2, g3, rfl⟩ := hi6.form
    have hkA : Kept b 1 2 w4 wA := hk5.trans hk6
    have hgA : InV (fun k => w4.heap.size ≤ k ∧ k < wA.heap.size) wA g (.agg #[.int .i64 g.kind, .string g.name, .int .i64 g.n, .slice g0 g.scopes.length g1, .slice g2 g.kids.length g3]) := InV.mono (fun k hk => ⟨by omega, hk.2⟩) _ _ hi6
    have HSLG : Hid (Slim 121 13 5 g) := ⟨by have h := hdr.count; simp [Fm.count, countAll] at h; omega, fun x hx => by have := hdr.slim x hx; omega⟩
    have hSA : (fun WS : World => FormBox WS w2.heap.size f f0 f1 f2 f3) wA := by
      obtain ⟨s0, s1, s2, s3, s4⟩ := hS0
      exact ⟨kept_cell hkA s0 hnb, kept_cell hkA s1 hnb, kept_cell hkA s2 hnb, kept_cell hkA s3 hnb, kept_cell hkA s4 hnb⟩
    refine hK.out _ _ (.inr hSA) ?_
    clear hK K hk5 hk6 hi6 hdr hS0 hS1 HR5
    have hsA : w4.heap.size ≤ wA.heap.size := hkA.size
    have hkAll := HK4.out.trans hkA
    have hne : w2.heap.size ≠ b := by have := HR4.out.lt; omega
    have hzA : wA.heap[w.heap.size]? = some (.cells #[.int .i64 0, .string { data := #[] }, .int .i64 0, .slice none 0 0, .slice none 0 0] 27 (0, 0)) := (hkAll.block _ (by omega) (by omega)).trans HZ1.out
    have hzB : wA.heap[w.heap.size + 1]? = some (.cells #[.int .i64 0, .string { data := #[] }, .int .i64 0, .slice none 0 0, .slice none 0 0] 27 (0, 0)) := (hkAll.block _ (by omega) (by omega)).trans HZ2.out
    obtain ⟨r0, r1, r2, r3, r4, t0, t1, t2, t3, t4⟩ := zeroFacts hzA
    have HTH := Lib.hid (zeroThere hzA)
    have HZB := Lib.hid hzB
    have hinA : InV (fun k => w.heap.size + 2 ≤ k ∧ k < w2.heap.size) wA f (.agg #[.int .i64 f.kind, .string f.name, .int .i64 f.n, .slice f0 f.scopes.length f1, .slice f2 f.kids.length f3]) := InV.later (w := w4) (fun k hk => hkA.block k (by omega) (by omega)) _ _ HI4.out
    have HIA := Lib.hid hinA
    have HKA := Lib.hid hkAll
    have HGA : Hid (InV (fun k => w4.heap.size ≤ k ∧ k < wA.heap.size) wA g (.agg #[.int .i64 g.kind, .string g.name, .int .i64 g.n, .slice g0 g.scopes.length g1, .slice g2 g.kids.length g3])) := hgA
    have HRA : Hid (b < wA.heap.size) := hrA.lt
    clear hkA hkAll hinA hzA hzB hrA hgA
    refine upto_one (i := 4) (by kernel_rfl) rfl (fun K hK => ?_)
    go_simp
    refine gen_world' (fun wB hB => ?_)
    have heB : wB = set5 wA w.heap.size 0 (.int .i64 f.kind) (.string f.name) (.int .i64 f.n) (.slice f0 f.scopes.length f1) (.slice f2 f.kids.length f3) := by rw [hB]; simp only [set5, Nat.zero_add]
    have hblk : ∀ k, k ≠ w.heap.size → wB.heap[k]? = wA.heap[k]? := fun k hk => by rw [heB]; exact set5_block _ _ _ _ _ _ _ _ hk
    have hS3 : (fun WS : World => FormBox WS w2.heap.size f f0 f1 f2 f3) wB := by
      obtain ⟨s0, s1, s2, s3, s4⟩ := hSA
      have hb := hblk w2.heap.size (by omega)
      exact ⟨(World.cell?_of_block (a := ⟨w2.heap.size, 0, none⟩) hb).trans s0, (World.cell?_of_block (a := ⟨w2.heap.size, 1, none⟩) hb).trans s1, (World.cell?_of_block (a := ⟨w2.heap.size, 2, none⟩) hb).trans s2, (World.cell?_of_block (a := ⟨w2.heap.size, 3, none⟩) hb).trans s3, (World.cell?_of_block (a := ⟨w2.heap.size, 4, none⟩) hb).trans s4⟩
    refine hK.out _ _ (.inr hS3) ?_
    clear hK K hB
    have HZF : Hid (FormBox wB w.heap.size f f0 f1 f2 f3) := by unfold Hid; rw [heB]; exact set5_in wA w.heap.size 0 (.int .i64 f.kind) (.string f.name) (.int .i64 f.n) (.slice f0 f.scopes.length f1) (.slice f2 f.kids.length f3) HTH.out
    have hsB : wB.heap.size = wA.heap.size := by rw [heB]; exact set5_size _ _ _ _ _ _ _ _
    have HSB := Lib.hid hsB
    have hsB1 : wA.heap.size ≤ wB.heap.size := by omega
    have HIB : Hid (InV (fun k => w.heap.size + 2 ≤ k ∧ k < w2.heap.size) wB f (.agg #[.int .i64 f.kind, .string f.name, .int .i64 f.n, .slice f0 f.scopes.length f1, .slice f2 f.kids.length f3])) := InV.later (w := wA) (fun k hk => hblk k (by omega)) _ _ HIA.out
    have HGB : Hid (InV (fun k => w4.heap.size ≤ k ∧ k < wA.heap.size) wB g (.agg #[.int .i64 g.kind, .string g.name, .int .i64 g.n, .slice g0 g.scopes.length g1, .slice g2 g.kids.length g3])) := InV.later (w := wA) (fun k hk => hblk k (by omega)) _ _ HGA.out
    have hzB2 : wB.heap[w.heap.size + 1]? = some (.cells #[.int .i64 0, .string { data := #[] }, .int .i64 0, .slice none 0 0, .slice none 0 0] 27 (0, 0)) := (hblk _ (by omega)).trans HZB.out
    have HBB : Hid (Below w.heap.size w wB) := by
      unfold Hid
      rw [heB]
      exact set5_below (HB0.out.trans (HKA.out.below (by omega) (by omega))) (b := w.heap.size) (Nat.le_refl _) 0 _ _ _ _ _
    clear r0 r1 r2 r3 r4 t0 t1 t2 t3 t4 heB hsB hSA HTH x0 x1 x2 x3 x4
    obtain ⟨r0, r1, r2, r3, r4, t0, t1, t2, t3, t4⟩ := zeroFacts hzB2
    have HTH := Lib.hid (zeroThere hzB2)
    clear hzB2
    refine upto_one (i := 5) (by kernel_rfl) rfl (fun K hK => ?_)
    go_simp
    refine gen_world' (fun wC hC => ?_)
    have heC : wC = set5 wB (w.heap.size + 1) 0 (.int .i64 g.kind) (.string g.name) (.int .i64 g.n) (.slice g0 g.scopes.length g1) (.slice g2 g.kids.length g3) := by rw [hC]; simp only [set5, Nat.zero_add]
    have hblk2 : ∀ k, k ≠ w.heap.size + 1 → wC.heap[k]? = wB.heap[k]? := fun k hk => by rw [heC]; exact set5_block _ _ _ _ _ _ _ _ hk
    have hS4 : (fun WS : World => FormBox WS w2.heap.size f f0 f1 f2 f3) wC := by
      obtain ⟨s0, s1, s2, s3, s4⟩ := hS3
      have hb := hblk2 w2.heap.size (by omega)
      exact ⟨(World.cell?_of_block (a := ⟨w2.heap.size, 0, none⟩) hb).trans s0, (World.cell?_of_block (a := ⟨w2.heap.size, 1, none⟩) hb).trans s1, (World.cell?_of_block (a := ⟨w2.heap.size, 2, none⟩) hb).trans s2, (World.cell?_of_block (a := ⟨w2.heap.size, 3, none⟩) hb).trans s3, (World.cell?_of_block (a := ⟨w2.heap.size, 4, none⟩) hb).trans s4⟩
    refine hK.out _ _ (.inr hS4) ?_
    clear hK K hC
    have hsC : wC.heap.size = wB.heap.size := by rw [heC]; exact set5_size _ _ _ _ _ _ _ _
    obtain ⟨z0, z1, z2, z3, z4⟩ : FormBox wC w.heap.size f f0 f1 f2 f3 := by
      obtain ⟨s0, s1, s2, s3, s4⟩ := HZF.out
      have hb := hblk2 w.heap.size (by omega)
      exact ⟨(World.cell?_of_block (a := ⟨w.heap.size, 0, none⟩) hb).trans s0, (World.cell?_of_block (a := ⟨w.heap.size, 1, none⟩) hb).trans s1, (World.cell?_of_block (a := ⟨w.heap.size, 2, none⟩) hb).trans s2, (World.cell?_of_block (a := ⟨w.heap.size, 3, none⟩) hb).trans s3, (World.cell?_of_block (a := ⟨w.heap.size, 4, none⟩) hb).trans s4⟩
    obtain ⟨y0, y1, y2, y3, y4⟩ : FormBox wC (w.heap.size + 1) g g0 g1 g2 g3 := by rw [heC]; exact set5_in wB (w.heap.size + 1) 0 (.int .i64 g.kind) (.string g.name) (.int .i64 g.n) (.slice g0 g.scopes.length g1) (.slice g2 g.kids.length g3) HTH.out
    have HIC : Hid (InV (fun k => w.heap.size ≤ k ∧ k < wC.heap.size) wC f (.agg #[.int .i64 f.kind, .string f.name, .int .i64 f.n, .slice f0 f.scopes.length f1, .slice f2 f.kids.length f3])) := InV.mono (fun k hk => by have := HSB.out; omega) _ _ (InV.later (w := wB) (fun k hk => hblk2 k (by omega)) _ _ HIB.out)
    have HGC : Hid (InV (fun k => w.heap.size ≤ k ∧ k < wC.heap.size) wC g (.agg #[.int .i64 g.kind, .string g.name, .int .i64 g.n, .slice g0 g.scopes.length g1, .slice g2 g.kids.length g3])) := InV.mono (fun k hk => by have := HSB.out; omega) _ _ (InV.later (w := wB) (fun k hk => hblk2 k (by omega)) _ _ HGB.out)
    have HBC : Hid (Below w.heap.size w wC) := by
      unfold Hid
      rw [heC]
      exact set5_below HBB.out (b := w.heap.size + 1) (by omega) 0 _ _ _ _ _
    clear r0 r1 r2 r3 r4 t0 t1 t2 t3 t4 heC hsC hblk hblk2 hS3 hS4 HTH
    refine upto_done (by kernel_rfl) ?_ _
    go_wp2_with fail
    refine bodyPost_ret (v := .tuple #[.agg #[.int .i64 f.kind, .string f.name, .int .i64 f.n, .slice f0 f.scopes.length f1, .slice f2 f.kids.length f3], .agg #[.int .i64 g.kind, .string g.name, .int .i64 g.n, .slice g0 g.scopes.length g1, .slice g2 g.kids.length g3]]) (by simp [results, Try.results35, go_sem, z0, z1, z2, z3, z4, y0, y1, y2, y3, y4]) rfl ?_
    exact ⟨f, f0, f1, f2, f3, g, g0, g1, g2, g3, rfl, HIC.out, HGC.out, HSLF.out, HSLG.out, HBC.out⟩
end Go.Proofs.Ytmakaoomdnlebaa
