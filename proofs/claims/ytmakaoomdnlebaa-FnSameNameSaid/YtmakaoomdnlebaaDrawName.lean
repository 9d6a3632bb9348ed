/- The contract of the model's draw of two names. -/
import Derived.Test.YtmakaoomdnlebaaDrawLike
namespace Go.Proofs.Ytmakaoomdnlebaa
open Go.RowKit
set_option linter.unusedVariables false
set_option linter.unusedSimpArgs false
def names2 : List ByteArray := [⟨#[120]⟩, ⟨#[121]⟩]
theorem names2_size : ∀ y ∈ names2, y.size ≤ 13 := by decide
theorem kept_box {b fb : Nat} {f : Fm} {f0 f2 : Option Addr} {f1 f3 : Nat} {w w' : World} (hk : Kept b 1 2 w w') (h : FormBox w fb f f0 f1 f2 f3) (hn : fb ≠ b) : FormBox w' fb f f0 f1 f2 f3 :=
  ⟨kept_cell hk h.1 hn, kept_cell hk h.2.1 hn, kept_cell hk h.2.2.1 hn, kept_cell hk h.2.2.2.1 hn, kept_cell hk h.2.2.2.2 hn⟩
theorem strs_at (w : World) (T : TypeId) : ∀ i, (h : i < names2.length) → (w.alloc (.cells (names2.map Value.string).toArray T)).cell? ⟨w.heap.size, 0 + i, none⟩ = some (.string names2[i]) := fun i h => by
  rw [Nat.zero_add]
  exact (World.cell?_alloc_at _ _ _ _ rfl).trans (by simp [h])
set_option maxRecDepth 100000 in
set_option maxHeartbeats 4000000 in
theorem drawName_any (v : Value) (n : Nat) (w : World) (h : Bytes w v n) : Calls Try.prog 32 #[v] w (PairPost w) := by
  obtain ⟨a, cap, rfl, hcap, hmax, hrow⟩ := h
  have hb0 := below_alloc w (.cells #[.int .i64 0, .string { data := #[] }, .int .i64 0, .slice none 0 0, .slice none 0 0] 27)
  have hb1 : Below w.heap.size w ((w.alloc (.cells #[.int .i64 0, .string { data := #[] }, .int .i64 0, .slice none 0 0, .slice none 0 0] 27)).alloc (.cells #[.int .i64 0, .string { data := #[] }, .int .i64 0, .slice none 0 0, .slice none 0 0] 27)) := hb0.alloc (by simp) _
  have HZ1' : Hid (((w.alloc (.cells #[.int .i64 0, .string { data := #[] }, .int .i64 0, .slice none 0 0, .slice none 0 0] 27)).alloc (.cells #[.int .i64 0, .string { data := #[] }, .int .i64 0, .slice none 0 0, .slice none 0 0] 27)).heap[w.heap.size]? = some (.cells #[.int .i64 0, .string { data := #[] }, .int .i64 0, .slice none 0 0, .slice none 0 0] 27 (0, 0))) := ((below_alloc (w.alloc (.cells #[.int .i64 0, .string { data := #[] }, .int .i64 0, .slice none 0 0, .slice none 0 0] 27)) (.cells #[.int .i64 0, .string { data := #[] }, .int .i64 0, .slice none 0 0, .slice none 0 0] 27)).block _ (by simp)).trans (heap_alloc_new w _)
  have HZ2' : Hid (((w.alloc (.cells #[.int .i64 0, .string { data := #[] }, .int .i64 0, .slice none 0 0, .slice none 0 0] 27)).alloc (.cells #[.int .i64 0, .string { data := #[] }, .int .i64 0, .slice none 0 0, .slice none 0 0] 27)).heap[w.heap.size + 1]? = some (.cells #[.int .i64 0, .string { data := #[] }, .int .i64 0, .slice none 0 0, .slice none 0 0] 27 (0, 0))) := by
    have h := heap_alloc_new (w.alloc (.cells #[.int .i64 0, .string { data := #[] }, .int .i64 0, .slice none 0 0, .slice none 0 0] 27)) (.cells #[.int .i64 0, .string { data := #[] }, .int .i64 0, .slice none 0 0, .slice none 0 0] 27)
    rw [size_alloc'] at h
    exact h
  have HROW : Hid (ByteRow (· < ((w.alloc (.cells #[.int .i64 0, .string { data := #[] }, .int .i64 0, .slice none 0 0, .slice none 0 0] 27)).alloc (.cells #[.int .i64 0, .string { data := #[] }, .int .i64 0, .slice none 0 0, .slice none 0 0] 27)).heap.size) ((w.alloc (.cells #[.int .i64 0, .string { data := #[] }, .int .i64 0, .slice none 0 0, .slice none 0 0] 27)).alloc (.cells #[.int .i64 0, .string { data := #[] }, .int .i64 0, .slice none 0 0, .slice none 0 0] 27)) a n) := hrow.later (same_below hb1) fun k hk => by have := hb1.size; omega
  have HB1 := Lib.hid hb1
  clear hb0 hb1 hrow
  go_enter Try.func32, Try.ntmps32
  go_wp2_with fail
  refine (open_any a n cap _ HROW.out hcap hmax).mono ?_
  rintro e w1 ⟨b, rfl, hb, hrd, hbl⟩
  rw [size_alloc', size_alloc'] at hb hrd
  have hs1 : w.heap.size + 2 ≤ w1.heap.size := by have := hbl.size; simp at this; omega
  have HB0 : Hid (Below w.heap.size w w1) := HB1.out.trans (hbl.mono (by simp <;> omega))
  have HZ1 := Lib.hid ((hbl.block _ (by simp; omega)).trans HZ1'.out)
  have HZ2 := Lib.hid ((hbl.block _ (by simp)).trans HZ2'.out)
  have hbw := hrd.lt
  have HBA := Lib.hid (below_alloc w1 (.cells (names2.map Value.string).toArray 9))
  have HRA := Lib.hid (hrd.later HBA.out)
  have HCN := Lib.hid (strs_at w1 9)
  clear hrd hbl HZ1' HZ2' HROW
  go_wp2_with fail
  refine (of_any b 0 names2 w1.heap.size 0 2 _ HRA.out (by omega) (by omega) HCN.out (by simp [names2]) (by simp [names2]) (by simp [names2])).mono ?_
  rintro e w2 ⟨s, hs, rfl, hr2, hk2⟩
  have hs2 : w1.heap.size + 1 ≤ w2.heap.size := by have := hk2.size; simpa using this
  have HK2 : Hid (Kept b 1 2 w1 w2) := (Kept.of_below HBA.out hbw).trans hk2
  have HR2 := Lib.hid hr2
  have HSZ := Lib.hid (names2_size s hs)
  clear hr2 hk2 hs HBA HRA HCN
  go_wp2_with fail
  refine (l1Name_any s w2).mono ?_
  rintro e w3 ⟨rfl, hb3⟩
  have hs3 : w2.heap.size ≤ w3.heap.size := hb3.size
  have HK3 : Hid (Kept b 1 2 w1 w3) := HK2.out.later hb3 hbw
  have HR3 := Lib.hid (HR2.out.later hb3)
  clear hb3 HK2 HR2
  go_wp2_with fail
  refine (l1Dress_aux 1 (.mk 1 s 0 [] []) _ _ b (0 + 1) w3 (by simp [Fm.count, countAll]) HR3.out (by simp [Fm.count, countAll]) (nameIn _ _ _ HSZ.out) (by have h := (name_slim s HSZ.out 3).sz; omega) (name_slim _ HSZ.out 3).2).mono ?_
  rintro e w4 ⟨f, v4, p4, rfl, hin4, hdr, hp4, hr4, hk4⟩
  have hp4' : p4 ≤ 2 := by simp [Fm.count, countAll] at hp4; omega
  have hs4 := hk4.size
  have HK4 : Hid (Kept b 1 2 w1 w4) := HK3.out.trans hk4
  have HSLF : Hid (Slim 121 13 5 f) := ⟨by have h := hdr.count; simp [Fm.count, countAll] at h; omega, fun x hx => by have := hdr.slim x hx; omega⟩
  obtain ⟨f0, f1, f2, f3, rfl⟩ := hin4.form
  have HB5 := Lib.hid (below_alloc w4 (.cells #[.int .i64 f.kind, .string f.name, .int .i64 f.n, .slice f0 f.scopes.length f1, .slice f2 f.kids.length f3] 27))
  have HR5 := Lib.hid (hr4.later HB5.out)
  have HX5 := Lib.hid (FormBox.fresh w4 f f0 f2 f1 f3 27)
  have HI5 : Hid (InV (fun k => w3.heap.size ≤ k ∧ k < w4.heap.size) (w4.alloc (.cells #[.int .i64 f.kind, .string f.name, .int .i64 f.n, .slice f0 f.scopes.length f1, .slice f2 f.kids.length f3] 27)) f (.agg #[.int .i64 f.kind, .string f.name, .int .i64 f.n, .slice f0 f.scopes.length f1, .slice f2 f.kids.length f3])) := InV.later (Same.of_below HB5.out fun k hk => hk.2) _ _ hin4
  clear hr4 hk4 hin4 hdr HK3 HR3 hp4
  go_wp2_with fail
  refine (pick_any b p4 6 _ HR5.out (by omega) (by omega) (by omega)).mono ?_
  rintro e w6 ⟨x, hx, rfl, hr6, hk6⟩
  have hs6 : w4.heap.size + 1 ≤ w6.heap.size := by have := hk6.size; simpa using this
  have HK6 : Hid (Kept b 1 2 w1 w6) := (HK4.out.later HB5.out hbw).trans hk6
  have HR6 := Lib.hid hr6
  have hnb : w4.heap.size ≠ b := by omega
  have HX6 := Lib.hid (kept_box hk6 HX5.out hnb)
  have HI6 : Hid (InV (fun k => w3.heap.size ≤ k ∧ k < w4.heap.size) w6 f (.agg #[.int .i64 f.kind, .string f.name, .int .i64 f.n, .slice f0 f.scopes.length f1, .slice f2 f.kids.length f3])) := InV.later (fun k hk => hk6.block k (by simp; omega) (by omega)) _ _ HI5.out
  have hszf : f.sz ≤ 1048576 := by have := Slim.big HSLF.out; omega
  clear hr6 hk6 HB5 HR5 HX5 HI5 HK4
  by_cases hx0 : x = 0
  · subst hx0
    obtain ⟨x0, x1, x2, x3, x4⟩ := HX6.out
    go_wp2_with fail
    have hS0 : (fun WS : World => FormBox WS w4.heap.size f f0 f1 f2 f3) w6.drew := HX6.out
    have hsd : w6.drew.heap.size = w6.heap.size := rfl
    have HRD := Lib.hid (HR6.out.drew)
    refine upto_begin (fun WS : World => FormBox WS w4.heap.size f f0 f1 f2 f3) 7 (by kernel_rfl) ?_
    refine upto_take (i := 0) (d := some 18) (v := ?_) rfl rfl (by kernel_rfl) (by kernel_rfl) (by kernel_rfl) (by kernel_rfl) (fun _ _ _ h => h) (Or.inl ⟨by rfl, ?_⟩) hS0 ?_
    rotate_left
    · (intro wS hSw; obtain ⟨_, _, _, _, _⟩ := hSw; go_simp; try with_reducible rfl)
    try simp only [Act.put, List.setIfInBounds_toArray, List.set_cons_zero, List.set_cons_succ]
    refine upto_take (i := 1) (d := some 19) (v := ?_) rfl rfl (by kernel_rfl) (by kernel_rfl) (by kernel_rfl) (by kernel_rfl) (fun _ _ _ h => h) (Or.inl ⟨by rfl, ?_⟩) hS0 ?_
    rotate_left
    · (intro wS hSw; obtain ⟨_, _, _, _, _⟩ := hSw; go_simp; try with_reducible rfl)
    try simp only [Act.put, List.setIfInBounds_toArray, List.set_cons_zero, List.set_cons_succ]
    refine upto_take (i := 2) (d := some 20) (v := ?_) rfl rfl (by kernel_rfl) (by kernel_rfl) (by kernel_rfl) (by kernel_rfl) (fun _ _ _ h => h) (Or.inl ⟨by rfl, ?_⟩) hS0 ?_
    rotate_left
    · (intro wS hSw; obtain ⟨_, _, _, _, _⟩ := hSw; go_simp; try with_reducible rfl)
    try simp only [Act.put, List.setIfInBounds_toArray, List.set_cons_zero, List.set_cons_succ]
    refine upto_one (i := 3) (by kernel_rfl) rfl (fun K hK => ?_)
    go_simp
    refine (l1Some_any 1 1 _ b (p4 + 1) w6.drew rfl (by omega) HRD.out (by have := pickS_four 1 (by omega); omega)).mono ?_
    rintro e w7 ⟨s5, v5, q5, rfl, hi5, hsl5, hq5, hr5, hk5⟩
    have hk67 : Kept b 1 2 w6 w7 := ((Kept.refl b 1 2 w6).drew).trans hk5
    have hs67 := hk67.size
    have hsl7 : Slim 121 13 3 s5 := hsl5.mono (by have := (pickS_four 1 (by omega)).2; omega) (Nat.le_refl _) (by omega)
    have hc7 : s5.count ≤ 121 := hsl7.1
    have hpk := (pickS_four 1 (by omega)).1
    have hS1 : (fun WS : World => FormBox WS w4.heap.size f f0 f1 f2 f3) w7 := kept_box hk67 hS0 hnb
    refine hK.out _ _ (.inr hS1) ?_
    clear hK K
    obtain ⟨sa5, scap5, a5, cap5, rfl⟩ := hi5.form
    refine upto_one (i := 4) (by kernel_rfl) rfl (fun K hK => ?_)
    go_simp
    refine (l1Dress_aux s5.count s5 _ _ b q5 w7 (Nat.le_refl _) hr5 (by omega) (InV.mono (fun k hk => hk.2) _ _ hi5) (by have := hsl7.sz; omega) hsl7.2).mono ?_
    rintro e wA ⟨g, v6, q6, rfl, hi6, hdr, hq6, hrA, hk6⟩
    obtain ⟨g0, g1, g2, g3, rfl⟩ := hi6.form
    have hkA : Kept b 1 2 w6 wA := hk67.trans hk6
    have hgA : InV (fun k => w6.heap.size ≤ k ∧ k < wA.heap.size) wA g (.agg #[.int .i64 g.kind, .string g.name, .int .i64 g.n, .slice g0 g.scopes.length g1, .slice g2 g.kids.length g3]) := InV.mono (fun k hk => ⟨by omega, hk.2⟩) _ _ hi6
    have HSLG : Hid (Slim 121 13 5 g) := ⟨Nat.le_trans hdr.count hc7, fun x hx => by have := hdr.slim x hx; omega⟩
    have hSA : (fun WS : World => FormBox WS w4.heap.size f f0 f1 f2 f3) wA := kept_box hkA hS0 hnb
    refine hK.out _ _ (.inr hSA) ?_
    clear hK K hk5 hk6 hi6 hi5 hr5 hdr hS0 hS1 hsl5 hsl7 hk67
    have hsA : w6.heap.size ≤ wA.heap.size := hkA.size
    have hkAll := HK6.out.trans hkA
    have hne : w4.heap.size ≠ b := by have := HR6.out.lt; omega
    have hzA : wA.heap[w.heap.size]? = some (.cells #[.int .i64 0, .string { data := #[] }, .int .i64 0, .slice none 0 0, .slice none 0 0] 27 (0, 0)) := (hkAll.block _ (by omega) (by omega)).trans HZ1.out
    have hzB : wA.heap[w.heap.size + 1]? = some (.cells #[.int .i64 0, .string { data := #[] }, .int .i64 0, .slice none 0 0, .slice none 0 0] 27 (0, 0)) := (hkAll.block _ (by omega) (by omega)).trans HZ2.out
    obtain ⟨r0, r1, r2, r3, r4, t0, t1, t2, t3, t4⟩ := zeroFacts hzA
    have HTH := Lib.hid (zeroThere hzA)
    have HZB := Lib.hid hzB
    have hinA : InV (fun k => w3.heap.size ≤ k ∧ k < w4.heap.size) wA f (.agg #[.int .i64 f.kind, .string f.name, .int .i64 f.n, .slice f0 f.scopes.length f1, .slice f2 f.kids.length f3]) := InV.later (w := w6) (fun k hk => hkA.block k (by omega) (by omega)) _ _ HI6.out
    have HIA := Lib.hid hinA
    have HKA := Lib.hid hkAll
    have HGA : Hid (InV (fun k => w6.heap.size ≤ k ∧ k < wA.heap.size) wA g (.agg #[.int .i64 g.kind, .string g.name, .int .i64 g.n, .slice g0 g.scopes.length g1, .slice g2 g.kids.length g3])) := hgA
    have HRA : Hid (b < wA.heap.size) := hrA.lt
    clear hkA hkAll hinA hzA hzB hrA hgA
    refine upto_one (i := 5) (by kernel_rfl) rfl (fun K hK => ?_)
    go_simp
    refine gen_world' (fun wB hB => ?_)
    have heB : wB = set5 wA w.heap.size 0 (.int .i64 f.kind) (.string f.name) (.int .i64 f.n) (.slice f0 f.scopes.length f1) (.slice f2 f.kids.length f3) := by rw [hB]; simp only [set5, Nat.zero_add]
    have hblk : ∀ k, k ≠ w.heap.size → wB.heap[k]? = wA.heap[k]? := fun k hk => by rw [heB]; exact set5_block _ _ _ _ _ _ _ _ hk
    have hS3 : (fun WS : World => FormBox WS w4.heap.size f f0 f1 f2 f3) wB := by
      obtain ⟨s0, s1, s2, s3, s4⟩ := hSA
      have hb := hblk w4.heap.size (by omega)
      exact ⟨(World.cell?_of_block (a := ⟨w4.heap.size, 0, none⟩) hb).trans s0, (World.cell?_of_block (a := ⟨w4.heap.size, 1, none⟩) hb).trans s1, (World.cell?_of_block (a := ⟨w4.heap.size, 2, none⟩) hb).trans s2, (World.cell?_of_block (a := ⟨w4.heap.size, 3, none⟩) hb).trans s3, (World.cell?_of_block (a := ⟨w4.heap.size, 4, none⟩) hb).trans s4⟩
    refine hK.out _ _ (.inr hS3) ?_
    clear hK K hB
    have HZF : Hid (FormBox wB w.heap.size f f0 f1 f2 f3) := by unfold Hid; rw [heB]; exact set5_in wA w.heap.size 0 (.int .i64 f.kind) (.string f.name) (.int .i64 f.n) (.slice f0 f.scopes.length f1) (.slice f2 f.kids.length f3) HTH.out
    have hsB : wB.heap.size = wA.heap.size := by rw [heB]; exact set5_size _ _ _ _ _ _ _ _
    have HSB := Lib.hid hsB
    have hsB1 : wA.heap.size ≤ wB.heap.size := by omega
    have HIB : Hid (InV (fun k => w3.heap.size ≤ k ∧ k < w4.heap.size) wB f (.agg #[.int .i64 f.kind, .string f.name, .int .i64 f.n, .slice f0 f.scopes.length f1, .slice f2 f.kids.length f3])) := InV.later (w := wA) (fun k hk => hblk k (by omega)) _ _ HIA.out
    have HGB : Hid (InV (fun k => w6.heap.size ≤ k ∧ k < wA.heap.size) wB g (.agg #[.int .i64 g.kind, .string g.name, .int .i64 g.n, .slice g0 g.scopes.length g1, .slice g2 g.kids.length g3])) := InV.later (w := wA) (fun k hk => hblk k (by omega)) _ _ HGA.out
    have hzB2 : wB.heap[w.heap.size + 1]? = some (.cells #[.int .i64 0, .string { data := #[] }, .int .i64 0, .slice none 0 0, .slice none 0 0] 27 (0, 0)) := (hblk _ (by omega)).trans HZB.out
    have HBB : Hid (Below w.heap.size w wB) := by
      unfold Hid
      rw [heB]
      exact set5_below (HB0.out.trans (HKA.out.below (by omega) (by omega))) (b := w.heap.size) (Nat.le_refl _) 0 _ _ _ _ _
    clear r0 r1 r2 r3 r4 t0 t1 t2 t3 t4 heB hsB hSA HTH x0 x1 x2 x3 x4
    obtain ⟨r0, r1, r2, r3, r4, t0, t1, t2, t3, t4⟩ := zeroFacts hzB2
    have HTH := Lib.hid (zeroThere hzB2)
    clear hzB2
    refine upto_one (i := 6) (by kernel_rfl) rfl (fun K hK => ?_)
    go_simp
    refine gen_world' (fun wC hC => ?_)
    have heC : wC = set5 wB (w.heap.size + 1) 0 (.int .i64 g.kind) (.string g.name) (.int .i64 g.n) (.slice g0 g.scopes.length g1) (.slice g2 g.kids.length g3) := by rw [hC]; simp only [set5, Nat.zero_add]
    have hblk2 : ∀ k, k ≠ w.heap.size + 1 → wC.heap[k]? = wB.heap[k]? := fun k hk => by rw [heC]; exact set5_block _ _ _ _ _ _ _ _ hk
    have hS4 : (fun WS : World => FormBox WS w4.heap.size f f0 f1 f2 f3) wC := by
      obtain ⟨s0, s1, s2, s3, s4⟩ := hS3
      have hb := hblk2 w4.heap.size (by omega)
      exact ⟨(World.cell?_of_block (a := ⟨w4.heap.size, 0, none⟩) hb).trans s0, (World.cell?_of_block (a := ⟨w4.heap.size, 1, none⟩) hb).trans s1, (World.cell?_of_block (a := ⟨w4.heap.size, 2, none⟩) hb).trans s2, (World.cell?_of_block (a := ⟨w4.heap.size, 3, none⟩) hb).trans s3, (World.cell?_of_block (a := ⟨w4.heap.size, 4, none⟩) hb).trans s4⟩
    refine hK.out _ _ (.inr hS4) ?_
    clear hK K hC
    have hsC : wC.heap.size = wB.heap.size := by rw [heC]; exact set5_size _ _ _ _ _ _ _ _
    obtain ⟨z0, z1, z2, z3, z4⟩ : FormBox wC w.heap.size f f0 f1 f2 f3 := by
      obtain ⟨s0, s1, s2, s3, s4⟩ := HZF.out
      have hb := hblk2 w.heap.size (by omega)
      exact ⟨(World.cell?_of_block (a := ⟨w.heap.size, 0, none⟩) hb).trans s0, (World.cell?_of_block (a := ⟨w.heap.size, 1, none⟩) hb).trans s1, (World.cell?_of_block (a := ⟨w.heap.size, 2, none⟩) hb).trans s2, (World.cell?_of_block (a := ⟨w.heap.size, 3, none⟩) hb).trans s3, (World.cell?_of_block (a := ⟨w.heap.size, 4, none⟩) hb).trans s4⟩
    obtain ⟨y0, y1, y2, y3, y4⟩ : FormBox wC (w.heap.size + 1) g g0 g1 g2 g3 := by rw [heC]; exact set5_in wB (w.heap.size + 1) 0 (.int .i64 g.kind) (.string g.name) (.int .i64 g.n) (.slice g0 g.scopes.length g1) (.slice g2 g.kids.length g3) HTH.out
    have HIC : Hid (InV (fun k => w.heap.size ≤ k ∧ k < wC.heap.size) wC f (.agg #[.int .i64 f.kind, .string f.name, .int .i64 f.n, .slice f0 f.scopes.length f1, .slice f2 f.kids.length f3])) := InV.mono (fun k hk => by have := HSB.out; omega) _ _ (InV.later (w := wB) (fun k hk => hblk2 k (by omega)) _ _ HIB.out)
    have HGC : Hid (InV (fun k => w.heap.size ≤ k ∧ k < wC.heap.size) wC g (.agg #[.int .i64 g.kind, .string g.name, .int .i64 g.n, .slice g0 g.scopes.length g1, .slice g2 g.kids.length g3])) := InV.mono (fun k hk => by have := HSB.out; omega) _ _ (InV.later (w := wB) (fun k hk => hblk2 k (by omega)) _ _ HGB.out)
    have HBC : Hid (Below w.heap.size w wC) := by
      unfold Hid
      rw [heC]
      exact set5_below HBB.out (b := w.heap.size + 1) (by omega) 0 _ _ _ _ _
    clear r0 r1 r2 r3 r4 t0 t1 t2 t3 t4 heC hsC hblk hblk2 hS3 hS4 HTH
    refine upto_done (by kernel_rfl) ?_ _
    go_wp2_with fail
    refine bodyPost_ret (v := .tuple #[.agg #[.int .i64 f.kind, .string f.name, .int .i64 f.n, .slice f0 f.scopes.length f1, .slice f2 f.kids.length f3], .agg #[.int .i64 g.kind, .string g.name, .int .i64 g.n, .slice g0 g.scopes.length g1, .slice g2 g.kids.length g3]]) (by simp [results, Try.results32, go_sem, z0, z1, z2, z3, z4, y0, y1, y2, y3, y4]) rfl ?_
    exact ⟨f, f0, f1, f2, f3, g, g0, g1, g2, g3, rfl, HIC.out, HGC.out, HSLF.out, HSLG.out, HBC.out⟩
  · have hx0' : ((x : Int) == 0) = false := by rw [beq_eq_false_iff_ne]; omega
    by_cases hx1 : x = 1
    · subst hx1
      clear hx0
      obtain ⟨x0, x1, x2, x3, x4⟩ := HX6.out
      go_wp2_with fail
      have hS0 : (fun WS : World => FormBox WS w4.heap.size f f0 f1 f2 f3) w6.drew := HX6.out
      have hsd : w6.drew.heap.size = w6.heap.size := rfl
      have HRD := Lib.hid (HR6.out.drew)
      refine upto_begin (fun WS : World => FormBox WS w4.heap.size f f0 f1 f2 f3) 5 (by kernel_rfl) ?_
      refine upto_take (i := 0) (d := some 26) (v := ?_) rfl rfl (by kernel_rfl) (by kernel_rfl) (by kernel_rfl) (by kernel_rfl) (fun _ _ _ h => h) (Or.inl ⟨by rfl, ?_⟩) hS0 ?_
      rotate_left
      · (intro wS hSw; obtain ⟨_, _, _, _, _⟩ := hSw; go_simp; try with_reducible rfl)
      try simp only [Act.put, List.setIfInBounds_toArray, List.set_cons_zero, List.set_cons_succ]
      refine upto_take (i := 1) (d := some 27) (v := ?_) rfl rfl (by kernel_rfl) (by kernel_rfl) (by kernel_rfl) (by kernel_rfl) (fun _ _ _ h => h) (Or.inl ⟨by rfl, ?_⟩) hS0 ?_
      rotate_left
      · (intro wS hSw; obtain ⟨_, _, _, _, _⟩ := hSw; go_simp; try with_reducible rfl)
      try simp only [Act.put, List.setIfInBounds_toArray, List.set_cons_zero, List.set_cons_succ]
      refine upto_one (i := 2) (by kernel_rfl) rfl (fun K hK => ?_)
      go_simp
      refine (specCopyT_any w6.heap.size f _ w6.drew (Nat.le_refl _) (InV.mono (fun k hk => by omega) _ _ (InV.later (w := w6) (w' := w6.drew) (fun _ _ => rfl) _ _ HI6.out)) hszf).mono ?_
      rintro e wA ⟨g0, g1, g2, g3, xs0, rfl, ht, hbA⟩
      have hbA2 : Below w6.heap.size w6 wA := below_drew hbA
      have hgA : InV (fun k => w6.heap.size ≤ k ∧ k < wA.heap.size) wA f (.agg #[.int .i64 f.kind, .string f.name, .int .i64 f.n, .slice g0 f.scopes.length g1, .slice g2 f.kids.length g3]) := ht.inV
      have HSLG := HSLF
      have hkA : Kept b 1 2 w6 wA := Kept.of_below hbA2 HR6.out.lt
      have hrA := HR6.out.later hbA2
      have hSA : (fun WS : World => FormBox WS w4.heap.size f f0 f1 f2 f3) wA := kept_box hkA hS0 hnb
      refine hK.out _ _ (.inr hSA) ?_
      clear hK K ht hbA hbA2 hS0
      have hsA : w6.heap.size ≤ wA.heap.size := hkA.size
      have hkAll := HK6.out.trans hkA
      have hne : w4.heap.size ≠ b := by have := HR6.out.lt; omega
      have hzA : wA.heap[w.heap.size]? = some (.cells #[.int .i64 0, .string { data := #[] }, .int .i64 0, .slice none 0 0, .slice none 0 0] 27 (0, 0)) := (hkAll.block _ (by omega) (by omega)).trans HZ1.out
      have hzB : wA.heap[w.heap.size + 1]? = some (.cells #[.int .i64 0, .string { data := #[] }, .int .i64 0, .slice none 0 0, .slice none 0 0] 27 (0, 0)) := (hkAll.block _ (by omega) (by omega)).trans HZ2.out
      obtain ⟨r0, r1, r2, r3, r4, t0, t1, t2, t3, t4⟩ := zeroFacts hzA
      have HTH := Lib.hid (zeroThere hzA)
      have HZB := Lib.hid hzB
      have hinA : InV (fun k => w3.heap.size ≤ k ∧ k < w4.heap.size) wA f (.agg #[.int .i64 f.kind, .string f.name, .int .i64 f.n, .slice f0 f.scopes.length f1, .slice f2 f.kids.length f3]) := InV.later (w := w6) (fun k hk => hkA.block k (by omega) (by omega)) _ _ HI6.out
      have HIA := Lib.hid hinA
      have HKA := Lib.hid hkAll
      have HGA : Hid (InV (fun k => w6.heap.size ≤ k ∧ k < wA.heap.size) wA f (.agg #[.int .i64 f.kind, .string f.name, .int .i64 f.n, .slice g0 f.scopes.length g1, .slice g2 f.kids.length g3])) := hgA
      have HRA : Hid (b < wA.heap.size) := hrA.lt
      clear hkA hkAll hinA hzA hzB hrA hgA
      refine upto_one (i := 3) (by kernel_rfl) rfl (fun K hK => ?_)
      go_simp
      refine gen_world' (fun wB hB => ?_)
      have heB : wB = set5 wA w.heap.size 0 (.int .i64 f.kind) (.string f.name) (.int .i64 f.n) (.slice f0 f.scopes.length f1) (.slice f2 f.kids.length f3) := by rw [hB]; simp only [set5, Nat.zero_add]
      have hblk : ∀ k, k ≠ w.heap.size → wB.heap[k]? = wA.heap[k]? := fun k hk => by rw [heB]; exact set5_block _ _ _ _ _ _ _ _ hk
      have hS3 : (fun WS : World => FormBox WS w4.heap.size f f0 f1 f2 f3) wB := by
        obtain ⟨s0, s1, s2, s3, s4⟩ := hSA
        have hb := hblk w4.heap.size (by omega)
        exact ⟨(World.cell?_of_block (a := ⟨w4.heap.size, 0, none⟩) hb).trans s0, (World.cell?_of_block (a := ⟨w4.heap.size, 1, none⟩) hb).trans s1, (World.cell?_of_block (a := ⟨w4.heap.size, 2, none⟩) hb).trans s2, (World.cell?_of_block (a := ⟨w4.heap.size, 3, none⟩) hb).trans s3, (World.cell?_of_block (a := ⟨w4.heap.size, 4, none⟩) hb).trans s4⟩
      refine hK.out _ _ (.inr hS3) ?_
      clear hK K hB
      have HZF : Hid (FormBox wB w.heap.size f f0 f1 f2 f3) := by unfold Hid; rw [heB]; exact set5_in wA w.heap.size 0 (.int .i64 f.kind) (.string f.name) (.int .i64 f.n) (.slice f0 f.scopes.length f1) (.slice f2 f.kids.length f3) HTH.out
      have hsB : wB.heap.size = wA.heap.size := by rw [heB]; exact set5_size _ _ _ _ _ _ _ _
      have HSB := Lib.hid hsB
      have hsB1 : wA.heap.size ≤ wB.heap.size := by omega
      have HIB : Hid (InV (fun k => w3.heap.size ≤ k ∧ k < w4.heap.size) wB f (.agg #[.int .i64 f.kind, .string f.name, .int .i64 f.n, .slice f0 f.scopes.length f1, .slice f2 f.kids.length f3])) := InV.later (w := wA) (fun k hk => hblk k (by omega)) _ _ HIA.out
      have HGB : Hid (InV (fun k => w6.heap.size ≤ k ∧ k < wA.heap.size) wB f (.agg #[.int .i64 f.kind, .string f.name, .int .i64 f.n, .slice g0 f.scopes.length g1, .slice g2 f.kids.length g3])) := InV.later (w := wA) (fun k hk => hblk k (by omega)) _ _ HGA.out
      have hzB2 : wB.heap[w.heap.size + 1]? = some (.cells #[.int .i64 0, .string { data := #[] }, .int .i64 0, .slice none 0 0, .slice none 0 0] 27 (0, 0)) := (hblk _ (by omega)).trans HZB.out
      have HBB : Hid (Below w.heap.size w wB) := by
        unfold Hid
        rw [heB]
        exact set5_below (HB0.out.trans (HKA.out.below (by omega) (by omega))) (b := w.heap.size) (Nat.le_refl _) 0 _ _ _ _ _
      clear r0 r1 r2 r3 r4 t0 t1 t2 t3 t4 heB hsB hSA HTH x0 x1 x2 x3 x4
      obtain ⟨r0, r1, r2, r3, r4, t0, t1, t2, t3, t4⟩ := zeroFacts hzB2
      have HTH := Lib.hid (zeroThere hzB2)
      clear hzB2
      refine upto_one (i := 4) (by kernel_rfl) rfl (fun K hK => ?_)
      go_simp
      refine gen_world' (fun wC hC => ?_)
      have heC : wC = set5 wB (w.heap.size + 1) 0 (.int .i64 f.kind) (.string f.name) (.int .i64 f.n) (.slice g0 f.scopes.length g1) (.slice g2 f.kids.length g3) := by rw [hC]; simp only [set5, Nat.zero_add]
      have hblk2 : ∀ k, k ≠ w.heap.size + 1 → wC.heap[k]? = wB.heap[k]? := fun k hk => by rw [heC]; exact set5_block _ _ _ _ _ _ _ _ hk
      have hS4 : (fun WS : World => FormBox WS w4.heap.size f f0 f1 f2 f3) wC := by
        obtain ⟨s0, s1, s2, s3, s4⟩ := hS3
        have hb := hblk2 w4.heap.size (by omega)
        exact ⟨(World.cell?_of_block (a := ⟨w4.heap.size, 0, none⟩) hb).trans s0, (World.cell?_of_block (a := ⟨w4.heap.size, 1, none⟩) hb).trans s1, (World.cell?_of_block (a := ⟨w4.heap.size, 2, none⟩) hb).trans s2, (World.cell?_of_block (a := ⟨w4.heap.size, 3, none⟩) hb).trans s3, (World.cell?_of_block (a := ⟨w4.heap.size, 4, none⟩) hb).trans s4⟩
      refine hK.out _ _ (.inr hS4) ?_
      clear hK K hC
      have hsC : wC.heap.size = wB.heap.size := by rw [heC]; exact set5_size _ _ _ _ _ _ _ _
      obtain ⟨z0, z1, z2, z3, z4⟩ : FormBox wC w.heap.size f f0 f1 f2 f3 := by
        obtain ⟨s0, s1, s2, s3, s4⟩ := HZF.out
        have hb := hblk2 w.heap.size (by omega)
        exact ⟨(World.cell?_of_block (a := ⟨w.heap.size, 0, none⟩) hb).trans s0, (World.cell?_of_block (a := ⟨w.heap.size, 1, none⟩) hb).trans s1, (World.cell?_of_block (a := ⟨w.heap.size, 2, none⟩) hb).trans s2, (World.cell?_of_block (a := ⟨w.heap.size, 3, none⟩) hb).trans s3, (World.cell?_of_block (a := ⟨w.heap.size, 4, none⟩) hb).trans s4⟩
      obtain ⟨y0, y1, y2, y3, y4⟩ : FormBox wC (w.heap.size + 1) f g0 g1 g2 g3 := by rw [heC]; exact set5_in wB (w.heap.size + 1) 0 (.int .i64 f.kind) (.string f.name) (.int .i64 f.n) (.slice g0 f.scopes.length g1) (.slice g2 f.kids.length g3) HTH.out
      have HIC : Hid (InV (fun k => w.heap.size ≤ k ∧ k < wC.heap.size) wC f (.agg #[.int .i64 f.kind, .string f.name, .int .i64 f.n, .slice f0 f.scopes.length f1, .slice f2 f.kids.length f3])) := InV.mono (fun k hk => by have := HSB.out; omega) _ _ (InV.later (w := wB) (fun k hk => hblk2 k (by omega)) _ _ HIB.out)
      have HGC : Hid (InV (fun k => w.heap.size ≤ k ∧ k < wC.heap.size) wC f (.agg #[.int .i64 f.kind, .string f.name, .int .i64 f.n, .slice g0 f.scopes.length g1, .slice g2 f.kids.length g3])) := InV.mono (fun k hk => by have := HSB.out; omega) _ _ (InV.later (w := wB) (fun k hk => hblk2 k (by omega)) _ _ HGB.out)
      have HBC : Hid (Below w.heap.size w wC) := by
        unfold Hid
        rw [heC]
        exact set5_below HBB.out (b := w.heap.size + 1) (by omega) 0 _ _ _ _ _
      clear r0 r1 r2 r3 r4 t0 t1 t2 t3 t4 heC hsC hblk hblk2 hS3 hS4 HTH
      refine upto_done (by kernel_rfl) ?_ _
      go_wp2_with fail
      refine bodyPost_ret (v := .tuple #[.agg #[.int .i64 f.kind, .string f.name, .int .i64 f.n, .slice f0 f.scopes.length f1, .slice f2 f.kids.length f3], .agg #[.int .i64 f.kind, .string f.name, .int .i64 f.n, .slice g0 f.scopes.length g1, .slice g2 f.kids.length g3]]) (by simp [results, Try.results32, go_sem, z0, z1, z2, z3, z4, y0, y1, y2, y3, y4]) rfl ?_
      exact ⟨f, f0, f1, f2, f3, f, g0, g1, g2, g3, rfl, HIC.out, HGC.out, HSLF.out, HSLG.out, HBC.out⟩
    · have hx1' : ((x : Int) == 1) = false := by rw [beq_eq_false_iff_ne]; omega
      by_cases hx2 : x = 2
      · subst hx2
        clear hx0 hx1
        obtain ⟨x0, x1, x2, x3, x4⟩ := HX6.out
        go_wp2_with fail
        have hS0 : (fun WS : World => FormBox WS w4.heap.size f f0 f1 f2 f3) w6.drew := HX6.out
        have hsd : w6.drew.heap.size = w6.heap.size := rfl
        have HRD := Lib.hid (HR6.out.drew)
        refine upto_begin (fun WS : World => FormBox WS w4.heap.size f f0 f1 f2 f3) 5 (by kernel_rfl) ?_
        refine upto_take (i := 0) (d := some 26) (v := ?_) rfl rfl (by kernel_rfl) (by kernel_rfl) (by kernel_rfl) (by kernel_rfl) (fun _ _ _ h => h) (Or.inl ⟨by rfl, ?_⟩) hS0 ?_
        rotate_left
        · (intro wS hSw; obtain ⟨_, _, _, _, _⟩ := hSw; go_simp; try with_reducible rfl)
        try simp only [Act.put, List.setIfInBounds_toArray, List.set_cons_zero, List.set_cons_succ]
        refine upto_take (i := 1) (d := some 27) (v := ?_) rfl rfl (by kernel_rfl) (by kernel_rfl) (by kernel_rfl) (by kernel_rfl) (fun _ _ _ h => h) (Or.inl ⟨by rfl, ?_⟩) hS0 ?_
        rotate_left
        · (intro wS hSw; obtain ⟨_, _, _, _, _⟩ := hSw; go_simp; try with_reducible rfl)
        try simp only [Act.put, List.setIfInBounds_toArray, List.set_cons_zero, List.set_cons_succ]
        refine upto_one (i := 2) (by kernel_rfl) rfl (fun K hK => ?_)
        go_simp
        refine (specCopyT_any w6.heap.size f _ w6.drew (Nat.le_refl _) (InV.mono (fun k hk => by omega) _ _ (InV.later (w := w6) (w' := w6.drew) (fun _ _ => rfl) _ _ HI6.out)) hszf).mono ?_
        rintro e wA ⟨g0, g1, g2, g3, xs0, rfl, ht, hbA⟩
        have hbA2 : Below w6.heap.size w6 wA := below_drew hbA
        have hgA : InV (fun k => w6.heap.size ≤ k ∧ k < wA.heap.size) wA f (.agg #[.int .i64 f.kind, .string f.name, .int .i64 f.n, .slice g0 f.scopes.length g1, .slice g2 f.kids.length g3]) := ht.inV
        have HSLG := HSLF
        have hkA : Kept b 1 2 w6 wA := Kept.of_below hbA2 HR6.out.lt
        have hrA := HR6.out.later hbA2
        have hSA : (fun WS : World => FormBox WS w4.heap.size f f0 f1 f2 f3) wA := kept_box hkA hS0 hnb
        refine hK.out _ _ (.inr hSA) ?_
        clear hK K ht hbA hbA2 hS0
        have hsA : w6.heap.size ≤ wA.heap.size := hkA.size
        have hkAll := HK6.out.trans hkA
        have hne : w4.heap.size ≠ b := by have := HR6.out.lt; omega
        have hzA : wA.heap[w.heap.size]? = some (.cells #[.int .i64 0, .string { data := #[] }, .int .i64 0, .slice none 0 0, .slice none 0 0] 27 (0, 0)) := (hkAll.block _ (by omega) (by omega)).trans HZ1.out
        have hzB : wA.heap[w.heap.size + 1]? = some (.cells #[.int .i64 0, .string { data := #[] }, .int .i64 0, .slice none 0 0, .slice none 0 0] 27 (0, 0)) := (hkAll.block _ (by omega) (by omega)).trans HZ2.out
        obtain ⟨r0, r1, r2, r3, r4, t0, t1, t2, t3, t4⟩ := zeroFacts hzA
        have HTH := Lib.hid (zeroThere hzA)
        have HZB := Lib.hid hzB
        have hinA : InV (fun k => w3.heap.size ≤ k ∧ k < w4.heap.size) wA f (.agg #[.int .i64 f.kind, .string f.name, .int .i64 f.n, .slice f0 f.scopes.length f1, .slice f2 f.kids.length f3]) := InV.later (w := w6) (fun k hk => hkA.block k (by omega) (by omega)) _ _ HI6.out
        have HIA := Lib.hid hinA
        have HKA := Lib.hid hkAll
        have HGA : Hid (InV (fun k => w6.heap.size ≤ k ∧ k < wA.heap.size) wA f (.agg #[.int .i64 f.kind, .string f.name, .int .i64 f.n, .slice g0 f.scopes.length g1, .slice g2 f.kids.length g3])) := hgA
        have HRA : Hid (b < wA.heap.size) := hrA.lt
        clear hkA hkAll hinA hzA hzB hrA hgA
        refine upto_one (i := 3) (by kernel_rfl) rfl (fun K hK => ?_)
        go_simp
        refine gen_world' (fun wB hB => ?_)
        have heB : wB = set5 wA w.heap.size 0 (.int .i64 f.kind) (.string f.name) (.int .i64 f.n) (.slice f0 f.scopes.length f1) (.slice f2 f.kids.length f3) := by rw [hB]; simp only [set5, Nat.zero_add]
        have hblk : ∀ k, k ≠ w.heap.size → wB.heap[k]? = wA.heap[k]? := fun k hk => by rw [heB]; exact set5_block _ _ _ _ _ _ _ _ hk
        have hS3 : (fun WS : World => FormBox WS w4.heap.size f f0 f1 f2 f3) wB := by
          obtain ⟨s0, s1, s2, s3, s4⟩ := hSA
          have hb := hblk w4.heap.size (by omega)
          exact ⟨(World.cell?_of_block (a := ⟨w4.heap.size, 0, none⟩) hb).trans s0, (World.cell?_of_block (a := ⟨w4.heap.size, 1, none⟩) hb).trans s1, (World.cell?_of_block (a := ⟨w4.heap.size, 2, none⟩) hb).trans s2, (World.cell?_of_block (a := ⟨w4.heap.size, 3, none⟩) hb).trans s3, (World.cell?_of_block (a := ⟨w4.heap.size, 4, none⟩) hb).trans s4⟩
        refine hK.out _ _ (.inr hS3) ?_
        clear hK K hB
        have HZF : Hid (FormBox wB w.heap.size f f0 f1 f2 f3) := by unfold Hid; rw [heB]; exact set5_in wA w.heap.size 0 (.int .i64 f.kind) (.string f.name) (.int .i64 f.n) (.slice f0 f.scopes.length f1) (.slice f2 f.kids.length f3) HTH.out
        have hsB : wB.heap.size = wA.heap.size := by rw [heB]; exact set5_size _ _ _ _ _ _ _ _
        have HSB := Lib.hid hsB
        have hsB1 : wA.heap.size ≤ wB.heap.size := by omega
        have HIB : Hid (InV (fun k => w3.heap.size ≤ k ∧ k < w4.heap.size) wB f (.agg #[.int .i64 f.kind, .string f.name, .int .i64 f.n, .slice f0 f.scopes.length f1, .slice f2 f.kids.length f3])) := InV.later (w := wA) (fun k hk => hblk k (by omega)) _ _ HIA.out
        have HGB : Hid (InV (fun k => w6.heap.size ≤ k ∧ k < wA.heap.size) wB f (.agg #[.int .i64 f.kind, .string f.name, .int .i64 f.n, .slice g0 f.scopes.length g1, .slice g2 f.kids.length g3])) := InV.later (w := wA) (fun k hk => hblk k (by omega)) _ _ HGA.out
        have hzB2 : wB.heap[w.heap.size + 1]? = some (.cells #[.int .i64 0, .string { data := #[] }, .int .i64 0, .slice none 0 0, .slice none 0 0] 27 (0, 0)) := (hblk _ (by omega)).trans HZB.out
        have HBB : Hid (Below w.heap.size w wB) := by
          unfold Hid
          rw [heB]
          exact set5_below (HB0.out.trans (HKA.out.below (by omega) (by omega))) (b := w.heap.size) (Nat.le_refl _) 0 _ _ _ _ _
        clear r0 r1 r2 r3 r4 t0 t1 t2 t3 t4 heB hsB hSA HTH x0 x1 x2 x3 x4
        obtain ⟨r0, r1, r2, r3, r4, t0, t1, t2, t3, t4⟩ := zeroFacts hzB2
        have HTH := Lib.hid (zeroThere hzB2)
        clear hzB2
        refine upto_one (i := 4) (by kernel_rfl) rfl (fun K hK => ?_)
        go_simp
        refine gen_world' (fun wC hC => ?_)
        have heC : wC = set5 wB (w.heap.size + 1) 0 (.int .i64 f.kind) (.string f.name) (.int .i64 f.n) (.slice g0 f.scopes.length g1) (.slice g2 f.kids.length g3) := by rw [hC]; simp only [set5, Nat.zero_add]
        have hblk2 : ∀ k, k ≠ w.heap.size + 1 → wC.heap[k]? = wB.heap[k]? := fun k hk => by rw [heC]; exact set5_block _ _ _ _ _ _ _ _ hk
        have hS4 : (fun WS : World => FormBox WS w4.heap.size f f0 f1 f2 f3) wC := by
          obtain ⟨s0, s1, s2, s3, s4⟩ := hS3
          have hb := hblk2 w4.heap.size (by omega)
          exact ⟨(World.cell?_of_block (a := ⟨w4.heap.size, 0, none⟩) hb).trans s0, (World.cell?_of_block (a := ⟨w4.heap.size, 1, none⟩) hb).trans s1, (World.cell?_of_block (a := ⟨w4.heap.size, 2, none⟩) hb).trans s2, (World.cell?_of_block (a := ⟨w4.heap.size, 3, none⟩) hb).trans s3, (World.cell?_of_block (a := ⟨w4.heap.size, 4, none⟩) hb).trans s4⟩
        refine hK.out _ _ (.inr hS4) ?_
        clear hK K hC
        have hsC : wC.heap.size = wB.heap.size := by rw [heC]; exact set5_size _ _ _ _ _ _ _ _
        obtain ⟨z0, z1, z2, z3, z4⟩ : FormBox wC w.heap.size f f0 f1 f2 f3 := by
          obtain ⟨s0, s1, s2, s3, s4⟩ := HZF.out
          have hb := hblk2 w.heap.size (by omega)
          exact ⟨(World.cell?_of_block (a := ⟨w.heap.size, 0, none⟩) hb).trans s0, (World.cell?_of_block (a := ⟨w.heap.size, 1, none⟩) hb).trans s1, (World.cell?_of_block (a := ⟨w.heap.size, 2, none⟩) hb).trans s2, (World.cell?_of_block (a := ⟨w.heap.size, 3, none⟩) hb).trans s3, (World.cell?_of_block (a := ⟨w.heap.size, 4, none⟩) hb).trans s4⟩
        obtain ⟨y0, y1, y2, y3, y4⟩ : FormBox wC (w.heap.size + 1) f g0 g1 g2 g3 := by rw [heC]; exact set5_in wB (w.heap.size + 1) 0 (.int .i64 f.kind) (.string f.name) (.int .i64 f.n) (.slice g0 f.scopes.length g1) (.slice g2 f.kids.length g3) HTH.out
        have HIC : Hid (InV (fun k => w.heap.size ≤ k ∧ k < wC.heap.size) wC f (.agg #[.int .i64 f.kind, .string f.name, .int .i64 f.n, .slice f0 f.scopes.length f1, .slice f2 f.kids.length f3])) := InV.mono (fun k hk => by have := HSB.out; omega) _ _ (InV.later (w := wB) (fun k hk => hblk2 k (by omega)) _ _ HIB.out)
        have HGC : Hid (InV (fun k => w.heap.size ≤ k ∧ k < wC.heap.size) wC f (.agg #[.int .i64 f.kind, .string f.name, .int .i64 f.n, .slice g0 f.scopes.length g1, .slice g2 f.kids.length g3])) := InV.mono (fun k hk => by have := HSB.out; omega) _ _ (InV.later (w := wB) (fun k hk => hblk2 k (by omega)) _ _ HGB.out)
        have HBC : Hid (Below w.heap.size w wC) := by
          unfold Hid
          rw [heC]
          exact set5_below HBB.out (b := w.heap.size + 1) (by omega) 0 _ _ _ _ _
        clear r0 r1 r2 r3 r4 t0 t1 t2 t3 t4 heC hsC hblk hblk2 hS3 hS4 HTH
        refine upto_done (by kernel_rfl) ?_ _
        go_wp2_with fail
        refine bodyPost_ret (v := .tuple #[.agg #[.int .i64 f.kind, .string f.name, .int .i64 f.n, .slice f0 f.scopes.length f1, .slice f2 f.kids.length f3], .agg #[.int .i64 f.kind, .string f.name, .int .i64 f.n, .slice g0 f.scopes.length g1, .slice g2 f.kids.length g3]]) (by simp [results, Try.results32, go_sem, z0, z1, z2, z3, z4, y0, y1, y2, y3, y4]) rfl ?_
        exact ⟨f, f0, f1, f2, f3, f, g0, g1, g2, g3, rfl, HIC.out, HGC.out, HSLF.out, HSLG.out, HBC.out⟩
      · have hx2' : ((x : Int) == 2) = false := by rw [beq_eq_false_iff_ne]; omega
        clear hx0 hx1 hx2
        obtain ⟨x0, x1, x2, x3, x4⟩ := HX6.out
        go_wp2_with fail
        have hS0 : (fun WS : World => FormBox WS w4.heap.size f f0 f1 f2 f3) w6.drew := HX6.out
        have hsd : w6.drew.heap.size = w6.heap.size := rfl
        have HRD := Lib.hid (HR6.out.drew)
        refine upto_begin (fun WS : World => FormBox WS w4.heap.size f f0 f1 f2 f3) 9 (by kernel_rfl) ?_
        refine upto_take (i := 0) (d := some 29) (v := ?_) rfl rfl (by kernel_rfl) (by kernel_rfl) (by kernel_rfl) (by kernel_rfl) (fun _ _ _ h => h) (Or.inl ⟨by rfl, ?_⟩) hS0 ?_
        rotate_left
        · (intro wS hSw; obtain ⟨_, _, _, _, _⟩ := hSw; go_simp; try with_reducible rfl)
        try simp only [Act.put, List.setIfInBounds_toArray, List.set_cons_zero, List.set_cons_succ]
        refine upto_take (i := 1) (d := some 30) (v := ?_) rfl rfl (by kernel_rfl) (by kernel_rfl) (by kernel_rfl) (by kernel_rfl) (fun _ _ _ h => h) (Or.inl ⟨by rfl, ?_⟩) hS0 ?_
        rotate_left
        · (intro wS hSw; obtain ⟨_, _, _, _, _⟩ := hSw; go_simp; try with_reducible rfl)
        try simp only [Act.put, List.setIfInBounds_toArray, List.set_cons_zero, List.set_cons_succ]
        refine upto_take (i := 2) (d := some 31) (v := ?_) rfl rfl (by kernel_rfl) (by kernel_rfl) (by kernel_rfl) (by kernel_rfl) (fun _ _ _ h => h) (Or.inl ⟨by rfl, ?_⟩) hS0 ?_
        rotate_left
        · (intro wS hSw; obtain ⟨_, _, _, _, _⟩ := hSw; go_simp; try with_reducible rfl)
        try simp only [Act.put, List.setIfInBounds_toArray, List.set_cons_zero, List.set_cons_succ]
        refine upto_one (i := 3) (by kernel_rfl) rfl (fun K hK => ?_)
        go_simp
        have hb7 : Below w6.drew.heap.size w6.drew (w6.drew.alloc (.cells (names2.map Value.string).toArray 9)) := below_alloc _ _
        have hb7' : Below w6.heap.size w6 (w6.drew.alloc (.cells (names2.map Value.string).toArray 9)) := below_drew hb7
        have HCN := Lib.hid (strs_at w6.drew 9)
        have hS1 : (fun WS : World => FormBox WS w4.heap.size f f0 f1 f2 f3) (w6.drew.alloc (.cells (names2.map Value.string).toArray 9)) := FormBox.later hS0 hb7
        refine hK.out _ _ (.inr hS1) ?_
        clear hK K
        refine upto_one (i := 4) (by kernel_rfl) rfl (fun K hK => ?_)
        go_simp
        refine (of_any b (p4 + 1) names2 w6.heap.size 0 2 _ (HR6.out.later hb7') (by omega) (by have := HR6.out.lt; omega) HCN.out (by simp [names2]) (by simp [names2]) (by simp [names2])).mono ?_
        rintro e w7 ⟨s7, hs7', rfl, hr7, hk7⟩
        have hk67 : Kept b 1 2 w6 w7 := (Kept.of_below hb7' HR6.out.lt).trans hk7
        have hs67 := hk67.size
        have HS7 := Lib.hid (names2_size s7 hs7')
        have hS2 : (fun WS : World => FormBox WS w4.heap.size f f0 f1 f2 f3) w7 := kept_box hk67 hS0 hnb
        refine hK.out _ _ (.inr hS2) ?_
        clear hK K hk7 hs7' hb7 hb7' HCN hS1
        refine upto_one (i := 5) (by kernel_rfl) rfl (fun K hK => ?_)
        go_simp
        refine (l1Name_any s7 w7).mono ?_
        rintro e w8 ⟨rfl, hb8⟩
        have hk68 : Kept b 1 2 w6 w8 := hk67.later hb8 HR6.out.lt
        have hs8 := hb8.size
        have hr8 := hr7.later hb8
        have hS3 : (fun WS : World => FormBox WS w4.heap.size f f0 f1 f2 f3) w8 := kept_box hk68 hS0 hnb
        refine hK.out _ _ (.inr hS3) ?_
        clear hK K hb8 hS2 hr7
        refine upto_one (i := 6) (by kernel_rfl) rfl (fun K hK => ?_)
        go_simp
        refine (l1Dress_aux 1 (.mk 1 s7 0 [] []) _ _ b (p4 + 1 + 1) w8 (by simp [Fm.count, countAll]) hr8 (by simp [Fm.count, countAll]; omega) (nameIn _ _ _ HS7.out) (by have h := (name_slim s7 HS7.out 3).sz; omega) (name_slim _ HS7.out 3).2).mono ?_
        rintro e wA ⟨g, v6, q6, rfl, hi6, hdr, hq6, hrA, hk6⟩
        obtain ⟨g0, g1, g2, g3, rfl⟩ := hi6.form
        have hkA : Kept b 1 2 w6 wA := hk68.trans hk6
        have hgA : InV (fun k => w6.heap.size ≤ k ∧ k < wA.heap.size) wA g (.agg #[.int .i64 g.kind, .string g.name, .int .i64 g.n, .slice g0 g.scopes.length g1, .slice g2 g.kids.length g3]) := InV.mono (fun k hk => ⟨by omega, hk.2⟩) _ _ hi6
        have HSLG : Hid (Slim 121 13 5 g) := ⟨by have h := hdr.count; simp [Fm.count, countAll] at h; omega, fun x hx => by have := hdr.slim x hx; omega⟩
        have hSA : (fun WS : World => FormBox WS w4.heap.size f f0 f1 f2 f3) wA := kept_box hkA hS0 hnb
        refine hK.out _ _ (.inr hSA) ?_
        clear hK K hk6 hi6 hdr hS0 hS3 hr8 hk67 hk68
        have hsA : w6.heap.size ≤ wA.heap.size := hkA.size
        have hkAll := HK6.out.trans hkA
        have hne : w4.heap.size ≠ b := by have := HR6.out.lt; omega
        have hzA : wA.heap[w.heap.size]? = some (.cells #[.int .i64 0, .string { data := #[] }, .int .i64 0, .slice none 0 0, .slice none 0 0] 27 (0, 0)) := (hkAll.block _ (by omega) (by omega)).trans HZ1.out
        have hzB : wA.heap[w.heap.size + 1]? = some (.cells #[.int .i64 0, .string { data := #[] }, .int .i64 0, .slice none 0 0, .slice none 0 0] 27 (0, 0)) := (hkAll.block _ (by omega) (by omega)).trans HZ2.out
        obtain ⟨r0, r1, r2, r3, r4, t0, t1, t2, t3, t4⟩ := zeroFacts hzA
        have HTH := Lib.hid (zeroThere hzA)
        have HZB := Lib.hid hzB
        have hinA : InV (fun k => w3.heap.size ≤ k ∧ k < w4.heap.size) wA f (.agg #[.int .i64 f.kind, .string f.name, .int .i64 f.n, .slice f0 f.scopes.length f1, .slice f2 f.kids.length f3]) := InV.later (w := w6) (fun k hk => hkA.block k (by omega) (by omega)) _ _ HI6.out
        have HIA := Lib.hid hinA
        have HKA := Lib.hid hkAll
        have HGA : Hid (InV (fun k => w6.heap.size ≤ k ∧ k < wA.heap.size) wA g (.agg #[.int .i64 g.kind, .string g.name, .int .i64 g.n, .slice g0 g.scopes.length g1, .slice g2 g.kids.length g3])) := hgA
        have HRA : Hid (b < wA.heap.size) := hrA.lt
        clear hkA hkAll hinA hzA hzB hrA hgA
        refine upto_one (i := 7) (by kernel_rfl) rfl (fun K hK => ?_)
        go_simp
        refine gen_world' (fun wB hB => ?_)
        have heB : wB = set5 wA w.heap.size 0 (.int .i64 f.kind) (.string f.name) (.int .i64 f.n) (.slice f0 f.scopes.length f1) (.slice f2 f.kids.length f3) := by rw [hB]; simp only [set5, Nat.zero_add]
        have hblk : ∀ k, k ≠ w.heap.size → wB.heap[k]? = wA.heap[k]? := fun k hk => by rw [heB]; exact set5_block _ _ _ _ _ _ _ _ hk
        have hS3 : (fun WS : World => FormBox WS w4.heap.size f f0 f1 f2 f3) wB := by
          obtain ⟨s0, s1, s2, s3, s4⟩ := hSA
          have hb := hblk w4.heap.size (by omega)
          exact ⟨(World.cell?_of_block (a := ⟨w4.heap.size, 0, none⟩) hb).trans s0, (World.cell?_of_block (a := ⟨w4.heap.size, 1, none⟩) hb).trans s1, (World.cell?_of_block (a := ⟨w4.heap.size, 2, none⟩) hb).trans s2, (World.cell?_of_block (a := ⟨w4.heap.size, 3, none⟩) hb).trans s3, (World.cell?_of_block (a := ⟨w4.heap.size, 4, none⟩) hb).trans s4⟩
        refine hK.out _ _ (.inr hS3) ?_
        clear hK K hB
        have HZF : Hid (FormBox wB w.heap.size f f0 f1 f2 f3) := by unfold Hid; rw [heB]; exact set5_in wA w.heap.size 0 (.int .i64 f.kind) (.string f.name) (.int .i64 f.n) (.slice f0 f.scopes.length f1) (.slice f2 f.kids.length f3) HTH.out
        have hsB : wB.heap.size = wA.heap.size := by rw [heB]; exact set5_size _ _ _ _ _ _ _ _
        have HSB := Lib.hid hsB
        have hsB1 : wA.heap.size ≤ wB.heap.size := by omega
        have HIB : Hid (InV (fun k => w3.heap.size ≤ k ∧ k < w4.heap.size) wB f (.agg #[.int .i64 f.kind, .string f.name, .int .i64 f.n, .slice f0 f.scopes.length f1, .slice f2 f.kids.length f3])) := InV.later (w := wA) (fun k hk => hblk k (by omega)) _ _ HIA.out
        have HGB : Hid (InV (fun k => w6.heap.size ≤ k ∧ k < wA.heap.size) wB g (.agg #[.int .i64 g.kind, .string g.name, .int .i64 g.n, .slice g0 g.scopes.length g1, .slice g2 g.kids.length g3])) := InV.later (w := wA) (fun k hk => hblk k (by omega)) _ _ HGA.out
        have hzB2 : wB.heap[w.heap.size + 1]? = some (.cells #[.int .i64 0, .string { data := #[] }, .int .i64 0, .slice none 0 0, .slice none 0 0] 27 (0, 0)) := (hblk _ (by omega)).trans HZB.out
        have HBB : Hid (Below w.heap.size w wB) := by
          unfold Hid
          rw [heB]
          exact set5_below (HB0.out.trans (HKA.out.below (by omega) (by omega))) (b := w.heap.size) (Nat.le_refl _) 0 _ _ _ _ _
        clear r0 r1 r2 r3 r4 t0 t1 t2 t3 t4 heB hsB hSA HTH x0 x1 x2 x3 x4
        obtain ⟨r0, r1, r2, r3, r4, t0, t1, t2, t3, t4⟩ := zeroFacts hzB2
        have HTH := Lib.hid (zeroThere hzB2)
        clear hzB2
        refine upto_one (i := 8) (by kernel_rfl) rfl (fun K hK => ?_)
        go_simp
        refine gen_world' (fun wC hC => ?_)
        have heC : wC = set5 wB (w.heap.size + 1) 0 (.int .i64 g.kind) (.string g.name) (.int .i64 g.n) (.slice g0 g.scopes.length g1) (.slice g2 g.kids.length g3) := by rw [hC]; simp only [set5, Nat.zero_add]
        have hblk2 : ∀ k, k ≠ w.heap.size + 1 → wC.heap[k]? = wB.heap[k]? := fun k hk => by rw [heC]; exact set5_block _ _ _ _ _ _ _ _ hk
        have hS4 : (fun WS : World => FormBox WS w4.heap.size f f0 f1 f2 f3) wC := by
          obtain ⟨s0, s1, s2, s3, s4⟩ := hS3
          have hb := hblk2 w4.heap.size (by omega)
          exact ⟨(World.cell?_of_block (a := ⟨w4.heap.size, 0, none⟩) hb).trans s0, (World.cell?_of_block (a := ⟨w4.heap.size, 1, none⟩) hb).trans s1, (World.cell?_of_block (a := ⟨w4.heap.size, 2, none⟩) hb).trans s2, (World.cell?_of_block (a := ⟨w4.heap.size, 3, none⟩) hb).trans s3, (World.cell?_of_block (a := ⟨w4.heap.size, 4, none⟩) hb).trans s4⟩
        refine hK.out _ _ (.inr hS4) ?_
        clear hK K hC
        have hsC : wC.heap.size = wB.heap.size := by rw [heC]; exact set5_size _ _ _ _ _ _ _ _
        obtain ⟨z0, z1, z2, z3, z4⟩ : FormBox wC w.heap.size f f0 f1 f2 f3 := by
          obtain ⟨s0, s1, s2, s3, s4⟩ := HZF.out
          have hb := hblk2 w.heap.size (by omega)
          exact ⟨(World.cell?_of_block (a := ⟨w.heap.size, 0, none⟩) hb).trans s0, (World.cell?_of_block (a := ⟨w.heap.size, 1, none⟩) hb).trans s1, (World.cell?_of_block (a := ⟨w.heap.size, 2, none⟩) hb).trans s2, (World.cell?_of_block (a := ⟨w.heap.size, 3, none⟩) hb).trans s3, (World.cell?_of_block (a := ⟨w.heap.size, 4, none⟩) hb).trans s4⟩
        obtain ⟨y0, y1, y2, y3, y4⟩ : FormBox wC (w.heap.size + 1) g g0 g1 g2 g3 := by rw [heC]; exact set5_in wB (w.heap.size + 1) 0 (.int .i64 g.kind) (.string g.name) (.int .i64 g.n) (.slice g0 g.scopes.length g1) (.slice g2 g.kids.length g3) HTH.out
        have HIC : Hid (InV (fun k => w.heap.size ≤ k ∧ k < wC.heap.size) wC f (.agg #[.int .i64 f.kind, .string f.name, .int .i64 f.n, .slice f0 f.scopes.length f1, .slice f2 f.kids.length f3])) := InV.mono (fun k hk => by have := HSB.out; omega) _ _ (InV.later (w := wB) (fun k hk => hblk2 k (by omega)) _ _ HIB.out)
        have HGC : Hid (InV (fun k => w.heap.size ≤ k ∧ k < wC.heap.size) wC g (.agg #[.int .i64 g.kind, .string g.name, .int .i64 g.n, .slice g0 g.scopes.length g1, .slice g2 g.kids.length g3])) := InV.mono (fun k hk => by have := HSB.out; omega) _ _ (InV.later (w := wB) (fun k hk => hblk2 k (by omega)) _ _ HGB.out)
        have HBC : Hid (Below w.heap.size w wC) := by
          unfold Hid
          rw [heC]
          exact set5_below HBB.out (b := w.heap.size + 1) (by omega) 0 _ _ _ _ _
        clear r0 r1 r2 r3 r4 t0 t1 t2 t3 t4 heC hsC hblk hblk2 hS3 hS4 HTH
        refine upto_done (by kernel_rfl) ?_ _
        go_wp2_with fail
        refine bodyPost_ret (v := .tuple #[.agg #[.int .i64 f.kind, .string f.name, .int .i64 f.n, .slice f0 f.scopes.length f1, .slice f2 f.kids.length f3], .agg #[.int .i64 g.kind, .string g.name, .int .i64 g.n, .slice g0 g.scopes.length g1, .slice g2 g.kids.length g3]]) (by simp [results, Try.results32, go_sem, z0, z1, z2, z3, z4, y0, y1, y2, y3, y4]) rfl ?_
        exact ⟨f, f0, f1, f2, f3, g, g0, g1, g2, g3, rfl, HIC.out, HGC.out, HSLF.out, HSLG.out, HBC.out⟩
end Go.Proofs.Ytmakaoomdnlebaa
