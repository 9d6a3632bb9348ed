/- For every list of hits and every form, valid or not, the two answers of FindHit agree, the program's leaves its arguments as they were and shares no memory: the law FnExactFindHit returns true, whatever the input, with no condition beyond the statement's own. -/
import Derived.Test.YtkfolefeehggcaaRows
import Derived.Test.YtkfolefeehggcaaFacts
import Derived.Test.YtkfolefeehggcaaOpen
import Derived.Test.YtkfolefeehggcaaFormsS
import Derived.Test.YtkfolefeehggcaaFindHI
import Derived.Test.YtkfolefeehggcaaFindHO
import Derived.Test.YtkfolefeehggcaaHeldH
import Derived.Deep.RegionWith
namespace Go.Proofs.Ytkfolefeehggcaa.exFindHit
open Go.ChangeShapes Go.WideShapes Go.ChangeAt Go.RowKit
open Go.ChangeMaps (open_string shut_string)
set_option linter.unusedVariables false
set_option linter.unusedSimpArgs false
theorem cut_find {A : Prop} {F G : Nat → Option Addr → Nat → Option Addr → Nat → Option Addr → Nat → Option Addr → Nat → Option Addr → Nat → Option Addr → Nat → Option Addr → Nat → Option Addr → Nat → World → Prop} (h1 : (∀ z xa xb ya yb yc yd r0 r1 r2 r3 r4 r5 r6 r7 r8 r9 W, F z xa xb ya yb yc yd r0 r1 r2 r3 r4 r5 r6 r7 r8 r9 W → G z xa xb ya yb yc yd r0 r1 r2 r3 r4 r5 r6 r7 r8 r9 W) → A) (h2 : ∀ z xa xb ya yb yc yd r0 r1 r2 r3 r4 r5 r6 r7 r8 r9 W, F z xa xb ya yb yc yd r0 r1 r2 r3 r4 r5 r6 r7 r8 r9 W → G z xa xb ya yb yc yd r0 r1 r2 r3 r4 r5 r6 r7 r8 r9 W) : A := h1 h2
theorem gen_any {P : Program} {md : Region.Mode} {ops : Array Oper} {Q : Exit → Act → World → Prop} {S : World → Prop} {L fuel : Nat} {listed : Array Bool} {a : Act} {W : World}
    (h : ∀ W', W' = W → anyUpto P md ops Q S L fuel listed a W') : anyUpto P md ops Q S L fuel listed a W := h W rfl
theorem copyH (w : World) (l : List Ht) (a : Option Addr) (cap : Nat) (h : HitsIn (· < w.heap.size) w a cap l) (hsz : szHs l ≤ 1048576) :
    Calls Try.prog 17 #[.slice a l.length cap] w fun e w' => ∃ a' cap' bs, e = .returned (.slice a' l.length cap') ∧ HitsOwn w' a' cap' l bs ∧ NewBs bs w.heap.size w'.heap.size ∧ AllPlain w' bs ∧ Below w.heap.size w w' := by
  refine (toHitS_of w.heap.size l (fun g _ => toHit_any w.heap.size g) a cap w (Nat.le_refl _) h.1 h.2.1 h.2.2 hsz).mono ?_
  rintro e w' ⟨a', cap', rfl, h1, h2, ⟨bs, h3, h4, h5⟩, h6⟩
  exact ⟨a', cap', bs, rfl, ⟨h1, h2, h3⟩, h4, h5, h6⟩
theorem specFind (l : List Ht) (f : Fm) (a : Option Addr) (cap : Nat) (v : Value) (w : World) (hl : HitsIn (Pl w.heap.size w) w a cap l) (hv : InV (· < w.heap.size) w f v) (hsz : szHs l ≤ 1048576) (R : Ht) (ok : Bool) (hR : findR l f = (R, ok)) :
    Calls Try.prog 21 #[.slice a l.length cap, v] w fun e w' => ∃ r0 r1 r2 r3 r4 r5 r6 r7 r8 r9, e = .returned (.tuple #[.agg #[.int .i64 R.name.kind, .string R.name.name, .int .i64 R.name.n, .slice r0 R.name.scopes.length r1, .slice r2 R.name.kids.length r3, .int .i64 R.depth, .int .i64 R.one.kind, .string R.one.name, .int .i64 R.one.n, .slice r4 R.one.scopes.length r5, .slice r6 R.one.kids.length r7, .slice r8 R.many.length r9], .bool ok]) ∧ InH (fun k => w.heap.size ≤ k ∧ k < w'.heap.size) w' R (.agg #[.int .i64 R.name.kind, .string R.name.name, .int .i64 R.name.n, .slice r0 R.name.scopes.length r1, .slice r2 R.name.kids.length r3, .int .i64 R.depth, .int .i64 R.one.kind, .string R.one.name, .int .i64 R.one.n, .slice r4 R.one.scopes.length r5, .slice r6 R.one.kids.length r7, .slice r8 R.many.length r9]) ∧ Below w.heap.size w w' := by
  have h := HI.specFindHit_any l f a cap v w (hl.mono (fun k hk => hk.1)) hv hsz
  rw [hR] at h
  refine h.mono ?_
  rintro e w' ⟨r0, r1, r2, r3, r4, r5, r6, r7, r8, r9, bs, rfl, hq, hn, hb⟩
  exact ⟨r0, r1, r2, r3, r4, r5, r6, r7, r8, r9, rfl, InH.mono (fun k hk => hn.2 k hk) _ _ hq, hb⟩
theorem implFind (l : List Ht) (f : Fm) (a : Option Addr) (cap : Nat) (v : Value) (w : World) (hl : HitsIn (Pl w.heap.size w) w a cap l) (hv : InV (· < w.heap.size) w f v) (hsz : szHs l ≤ 1048576) (R : Ht) (ok : Bool) (hR : findR l f = (R, ok)) :
    Calls Try.prog 23 #[.slice a l.length cap, v] w fun e w' => ∃ r0 r1 r2 r3 r4 r5 r6 r7 r8 r9, e = .returned (.tuple #[.agg #[.int .i64 R.name.kind, .string R.name.name, .int .i64 R.name.n, .slice r0 R.name.scopes.length r1, .slice r2 R.name.kids.length r3, .int .i64 R.depth, .int .i64 R.one.kind, .string R.one.name, .int .i64 R.one.n, .slice r4 R.one.scopes.length r5, .slice r6 R.one.kids.length r7, .slice r8 R.many.length r9], .bool ok]) ∧ InH (fun k => w.heap.size ≤ k ∧ k < w'.heap.size) w' R (.agg #[.int .i64 R.name.kind, .string R.name.name, .int .i64 R.name.n, .slice r0 R.name.scopes.length r1, .slice r2 R.name.kids.length r3, .int .i64 R.depth, .int .i64 R.one.kind, .string R.one.name, .int .i64 R.one.n, .slice r4 R.one.scopes.length r5, .slice r6 R.one.kids.length r7, .slice r8 R.many.length r9]) ∧ Below w.heap.size w w' := by
  have h := HO.implFindHit_any l f a cap v w hl hv hsz
  rw [hR] at h
  refine h.mono ?_
  rintro e w' ⟨r0, r1, r2, r3, r4, r5, r6, r7, r8, r9, bs, rfl, hq, hn, hb⟩
  exact ⟨r0, r1, r2, r3, r4, r5, r6, r7, r8, r9, rfl, OwnH.inH _ _ _ (fun b hm => hn.2 b hm) hq.1, hb⟩
set_option maxRecDepth 100000 in
set_option maxHeartbeats 16000000 in
theorem walk (w : World) (l : List Ht) (u : Value) (hu : HitsV w l u) (f : Fm) (v : Value) (hv : InV (· < w.heap.size) w f v) :
    Calls Try.prog 4 #[u, v] w fun e w' => e = .returned (.bool true) ∧ Below w.heap.size w w' := by
  have HV := Lib.hid hv
  obtain ⟨sa, scap, fa, fcap, rfl⟩ := hv.form
  obtain ⟨la, lcap, rfl, hu⟩ := hu
  have HU := Lib.hid hu
  clear hv hu
  obtain ⟨W0, hW0⟩ : ∃ W0, W0 = w.alloc (.cells #[.int .i64 f.kind, .string f.name, .int .i64 f.n, .slice sa f.scopes.length scap, .slice fa f.kids.length fcap] 32) := ⟨_, rfl⟩
  have hb : Below w.heap.size w W0 := by rw [hW0]; exact below_alloc w _
  have hs0 : W0.heap.size = w.heap.size + 1 := by rw [hW0]; simp
  have HX : Hid (FormBox W0 w.heap.size f sa scap fa fcap) := by unfold Hid; rw [hW0]; exact FormBox.fresh w f sa fa scap fcap _
  have HB : Hid (Below w.heap.size w W0) := hb
  have HW0 := Lib.hid hW0
  clear hW0 hb
  go_enter Try.func4, Try.ntmps4
  go_wp2_with fail
  rw [← HW0.out]
  clear HW0
  refine (szHitS_row w.heap.size l la lcap W0 1048576 (by omega) (HU.out.later (same_below HB.out)) ⟨by omega, by omega⟩).mono ?_
  rintro e w1 ⟨rfl, hb⟩
  have hs1 : W0.heap.size ≤ w1.heap.size := hb.size
  have HX_1 := Lib.hid (HX.out.later hb)
  have HB_1 := Lib.hid (HB.out.trans (hb.mono (by omega)))
  clear HX HB
  clear hb
  rcases leftS2 (szHs l) with hl | ⟨hsl, hl⟩
  · have hl0 : leftOf 1048576 (szHs l) < 0 := hl
    go_wp2_with fail
    go_ret
    exact ⟨rfl, HB_1.out⟩
  rw [hl]
  clear hl
  have hp1 : ¬ ((1048576 : Int) - szHs l < 0) := by omega
  obtain ⟨x0, x1, x2, x3, x4⟩ := HX_1.out
  go_wp2_with fail
  refine (szForm_any w.heap.size f _ w1 (1048576 - szHs l) (by omega) (InV.later (same_below HB_1.out) _ _ HV.out) (by omega)).mono ?_
  rintro e w2 ⟨rfl, hb⟩
  have hs2 : w1.heap.size ≤ w2.heap.size := hb.size
  have HX_2 := Lib.hid (HX_1.out.later hb)
  have HB_2 := Lib.hid (HB_1.out.trans (hb.mono (by omega)))
  clear HX_1 HB_1
  clear x0 x1 x2 x3 x4
  clear hb
  rcases leftS3 (szHs l) f.sz hsl with hl | ⟨hss, hl⟩
  · go_wp2_with fail
    go_ret
    exact ⟨rfl, HB_2.out⟩
  have hsf : f.sz ≤ 1048576 := by omega
  obtain ⟨⟨R, ok⟩, hR⟩ : ∃ p, findR l f = p := ⟨_, rfl⟩
  have HRM : Hid (R.marks ≤ 7340032) := by have h1 := R.marks_sz; have h2 := findR_sz l f; rw [hR] at h2; unfold Hid; have h3 : R.sz ≤ szHs l := h2; omega
  have HRR := Lib.hid hR
  have HM1 : Hid (f.marks ≤ 3145728) := by have := marks_szH f; unfold Hid; omega
  have HMK : Hid (marksHs l ≤ 7340032) := by have := marksHs_sz l; unfold Hid; omega
  have hne : (ok != ok) = false := by cases ok <;> rfl
  have hl0 : ¬ (leftOf (1048576 - szHs l) f.sz < 0) := by omega
  clear hR hl
  go_wp2_with fail
  apply cut_find (F := fun z xa xb ya yb yc yd r0 r1 r2 r3 r4 r5 r6 r7 r8 r9 W => Below w2.heap.size w2 W ∧ w2.heap.size ≤ z ∧ z < W.heap.size ∧ HBox W z ⟨R, r0, r1, r2, r3, r4, r5, r6, r7, r8, r9⟩ ∧ InH (fun k => k < W.heap.size ∧ k ≠ z) W R (.agg #[.int .i64 R.name.kind, .string R.name.name, .int .i64 R.name.n, .slice r0 R.name.scopes.length r1, .slice r2 R.name.kids.length r3, .int .i64 R.depth, .int .i64 R.one.kind, .string R.one.name, .int .i64 R.one.n, .slice r4 R.one.scopes.length r5, .slice r6 R.one.kids.length r7, .slice r8 R.many.length r9]))
  case h1 =>
    intro HCONT0
    have HCONT := Lib.hid HCONT0
    clear HCONT0
    refine upto_begin (fun W => FormBox W w.heap.size f sa scap fa fcap) 11 (by kernel_rfl) ?_
    refine gen_any (fun u0 hu0 => ?_)
    have hB : Below w2.heap.size w2 u0 := by rw [hu0]; exact (Below.refl _ _).drew
    have hsu0 : w2.heap.size ≤ u0.heap.size := hB.size
    have hX : FormBox u0 w.heap.size f sa scap fa fcap := HX_2.out.later hB
    clear hu0
    refine upto_take (i := 0) (d := some 28) (v := ?_) rfl rfl (by kernel_rfl) (by kernel_rfl) (by kernel_rfl) (by kernel_rfl) (fun _ _ _ h => h) (Or.inl ⟨by rfl, ?_⟩) hX ?_
    rotate_left
    · (intro wS hSw; obtain ⟨_, _, _, _, _⟩ := hSw; go_simp; try with_reducible rfl)
    try simp only [Act.put, List.setIfInBounds_toArray, List.set_cons_zero, List.set_cons_succ]
    refine upto_take (i := 2) (d := some 30) (v := ?_) rfl rfl (by kernel_rfl) (by kernel_rfl) (by kernel_rfl) (by kernel_rfl) (fun _ _ _ h => h) (Or.inl ⟨by rfl, ?_⟩) hX ?_
    rotate_left
    · (intro wS hSw; obtain ⟨_, _, _, _, _⟩ := hSw; go_simp; try with_reducible rfl)
    try simp only [Act.put, List.setIfInBounds_toArray, List.set_cons_zero, List.set_cons_succ]
    refine upto_two (i := 1) (j := 8) (by kernel_rfl) rfl rfl (fun K hK => ?_) (fun K hK => ?_)
    · skip
      go_simp
      refine (copyH u0 l la lcap ((HU.out.later (same_below (HB_2.out.trans (hB.mono (by omega))))).mono (fun k (hk : k < w.heap.size) => by show k < u0.heap.size; omega)) hsl).mono ?_
      rintro e u1 ⟨xa, xb, bh, rfl, ho, hn, hpl, hb⟩
      have hs_u1 : u0.heap.size ≤ u1.heap.size := hb.size
      have hB := hB.trans (hb.mono (by omega))
      have hX := hX.later hb
      have hh : HitsIn (Pl u1.heap.size u1) u1 xa xb l := ho.reads (fun b hm => ⟨(hn.2 b hm).2, hpl b hm⟩)
      refine hK.out _ _ (.inr hX) ?_
      clear hK K hb
      refine upto_two (i := 3) (j := 8) (by kernel_rfl) rfl rfl (fun K hK => ?_) (fun K hK => ?_)
      · skip
        go_simp
        refine (toForm_any w.heap.size f _ u1 (by omega) (InV.later (same_below (HB_2.out.trans (hB.mono (by omega)))) _ _ HV.out) hsf).mono ?_
        rintro e u2 hp
        obtain ⟨ya, yb, yc, yd, rfl, hf, hb⟩ := hp.weak
        have hs_u2 : u1.heap.size ≤ u2.heap.size := hb.size
        have hB := hB.trans (hb.mono (by omega))
        have hX := hX.later hb
        have hh := HO.hitsPl hb hh
        refine hK.out _ _ (.inr hX) ?_
        clear hK K hb
        refine upto_two (i := 4) (j := 8) (by kernel_rfl) rfl rfl (fun K hK => ?_) (fun K hK => ?_)
        · skip
          go_simp
          refine (specFind l f xa xb _ u2 hh hf hsl R ok HRR.out).mono ?_
          rintro e u3 ⟨r0, r1, r2, r3, r4, r5, r6, r7, r8, r9, rfl, hr0, hb⟩
          have hs_u3 : u2.heap.size ≤ u3.heap.size := hb.size
          have hB := hB.trans (hb.mono (by omega))
          have hX := hX.later hb
          have hh := HO.hitsPl hb hh
          have hf := InV.lift hb hf
          have hr : InH (fun k => k < u3.heap.size) u3 R (.agg #[.int .i64 R.name.kind, .string R.name.name, .int .i64 R.name.n, .slice r0 R.name.scopes.length r1, .slice r2 R.name.kids.length r3, .int .i64 R.depth, .int .i64 R.one.kind, .string R.one.name, .int .i64 R.one.n, .slice r4 R.one.scopes.length r5, .slice r6 R.one.kids.length r7, .slice r8 R.many.length r9]) := InH.mono (fun k hk => hk.2) _ _ hr0
          refine hK.out _ _ (.inr hX) ?_
          clear hK K hb
          refine upto_take (i := 5) (d := some 27) (v := ?_) rfl rfl (by kernel_rfl) (by kernel_rfl) (by kernel_rfl) (by kernel_rfl) (fun _ _ _ h => h) (Or.inl ⟨by rfl, ?_⟩) hX ?_
          rotate_left
          · (intro wS hSw; obtain ⟨_, _, _, _, _⟩ := hSw; go_simp; try with_reducible rfl)
          try simp only [Act.put, List.setIfInBounds_toArray, List.set_cons_zero, List.set_cons_succ]
          refine upto_take (i := 6) (d := some 33) (v := ?_) rfl rfl (by kernel_rfl) (by kernel_rfl) (by kernel_rfl) (by kernel_rfl) (fun _ _ _ h => h) (Or.inl ⟨by rfl, ?_⟩) hX ?_
          rotate_left
          · (intro wS hSw; obtain ⟨_, _, _, _, _⟩ := hSw; go_simp; try with_reducible rfl)
          try simp only [Act.put, List.setIfInBounds_toArray, List.set_cons_zero, List.set_cons_succ]
          refine upto_take (i := 7) (d := some 34) (v := ?_) rfl rfl (by kernel_rfl) (by kernel_rfl) (by kernel_rfl) (by kernel_rfl) (fun _ _ _ h => h) (Or.inl ⟨by rfl, ?_⟩) hX ?_
          rotate_left
          · (intro wS hSw; obtain ⟨_, _, _, _, _⟩ := hSw; go_simp; try with_reducible rfl)
          try simp only [Act.put, List.setIfInBounds_toArray, List.set_cons_zero, List.set_cons_succ]
          refine upto_one (i := 8) (by kernel_rfl) rfl (fun K hK => ?_)
          go_simp
          obtain ⟨u4, hu4⟩ : ∃ V, V = u3.alloc (.cells #[.int .i64 0, .string { data := #[] }, .int .i64 0, .slice none 0 0, .slice none 0 0, .int .i64 0, .int .i64 0, .string { data := #[] }, .int .i64 0, .slice none 0 0, .slice none 0 0, .slice none 0 0] 38) := ⟨_, rfl⟩
          have hb : Below u3.heap.size u3 u4 := by rw [hu4]; exact below_alloc _ _
          have hz : u4.heap[u3.heap.size]? = some (.cells #[.int .i64 0, .string { data := #[] }, .int .i64 0, .slice none 0 0, .slice none 0 0, .int .i64 0, .int .i64 0, .string { data := #[] }, .int .i64 0, .slice none 0 0, .slice none 0 0, .slice none 0 0] 38 (0, 0)) := by rw [hu4]; exact heap_alloc_new _ _
          have hs_u4 : u4.heap.size = u3.heap.size + 1 := by rw [hu4]; simp
          rw [← hu4]
          clear hu4
          obtain ⟨z, hzz⟩ : ∃ z, z = u3.heap.size := ⟨_, rfl⟩
          rw [← hzz] at hz ⊢
          have hz1_ : z < u4.heap.size := by omega
          have hz2_ : w2.heap.size ≤ z := by omega
          have hz3_ : u3.heap.size ≤ z := by omega
          clear hzz
          have hr : InH (fun k => k < u4.heap.size ∧ k ≠ z) u4 R (.agg #[.int .i64 R.name.kind, .string R.name.name, .int .i64 R.name.n, .slice r0 R.name.scopes.length r1, .slice r2 R.name.kids.length r3, .int .i64 R.depth, .int .i64 R.one.kind, .string R.one.name, .int .i64 R.one.n, .slice r4 R.one.scopes.length r5, .slice r6 R.one.kids.length r7, .slice r8 R.many.length r9]) := InH.mono (fun k (hk : k < u3.heap.size) => ⟨by omega, by omega⟩) _ _ (InH.later (Same.of_below hb (fun k hk => hk)) _ _ hr)
          have hB := hB.trans (hb.mono (by omega))
          have hX := hX.later hb
          have hh := HO.hitsPl hb hh
          have hf := InV.lift hb hf
          refine hK.out _ _ (.inr hX) ?_
          clear hK K hb
          have hplr : Plain u4 z := ⟨_, _, hz⟩
          have c0 : u4.cell? ⟨z, 0, none⟩ = some (.int .i64 0) := by rw [cell_of_row u4 _ 0 _ _ _ hz]; rfl
          have c1 : u4.cell? ⟨z, 1, none⟩ = some (.string { data := #[] }) := by rw [cell_of_row u4 _ 1 _ _ _ hz]; rfl
          have c2 : u4.cell? ⟨z, 2, none⟩ = some (.int .i64 0) := by rw [cell_of_row u4 _ 2 _ _ _ hz]; rfl
          have c3 : u4.cell? ⟨z, 3, none⟩ = some (.slice none 0 0) := by rw [cell_of_row u4 _ 3 _ _ _ hz]; rfl
          have c4 : u4.cell? ⟨z, 4, none⟩ = some (.slice none 0 0) := by rw [cell_of_row u4 _ 4 _ _ _ hz]; rfl
          have c5 : u4.cell? ⟨z, 5, none⟩ = some (.int .i64 0) := by rw [cell_of_row u4 _ 5 _ _ _ hz]; rfl
          have c6 : u4.cell? ⟨z, 6, none⟩ = some (.int .i64 0) := by rw [cell_of_row u4 _ 6 _ _ _ hz]; rfl
          have c7 : u4.cell? ⟨z, 7, none⟩ = some (.string { data := #[] }) := by rw [cell_of_row u4 _ 7 _ _ _ hz]; rfl
          have c8 : u4.cell? ⟨z, 8, none⟩ = some (.int .i64 0) := by rw [cell_of_row u4 _ 8 _ _ _ hz]; rfl
          have c9 : u4.cell? ⟨z, 9, none⟩ = some (.slice none 0 0) := by rw [cell_of_row u4 _ 9 _ _ _ hz]; rfl
          have c10 : u4.cell? ⟨z, 10, none⟩ = some (.slice none 0 0) := by rw [cell_of_row u4 _ 10 _ _ _ hz]; rfl
          have c11 : u4.cell? ⟨z, 11, none⟩ = some (.slice none 0 0) := by rw [cell_of_row u4 _ 11 _ _ _ hz]; rfl
          have t_0 := hplr.frozen 0
          have t_1 := hplr.frozen 1
          have t_2 := hplr.frozen 2
          have t_3 := hplr.frozen 3
          have t_4 := hplr.frozen 4
          have t_5 := hplr.frozen 5
          have t_6 := hplr.frozen 6
          have t_7 := hplr.frozen 7
          have t_8 := hplr.frozen 8
          have t_9 := hplr.frozen 9
          have t_10 := hplr.frozen 10
          have t_11 := hplr.frozen 11
          have HR : Hid (∀ i, i < 12 → ∃ v, u4.cell? ⟨z, 0 + i, none⟩ = some v) := fun i hi => by
            rw [Nat.zero_add]
            match i, hi with
            | 0, _ => exact ⟨_, c0⟩
            | 1, _ => exact ⟨_, c1⟩
            | 2, _ => exact ⟨_, c2⟩
            | 3, _ => exact ⟨_, c3⟩
            | 4, _ => exact ⟨_, c4⟩
            | 5, _ => exact ⟨_, c5⟩
            | 6, _ => exact ⟨_, c6⟩
            | 7, _ => exact ⟨_, c7⟩
            | 8, _ => exact ⟨_, c8⟩
            | 9, _ => exact ⟨_, c9⟩
            | 10, _ => exact ⟨_, c10⟩
            | 11, _ => exact ⟨_, c11⟩
          refine upto_one (i := 9) (by kernel_rfl) rfl (fun K hK => ?_)
          go_simp
          obtain ⟨V, hV⟩ : ∃ V, V = ((((((((((((u4.setCell ⟨z, 0, none⟩ (.int .i64 R.name.kind)).setCell ⟨z, 1, none⟩ (.string R.name.name)).setCell ⟨z, 2, none⟩ (.int .i64 R.name.n)).setCell ⟨z, 3, none⟩ (.slice r0 R.name.scopes.length r1)).setCell ⟨z, 4, none⟩ (.slice r2 R.name.kids.length r3)).setCell ⟨z, 5, none⟩ (.int .i64 R.depth)).setCell ⟨z, 6, none⟩ (.int .i64 R.one.kind)).setCell ⟨z, 7, none⟩ (.string R.one.name)).setCell ⟨z, 8, none⟩ (.int .i64 R.one.n)).setCell ⟨z, 9, none⟩ (.slice r4 R.one.scopes.length r5)).setCell ⟨z, 10, none⟩ (.slice r6 R.one.kids.length r7)).setCell ⟨z, 11, none⟩ (.slice r8 R.many.length r9)) := ⟨_, rfl⟩
          have E : V = sets u4 z 0 [.int .i64 R.name.kind, .string R.name.name, .int .i64 R.name.n, .slice r0 R.name.scopes.length r1, .slice r2 R.name.kids.length r3, .int .i64 R.depth, .int .i64 R.one.kind, .string R.one.name, .int .i64 R.one.n, .slice r4 R.one.scopes.length r5, .slice r6 R.one.kids.length r7, .slice r8 R.many.length r9] := by rw [hV]; rfl
          have hin := sets_in z [Value.int .i64 R.name.kind, Value.string R.name.name, Value.int .i64 R.name.n, Value.slice r0 R.name.scopes.length r1, Value.slice r2 R.name.kids.length r3, Value.int .i64 R.depth, Value.int .i64 R.one.kind, Value.string R.one.name, Value.int .i64 R.one.n, Value.slice r4 R.one.scopes.length r5, Value.slice r6 R.one.kids.length r7, Value.slice r8 R.many.length r9] u4 0 HR.out
          rw [← E] at hin
          have hbx : HBox V z ⟨R, r0, r1, r2, r3, r4, r5, r6, r7, r8, r9⟩ := ⟨by have := hin 0 (by simp); simpa using this, by have := hin 1 (by simp); simpa using this, by have := hin 2 (by simp); simpa using this, by have := hin 3 (by simp); simpa using this, by have := hin 4 (by simp); simpa using this, by have := hin 5 (by simp); simpa using this, by have := hin 6 (by simp); simpa using this, by have := hin 7 (by simp); simpa using this, by have := hin 8 (by simp); simpa using this, by have := hin 9 (by simp); simpa using this, by have := hin 10 (by simp); simpa using this, by have := hin 11 (by simp); simpa using this⟩
          have hzV : V.heap.size = u4.heap.size := by rw [E, sets_size]
          have hBV : Below w2.heap.size w2 V := by rw [E]; exact sets_below (by omega) _ _ hB
          have hrV : InH (fun k => k < V.heap.size ∧ k ≠ z) V R (.agg #[.int .i64 R.name.kind, .string R.name.name, .int .i64 R.name.n, .slice r0 R.name.scopes.length r1, .slice r2 R.name.kids.length r3, .int .i64 R.depth, .int .i64 R.one.kind, .string R.one.name, .int .i64 R.one.n, .slice r4 R.one.scopes.length r5, .slice r6 R.one.kids.length r7, .slice r8 R.many.length r9]) := by rw [hzV, E]; exact InH.later (fun k hk => sets_block _ _ _ _ hk.2) _ _ hr
          have hXV : FormBox V w.heap.size f sa scap fa fcap := HX_2.out.later hBV
          rw [← hV]
          clear hV E hin
          refine hK.out _ _ (.inr hXV) ?_
          clear hK K
          refine upto_one (i := 10) (by kernel_rfl) rfl (fun K hK => ?_)
          go_simp
          refine hK.out _ _ (.inr hXV) ?_
          clear hK K
          refine upto_done (by kernel_rfl) ?_ _
          exact HCONT.out z xa xb ya yb yc yd r0 r1 r2 r3 r4 r5 r6 r7 r8 r9 V ⟨hBV, by omega, by omega, hbx, hrV⟩
        · skip
          go_simp
          obtain ⟨u5, hu5⟩ : ∃ V, V = u2.alloc (.cells #[.int .i64 0, .string { data := #[] }, .int .i64 0, .slice none 0 0, .slice none 0 0, .int .i64 0, .int .i64 0, .string { data := #[] }, .int .i64 0, .slice none 0 0, .slice none 0 0, .slice none 0 0] 38) := ⟨_, rfl⟩
          have hb : Below u2.heap.size u2 u5 := by rw [hu5]; exact below_alloc _ _
          have hz : u5.heap[u2.heap.size]? = some (.cells #[.int .i64 0, .string { data := #[] }, .int .i64 0, .slice none 0 0, .slice none 0 0, .int .i64 0, .int .i64 0, .string { data := #[] }, .int .i64 0, .slice none 0 0, .slice none 0 0, .slice none 0 0] 38 (0, 0)) := by rw [hu5]; exact heap_alloc_new _ _
          have hs_u5 : u5.heap.size = u2.heap.size + 1 := by rw [hu5]; simp
          rw [← hu5]
          clear hu5
          obtain ⟨z, hzz⟩ : ∃ z, z = u2.heap.size := ⟨_, rfl⟩
          rw [← hzz] at hz ⊢
          have hz1_ : z < u5.heap.size := by omega
          have hz2_ : w2.heap.size ≤ z := by omega
          have hz3_ : u2.heap.size ≤ z := by omega
          clear hzz
          have hB := hB.trans (hb.mono (by omega))
          have hX := hX.later hb
          have hh := HO.hitsPl hb hh
          have hf := InV.lift hb hf
          refine hK.out _ _ (.inr hX) ?_
          clear hK K hb
          refine upto_one (i := 4) (by kernel_rfl) rfl (fun K hK => ?_)
          go_simp
          refine (specFind l f xa xb _ u5 hh hf hsl R ok HRR.out).mono ?_
          rintro e u6 ⟨r0, r1, r2, r3, r4, r5, r6, r7, r8, r9, rfl, hr0, hb⟩
          have hs_u6 : u5.heap.size ≤ u6.heap.size := hb.size
          have hB := hB.trans (hb.mono (by omega))
          have hX := hX.later hb
          have hh := HO.hitsPl hb hh
          have hf := InV.lift hb hf
          have hz := (hb.block _ (by omega)).trans hz
          have hr : InH (fun k => k < u6.heap.size ∧ k ≠ z) u6 R (.agg #[.int .i64 R.name.kind, .string R.name.name, .int .i64 R.name.n, .slice r0 R.name.scopes.length r1, .slice r2 R.name.kids.length r3, .int .i64 R.depth, .int .i64 R.one.kind, .string R.one.name, .int .i64 R.one.n, .slice r4 R.one.scopes.length r5, .slice r6 R.one.kids.length r7, .slice r8 R.many.length r9]) := InH.mono (fun k hk => ⟨hk.2, by have := hk.1; omega⟩) _ _ hr0
          refine hK.out _ _ (.inr hX) ?_
          clear hK K hb
          refine upto_take (i := 5) (d := some 27) (v := ?_) rfl rfl (by kernel_rfl) (by kernel_rfl) (by kernel_rfl) (by kernel_rfl) (fun _ _ _ h => h) (Or.inl ⟨by rfl, ?_⟩) hX ?_
          rotate_left
          · (intro wS hSw; obtain ⟨_, _, _, _, _⟩ := hSw; go_simp; try with_reducible rfl)
          try simp only [Act.put, List.setIfInBounds_toArray, List.set_cons_zero, List.set_cons_succ]
          refine upto_take (i := 6) (d := some 33) (v := ?_) rfl rfl (by kernel_rfl) (by kernel_rfl) (by kernel_rfl) (by kernel_rfl) (fun _ _ _ h => h) (Or.inl ⟨by rfl, ?_⟩) hX ?_
          rotate_left
          · (intro wS hSw; obtain ⟨_, _, _, _, _⟩ := hSw; go_simp; try with_reducible rfl)
          try simp only [Act.put, List.setIfInBounds_toArray, List.set_cons_zero, List.set_cons_succ]
          refine upto_take (i := 7) (d := some 34) (v := ?_) rfl rfl (by kernel_rfl) (by kernel_rfl) (by kernel_rfl) (by kernel_rfl) (fun _ _ _ h => h) (Or.inl ⟨by rfl, ?_⟩) hX ?_
          rotate_left
          · (intro wS hSw; obtain ⟨_, _, _, _, _⟩ := hSw; go_simp; try with_reducible rfl)
          try simp only [Act.put, List.setIfInBounds_toArray, List.set_cons_zero, List.set_cons_succ]
          have hplr : Plain u6 z := ⟨_, _, hz⟩
          have c0 : u6.cell? ⟨z, 0, none⟩ = some (.int .i64 0) := by rw [cell_of_row u6 _ 0 _ _ _ hz]; rfl
          have c1 : u6.cell? ⟨z, 1, none⟩ = some (.string { data := #[] }) := by rw [cell_of_row u6 _ 1 _ _ _ hz]; rfl
          have c2 : u6.cell? ⟨z, 2, none⟩ = some (.int .i64 0) := by rw [cell_of_row u6 _ 2 _ _ _ hz]; rfl
          have c3 : u6.cell? ⟨z, 3, none⟩ = some (.slice none 0 0) := by rw [cell_of_row u6 _ 3 _ _ _ hz]; rfl
          have c4 : u6.cell? ⟨z, 4, none⟩ = some (.slice none 0 0) := by rw [cell_of_row u6 _ 4 _ _ _ hz]; rfl
          have c5 : u6.cell? ⟨z, 5, none⟩ = some (.int .i64 0) := by rw [cell_of_row u6 _ 5 _ _ _ hz]; rfl
          have c6 : u6.cell? ⟨z, 6, none⟩ = some (.int .i64 0) := by rw [cell_of_row u6 _ 6 _ _ _ hz]; rfl
          have c7 : u6.cell? ⟨z, 7, none⟩ = some (.string { data := #[] }) := by rw [cell_of_row u6 _ 7 _ _ _ hz]; rfl
          have c8 : u6.cell? ⟨z, 8, none⟩ = some (.int .i64 0) := by rw [cell_of_row u6 _ 8 _ _ _ hz]; rfl
          have c9 : u6.cell? ⟨z, 9, none⟩ = some (.slice none 0 0) := by rw [cell_of_row u6 _ 9 _ _ _ hz]; rfl
          have c10 : u6.cell? ⟨z, 10, none⟩ = some (.slice none 0 0) := by rw [cell_of_row u6 _ 10 _ _ _ hz]; rfl
          have c11 : u6.cell? ⟨z, 11, none⟩ = some (.slice none 0 0) := by rw [cell_of_row u6 _ 11 _ _ _ hz]; rfl
          have t_0 := hplr.frozen 0
          have t_1 := hplr.frozen 1
          have t_2 := hplr.frozen 2
          have t_3 := hplr.frozen 3
          have t_4 := hplr.frozen 4
          have t_5 := hplr.frozen 5
          have t_6 := hplr.frozen 6
          have t_7 := hplr.frozen 7
          have t_8 := hplr.frozen 8
          have t_9 := hplr.frozen 9
          have t_10 := hplr.frozen 10
          have t_11 := hplr.frozen 11
          have HR : Hid (∀ i, i < 12 → ∃ v, u6.cell? ⟨z, 0 + i, none⟩ = some v) := fun i hi => by
            rw [Nat.zero_add]
            match i, hi with
            | 0, _ => exact ⟨_, c0⟩
            | 1, _ => exact ⟨_, c1⟩
            | 2, _ => exact ⟨_, c2⟩
            | 3, _ => exact ⟨_, c3⟩
            | 4, _ => exact ⟨_, c4⟩
            | 5, _ => exact ⟨_, c5⟩
            | 6, _ => exact ⟨_, c6⟩
            | 7, _ => exact ⟨_, c7⟩
            | 8, _ => exact ⟨_, c8⟩
            | 9, _ => exact ⟨_, c9⟩
            | 10, _ => exact ⟨_, c10⟩
            | 11, _ => exact ⟨_, c11⟩
          refine upto_one (i := 9) (by kernel_rfl) rfl (fun K hK => ?_)
          go_simp
          obtain ⟨V, hV⟩ : ∃ V, V = ((((((((((((u6.setCell ⟨z, 0, none⟩ (.int .i64 R.name.kind)).setCell ⟨z, 1, none⟩ (.string R.name.name)).setCell ⟨z, 2, none⟩ (.int .i64 R.name.n)).setCell ⟨z, 3, none⟩ (.slice r0 R.name.scopes.length r1)).setCell ⟨z, 4, none⟩ (.slice r2 R.name.kids.length r3)).setCell ⟨z, 5, none⟩ (.int .i64 R.depth)).setCell ⟨z, 6, none⟩ (.int .i64 R.one.kind)).setCell ⟨z, 7, none⟩ (.string R.one.name)).setCell ⟨z, 8, none⟩ (.int .i64 R.one.n)).setCell ⟨z, 9, none⟩ (.slice r4 R.one.scopes.length r5)).setCell ⟨z, 10, none⟩ (.slice r6 R.one.kids.length r7)).setCell ⟨z, 11, none⟩ (.slice r8 R.many.length r9)) := ⟨_, rfl⟩
          have E : V = sets u6 z 0 [.int .i64 R.name.kind, .string R.name.name, .int .i64 R.name.n, .slice r0 R.name.scopes.length r1, .slice r2 R.name.kids.length r3, .int .i64 R.depth, .int .i64 R.one.kind, .string R.one.name, .int .i64 R.one.n, .slice r4 R.one.scopes.length r5, .slice r6 R.one.kids.length r7, .slice r8 R.many.length r9] := by rw [hV]; rfl
          have hin := sets_in z [Value.int .i64 R.name.kind, Value.string R.name.name, Value.int .i64 R.name.n, Value.slice r0 R.name.scopes.length r1, Value.slice r2 R.name.kids.length r3, Value.int .i64 R.depth, Value.int .i64 R.one.kind, Value.string R.one.name, Value.int .i64 R.one.n, Value.slice r4 R.one.scopes.length r5, Value.slice r6 R.one.kids.length r7, Value.slice r8 R.many.length r9] u6 0 HR.out
          rw [← E] at hin
          have hbx : HBox V z ⟨R, r0, r1, r2, r3, r4, r5, r6, r7, r8, r9⟩ := ⟨by have := hin 0 (by simp); simpa using this, by have := hin 1 (by simp); simpa using this, by have := hin 2 (by simp); simpa using this, by have := hin 3 (by simp); simpa using this, by have := hin 4 (by simp); simpa using this, by have := hin 5 (by simp); simpa using this, by have := hin 6 (by simp); simpa using this, by have := hin 7 (by simp); simpa using this, by have := hin 8 (by simp); simpa using this, by have := hin 9 (by simp); simpa using this, by have := hin 10 (by simp); simpa using this, by have := hin 11 (by simp); simpa using this⟩
          have hzV : V.heap.size = u6.heap.size := by rw [E, sets_size]
          have hBV : Below w2.heap.size w2 V := by rw [E]; exact sets_below (by omega) _ _ hB
          have hrV : InH (fun k => k < V.heap.size ∧ k ≠ z) V R (.agg #[.int .i64 R.name.kind, .string R.name.name, .int .i64 R.name.n, .slice r0 R.name.scopes.length r1, .slice r2 R.name.kids.length r3, .int .i64 R.depth, .int .i64 R.one.kind, .string R.one.name, .int .i64 R.one.n, .slice r4 R.one.scopes.length r5, .slice r6 R.one.kids.length r7, .slice r8 R.many.length r9]) := by rw [hzV, E]; exact InH.later (fun k hk => sets_block _ _ _ _ hk.2) _ _ hr
          have hXV : FormBox V w.heap.size f sa scap fa fcap := HX_2.out.later hBV
          rw [← hV]
          clear hV E hin
          refine hK.out _ _ (.inr hXV) ?_
          clear hK K
          refine upto_one (i := 10) (by kernel_rfl) rfl (fun K hK => ?_)
          go_simp
          refine hK.out _ _ (.inr hXV) ?_
          clear hK K
          refine upto_done (by kernel_rfl) ?_ _
          exact HCONT.out z xa xb ya yb yc yd r0 r1 r2 r3 r4 r5 r6 r7 r8 r9 V ⟨hBV, by omega, by omega, hbx, hrV⟩
      · skip
        go_simp
        obtain ⟨u7, hu7⟩ : ∃ V, V = u1.alloc (.cells #[.int .i64 0, .string { data := #[] }, .int .i64 0, .slice none 0 0, .slice none 0 0, .int .i64 0, .int .i64 0, .string { data := #[] }, .int .i64 0, .slice none 0 0, .slice none 0 0, .slice none 0 0] 38) := ⟨_, rfl⟩
        have hb : Below u1.heap.size u1 u7 := by rw [hu7]; exact below_alloc _ _
        have hz : u7.heap[u1.heap.size]? = some (.cells #[.int .i64 0, .string { data := #[] }, .int .i64 0, .slice none 0 0, .slice none 0 0, .int .i64 0, .int .i64 0, .string { data := #[] }, .int .i64 0, .slice none 0 0, .slice none 0 0, .slice none 0 0] 38 (0, 0)) := by rw [hu7]; exact heap_alloc_new _ _
        have hs_u7 : u7.heap.size = u1.heap.size + 1 := by rw [hu7]; simp
        rw [← hu7]
        clear hu7
        obtain ⟨z, hzz⟩ : ∃ z, z = u1.heap.size := ⟨_, rfl⟩
        rw [← hzz] at hz ⊢
        have hz1_ : z < u7.heap.size := by omega
        have hz2_ : w2.heap.size ≤ z := by omega
        have hz3_ : u1.heap.size ≤ z := by omega
        clear hzz
        have hB := hB.trans (hb.mono (by omega))
        have hX := hX.later hb
        have hh := HO.hitsPl hb hh
        refine hK.out _ _ (.inr hX) ?_
        clear hK K hb
        refine upto_one (i := 3) (by kernel_rfl) rfl (fun K hK => ?_)
        go_simp
        refine (toForm_any w.heap.size f _ u7 (by omega) (InV.later (same_below (HB_2.out.trans (hB.mono (by omega)))) _ _ HV.out) hsf).mono ?_
        rintro e u8 hp
        obtain ⟨ya, yb, yc, yd, rfl, hf, hb⟩ := hp.weak
        have hs_u8 : u7.heap.size ≤ u8.heap.size := hb.size
        have hB := hB.trans (hb.mono (by omega))
        have hX := hX.later hb
        have hh := HO.hitsPl hb hh
        have hz := (hb.block _ (by omega)).trans hz
        refine hK.out _ _ (.inr hX) ?_
        clear hK K hb
        refine upto_one (i := 4) (by kernel_rfl) rfl (fun K hK => ?_)
        go_simp
        refine (specFind l f xa xb _ u8 hh hf hsl R ok HRR.out).mono ?_
        rintro e u9 ⟨r0, r1, r2, r3, r4, r5, r6, r7, r8, r9, rfl, hr0, hb⟩
        have hs_u9 : u8.heap.size ≤ u9.heap.size := hb.size
        have hB := hB.trans (hb.mono (by omega))
        have hX := hX.later hb
        have hh := HO.hitsPl hb hh
        have hf := InV.lift hb hf
        have hz := (hb.block _ (by omega)).trans hz
        have hr : InH (fun k => k < u9.heap.size ∧ k ≠ z) u9 R (.agg #[.int .i64 R.name.kind, .string R.name.name, .int .i64 R.name.n, .slice r0 R.name.scopes.length r1, .slice r2 R.name.kids.length r3, .int .i64 R.depth, .int .i64 R.one.kind, .string R.one.name, .int .i64 R.one.n, .slice r4 R.one.scopes.length r5, .slice r6 R.one.kids.length r7, .slice r8 R.many.length r9]) := InH.mono (fun k hk => ⟨hk.2, by have := hk.1; omega⟩) _ _ hr0
        refine hK.out _ _ (.inr hX) ?_
        clear hK K hb
        refine upto_take (i := 5) (d := some 27) (v := ?_) rfl rfl (by kernel_rfl) (by kernel_rfl) (by kernel_rfl) (by kernel_rfl) (fun _ _ _ h => h) (Or.inl ⟨by rfl, ?_⟩) hX ?_
        rotate_left
        · (intro wS hSw; obtain ⟨_, _, _, _, _⟩ := hSw; go_simp; try with_reducible rfl)
        try simp only [Act.put, List.setIfInBounds_toArray, List.set_cons_zero, List.set_cons_succ]
        refine upto_take (i := 6) (d := some 33) (v := ?_) rfl rfl (by kernel_rfl) (by kernel_rfl) (by kernel_rfl) (by kernel_rfl) (fun _ _ _ h => h) (Or.inl ⟨by rfl, ?_⟩) hX ?_
        rotate_left
        · (intro wS hSw; obtain ⟨_, _, _, _, _⟩ := hSw; go_simp; try with_reducible rfl)
        try simp only [Act.put, List.setIfInBounds_toArray, List.set_cons_zero, List.set_cons_succ]
        refine upto_take (i := 7) (d := some 34) (v := ?_) rfl rfl (by kernel_rfl) (by kernel_rfl) (by kernel_rfl) (by kernel_rfl) (fun _ _ _ h => h) (Or.inl ⟨by rfl, ?_⟩) hX ?_
        rotate_left
        · (intro wS hSw; obtain ⟨_, _, _, _, _⟩ := hSw; go_simp; try with_reducible rfl)
        try simp only [Act.put, List.setIfInBounds_toArray, List.set_cons_zero, List.set_cons_succ]
        have hplr : Plain u9 z := ⟨_, _, hz⟩
        have c0 : u9.cell? ⟨z, 0, none⟩ = some (.int .i64 0) := by rw [cell_of_row u9 _ 0 _ _ _ hz]; rfl
        have c1 : u9.cell? ⟨z, 1, none⟩ = some (.string { data := #[] }) := by rw [cell_of_row u9 _ 1 _ _ _ hz]; rfl
        have c2 : u9.cell? ⟨z, 2, none⟩ = some (.int .i64 0) := by rw [cell_of_row u9 _ 2 _ _ _ hz]; rfl
        have c3 : u9.cell? ⟨z, 3, none⟩ = some (.slice none 0 0) := by rw [cell_of_row u9 _ 3 _ _ _ hz]; rfl
        have c4 : u9.cell? ⟨z, 4, none⟩ = some (.slice none 0 0) := by rw [cell_of_row u9 _ 4 _ _ _ hz]; rfl
        have c5 : u9.cell? ⟨z, 5, none⟩ = some (.int .i64 0) := by rw [cell_of_row u9 _ 5 _ _ _ hz]; rfl
        have c6 : u9.cell? ⟨z, 6, none⟩ = some (.int .i64 0) := by rw [cell_of_row u9 _ 6 _ _ _ hz]; rfl
        have c7 : u9.cell? ⟨z, 7, none⟩ = some (.string { data := #[] }) := by rw [cell_of_row u9 _ 7 _ _ _ hz]; rfl
        have c8 : u9.cell? ⟨z, 8, none⟩ = some (.int .i64 0) := by rw [cell_of_row u9 _ 8 _ _ _ hz]; rfl
        have c9 : u9.cell? ⟨z, 9, none⟩ = some (.slice none 0 0) := by rw [cell_of_row u9 _ 9 _ _ _ hz]; rfl
        have c10 : u9.cell? ⟨z, 10, none⟩ = some (.slice none 0 0) := by rw [cell_of_row u9 _ 10 _ _ _ hz]; rfl
        have c11 : u9.cell? ⟨z, 11, none⟩ = some (.slice none 0 0) := by rw [cell_of_row u9 _ 11 _ _ _ hz]; rfl
        have t_0 := hplr.frozen 0
        have t_1 := hplr.frozen 1
        have t_2 := hplr.frozen 2
        have t_3 := hplr.frozen 3
        have t_4 := hplr.frozen 4
        have t_5 := hplr.frozen 5
        have t_6 := hplr.frozen 6
        have t_7 := hplr.frozen 7
        have t_8 := hplr.frozen 8
        have t_9 := hplr.frozen 9
        have t_10 := hplr.frozen 10
        have t_11 := hplr.frozen 11
        have HR : Hid (∀ i, i < 12 → ∃ v, u9.cell? ⟨z, 0 + i, none⟩ = some v) := fun i hi => by
          rw [Nat.zero_add]
          match i, hi with
          | 0, _ => exact ⟨_, c0⟩
          | 1, _ => exact ⟨_, c1⟩
          | 2, _ => exact ⟨_, c2⟩
          | 3, _ => exact ⟨_, c3⟩
          | 4, _ => exact ⟨_, c4⟩
          | 5, _ => exact ⟨_, c5⟩
          | 6, _ => exact ⟨_, c6⟩
          | 7, _ => exact ⟨_, c7⟩
          | 8, _ => exact ⟨_, c8⟩
          | 9, _ => exact ⟨_, c9⟩
          | 10, _ => exact ⟨_, c10⟩
          | 11, _ => exact ⟨_, c11⟩
        refine upto_one (i := 9) (by kernel_rfl) rfl (fun K hK => ?_)
        go_simp
        obtain ⟨V, hV⟩ : ∃ V, V = ((((((((((((u9.setCell ⟨z, 0, none⟩ (.int .i64 R.name.kind)).setCell ⟨z, 1, none⟩ (.string R.name.name)).setCell ⟨z, 2, none⟩ (.int .i64 R.name.n)).setCell ⟨z, 3, none⟩ (.slice r0 R.name.scopes.length r1)).setCell ⟨z, 4, none⟩ (.slice r2 R.name.kids.length r3)).setCell ⟨z, 5, none⟩ (.int .i64 R.depth)).setCell ⟨z, 6, none⟩ (.int .i64 R.one.kind)).setCell ⟨z, 7, none⟩ (.string R.one.name)).setCell ⟨z, 8, none⟩ (.int .i64 R.one.n)).setCell ⟨z, 9, none⟩ (.slice r4 R.one.scopes.length r5)).setCell ⟨z, 10, none⟩ (.slice r6 R.one.kids.length r7)).setCell ⟨z, 11, none⟩ (.slice r8 R.many.length r9)) := ⟨_, rfl⟩
        have E : V = sets u9 z 0 [.int .i64 R.name.kind, .string R.name.name, .int .i64 R.name.n, .slice r0 R.name.scopes.length r1, .slice r2 R.name.kids.length r3, .int .i64 R.depth, .int .i64 R.one.kind, .string R.one.name, .int .i64 R.one.n, .slice r4 R.one.scopes.length r5, .slice r6 R.one.kids.length r7, .slice r8 R.many.length r9] := by rw [hV]; rfl
        have hin := sets_in z [Value.int .i64 R.name.kind, Value.string R.name.name, Value.int .i64 R.name.n, Value.slice r0 R.name.scopes.length r1, Value.slice r2 R.name.kids.length r3, Value.int .i64 R.depth, Value.int .i64 R.one.kind, Value.string R.one.name, Value.int .i64 R.one.n, Value.slice r4 R.one.scopes.length r5, Value.slice r6 R.one.kids.length r7, Value.slice r8 R.many.length r9] u9 0 HR.out
        rw [← E] at hin
        have hbx : HBox V z ⟨R, r0, r1, r2, r3, r4, r5, r6, r7, r8, r9⟩ := ⟨by have := hin 0 (by simp); simpa using this, by have := hin 1 (by simp); simpa using this, by have := hin 2 (by simp); simpa using this, by have := hin 3 (by simp); simpa using this, by have := hin 4 (by simp); simpa using this, by have := hin 5 (by simp); simpa using this, by have := hin 6 (by simp); simpa using this, by have := hin 7 (by simp); simpa using this, by have := hin 8 (by simp); simpa using this, by have := hin 9 (by simp); simpa using this, by have := hin 10 (by simp); simpa using this, by have := hin 11 (by simp); simpa using this⟩
        have hzV : V.heap.size = u9.heap.size := by rw [E, sets_size]
        have hBV : Below w2.heap.size w2 V := by rw [E]; exact sets_below (by omega) _ _ hB
        have hrV : InH (fun k => k < V.heap.size ∧ k ≠ z) V R (.agg #[.int .i64 R.name.kind, .string R.name.name, .int .i64 R.name.n, .slice r0 R.name.scopes.length r1, .slice r2 R.name.kids.length r3, .int .i64 R.depth, .int .i64 R.one.kind, .string R.one.name, .int .i64 R.one.n, .slice r4 R.one.scopes.length r5, .slice r6 R.one.kids.length r7, .slice r8 R.many.length r9]) := by rw [hzV, E]; exact InH.later (fun k hk => sets_block _ _ _ _ hk.2) _ _ hr
        have hXV : FormBox V w.heap.size f sa scap fa fcap := HX_2.out.later hBV
        rw [← hV]
        clear hV E hin
        refine hK.out _ _ (.inr hXV) ?_
        clear hK K
        refine upto_one (i := 10) (by kernel_rfl) rfl (fun K hK => ?_)
        go_simp
        refine hK.out _ _ (.inr hXV) ?_
        clear hK K
        refine upto_done (by kernel_rfl) ?_ _
        exact HCONT.out z xa xb ya yb yc yd r0 r1 r2 r3 r4 r5 r6 r7 r8 r9 V ⟨hBV, by omega, by omega, hbx, hrV⟩
    · skip
      go_simp
      obtain ⟨u10, hu10⟩ : ∃ V, V = u0.alloc (.cells #[.int .i64 0, .string { data := #[] }, .int .i64 0, .slice none 0 0, .slice none 0 0, .int .i64 0, .int .i64 0, .string { data := #[] }, .int .i64 0, .slice none 0 0, .slice none 0 0, .slice none 0 0] 38) := ⟨_, rfl⟩
      have hb : Below u0.heap.size u0 u10 := by rw [hu10]; exact below_alloc _ _
      have hz : u10.heap[u0.heap.size]? = some (.cells #[.int .i64 0, .string { data := #[] }, .int .i64 0, .slice none 0 0, .slice none 0 0, .int .i64 0, .int .i64 0, .string { data := #[] }, .int .i64 0, .slice none 0 0, .slice none 0 0, .slice none 0 0] 38 (0, 0)) := by rw [hu10]; exact heap_alloc_new _ _
      have hs_u10 : u10.heap.size = u0.heap.size + 1 := by rw [hu10]; simp
      rw [← hu10]
      clear hu10
      obtain ⟨z, hzz⟩ : ∃ z, z = u0.heap.size := ⟨_, rfl⟩
      rw [← hzz] at hz ⊢
      have hz1_ : z < u10.heap.size := by omega
      have hz2_ : w2.heap.size ≤ z := by omega
      have hz3_ : u0.heap.size ≤ z := by omega
      clear hzz
      have hB := hB.trans (hb.mono (by omega))
      have hX := hX.later hb
      refine hK.out _ _ (.inr hX) ?_
      clear hK K hb
      refine upto_one (i := 1) (by kernel_rfl) rfl (fun K hK => ?_)
      go_simp
      refine (copyH u10 l la lcap ((HU.out.later (same_below (HB_2.out.trans (hB.mono (by omega))))).mono (fun k (hk : k < w.heap.size) => by show k < u10.heap.size; omega)) hsl).mono ?_
      rintro e u11 ⟨xa, xb, bh, rfl, ho, hn, hpl, hb⟩
      have hs_u11 : u10.heap.size ≤ u11.heap.size := hb.size
      have hB := hB.trans (hb.mono (by omega))
      have hX := hX.later hb
      have hz := (hb.block _ (by omega)).trans hz
      have hh : HitsIn (Pl u11.heap.size u11) u11 xa xb l := ho.reads (fun b hm => ⟨(hn.2 b hm).2, hpl b hm⟩)
      refine hK.out _ _ (.inr hX) ?_
      clear hK K hb
      refine upto_one (i := 3) (by kernel_rfl) rfl (fun K hK => ?_)
      go_simp
      refine (toForm_any w.heap.size f _ u11 (by omega) (InV.later (same_below (HB_2.out.trans (hB.mono (by omega)))) _ _ HV.out) hsf).mono ?_
      rintro e u12 hp
      obtain ⟨ya, yb, yc, yd, rfl, hf, hb⟩ := hp.weak
      have hs_u12 : u11.heap.size ≤ u12.heap.size := hb.size
      have hB := hB.trans (hb.mono (by omega))
      have hX := hX.later hb
      have hh := HO.hitsPl hb hh
      have hz := (hb.block _ (by omega)).trans hz
      refine hK.out _ _ (.inr hX) ?_
      clear hK K hb
      refine upto_one (i := 4) (by kernel_rfl) rfl (fun K hK => ?_)
      go_simp
      refine (specFind l f xa xb _ u12 hh hf hsl R ok HRR.out).mono ?_
      rintro e u13 ⟨r0, r1, r2, r3, r4, r5, r6, r7, r8, r9, rfl, hr0, hb⟩
      have hs_u13 : u12.heap.size ≤ u13.heap.size := hb.size
      have hB := hB.trans (hb.mono (by omega))
      have hX := hX.later hb
      have hh := HO.hitsPl hb hh
      have hf := InV.lift hb hf
      have hz := (hb.block _ (by omega)).trans hz
      have hr : InH (fun k => k < u13.heap.size ∧ k ≠ z) u13 R (.agg #[.int .i64 R.name.kind, .string R.name.name, .int .i64 R.name.n, .slice r0 R.name.scopes.length r1, .slice r2 R.name.kids.length r3, .int .i64 R.depth, .int .i64 R.one.kind, .string R.one.name, .int .i64 R.one.n, .slice r4 R.one.scopes.length r5, .slice r6 R.one.kids.length r7, .slice r8 R.many.length r9]) := InH.mono (fun k hk => ⟨hk.2, by have := hk.1; omega⟩) _ _ hr0
      refine hK.out _ _ (.inr hX) ?_
      clear hK K hb
      refine upto_take (i := 5) (d := some 27) (v := ?_) rfl rfl (by kernel_rfl) (by kernel_rfl) (by kernel_rfl) (by kernel_rfl) (fun _ _ _ h => h) (Or.inl ⟨by rfl, ?_⟩) hX ?_
      rotate_left
      · (intro wS hSw; obtain ⟨_, _, _, _, _⟩ := hSw; go_simp; try with_reducible rfl)
      try simp only [Act.put, List.setIfInBounds_toArray, List.set_cons_zero, List.set_cons_succ]
      refine upto_take (i := 6) (d := some 33) (v := ?_) rfl rfl (by kernel_rfl) (by kernel_rfl) (by kernel_rfl) (by kernel_rfl) (fun _ _ _ h => h) (Or.inl ⟨by rfl, ?_⟩) hX ?_
      rotate_left
      · (intro wS hSw; obtain ⟨_, _, _, _, _⟩ := hSw; go_simp; try with_reducible rfl)
      try simp only [Act.put, List.setIfInBounds_toArray, List.set_cons_zero, List.set_cons_succ]
      refine upto_take (i := 7) (d := some 34) (v := ?_) rfl rfl (by kernel_rfl) (by kernel_rfl) (by kernel_rfl) (by kernel_rfl) (fun _ _ _ h => h) (Or.inl ⟨by rfl, ?_⟩) hX ?_
      rotate_left
      · (intro wS hSw; obtain ⟨_, _, _, _, _⟩ := hSw; go_simp; try with_reducible rfl)
      try simp only [Act.put, List.setIfInBounds_toArray, List.set_cons_zero, List.set_cons_succ]
      have hplr : Plain u13 z := ⟨_, _, hz⟩
      have c0 : u13.cell? ⟨z, 0, none⟩ = some (.int .i64 0) := by rw [cell_of_row u13 _ 0 _ _ _ hz]; rfl
      have c1 : u13.cell? ⟨z, 1, none⟩ = some (.string { data := #[] }) := by rw [cell_of_row u13 _ 1 _ _ _ hz]; rfl
      have c2 : u13.cell? ⟨z, 2, none⟩ = some (.int .i64 0) := by rw [cell_of_row u13 _ 2 _ _ _ hz]; rfl
      have c3 : u13.cell? ⟨z, 3, none⟩ = some (.slice none 0 0) := by rw [cell_of_row u13 _ 3 _ _ _ hz]; rfl
      have c4 : u13.cell? ⟨z, 4, none⟩ = some (.slice none 0 0) := by rw [cell_of_row u13 _ 4 _ _ _ hz]; rfl
      have c5 : u13.cell? ⟨z, 5, none⟩ = some (.int .i64 0) := by rw [cell_of_row u13 _ 5 _ _ _ hz]; rfl
      have c6 : u13.cell? ⟨z, 6, none⟩ = some (.int .i64 0) := by rw [cell_of_row u13 _ 6 _ _ _ hz]; rfl
      have c7 : u13.cell? ⟨z, 7, none⟩ = some (.string { data := #[] }) := by rw [cell_of_row u13 _ 7 _ _ _ hz]; rfl
      have c8 : u13.cell? ⟨z, 8, none⟩ = some (.int .i64 0) := by rw [cell_of_row u13 _ 8 _ _ _ hz]; rfl
      have c9 : u13.cell? ⟨z, 9, none⟩ = some (.slice none 0 0) := by rw [cell_of_row u13 _ 9 _ _ _ hz]; rfl
      have c10 : u13.cell? ⟨z, 10, none⟩ = some (.slice none 0 0) := by rw [cell_of_row u13 _ 10 _ _ _ hz]; rfl
      have c11 : u13.cell? ⟨z, 11, none⟩ = some (.slice none 0 0) := by rw [cell_of_row u13 _ 11 _ _ _ hz]; rfl
      have t_0 := hplr.frozen 0
      have t_1 := hplr.frozen 1
      have t_2 := hplr.frozen 2
      have t_3 := hplr.frozen 3
      have t_4 := hplr.frozen 4
      have t_5 := hplr.frozen 5
      have t_6 := hplr.frozen 6
      have t_7 := hplr.frozen 7
      have t_8 := hplr.frozen 8
      have t_9 := hplr.frozen 9
      have t_10 := hplr.frozen 10
      have t_11 := hplr.frozen 11
      have HR : Hid (∀ i, i < 12 → ∃ v, u13.cell? ⟨z, 0 + i, none⟩ = some v) := fun i hi => by
        rw [Nat.zero_add]
        match i, hi with
        | 0, _ => exact ⟨_, c0⟩
        | 1, _ => exact ⟨_, c1⟩
        | 2, _ => exact ⟨_, c2⟩
        | 3, _ => exact ⟨_, c3⟩
        | 4, _ => exact ⟨_, c4⟩
        | 5, _ => exact ⟨_, c5⟩
        | 6, _ => exact ⟨_, c6⟩
        | 7, _ => exact ⟨_, c7⟩
        | 8, _ => exact ⟨_, c8⟩
        | 9, _ => exact ⟨_, c9⟩
        | 10, _ => exact ⟨_, c10⟩
        | 11, _ => exact ⟨_, c11⟩
      refine upto_one (i := 9) (by kernel_rfl) rfl (fun K hK => ?_)
      go_simp
      obtain ⟨V, hV⟩ : ∃ V, V = ((((((((((((u13.setCell ⟨z, 0, none⟩ (.int .i64 R.name.kind)).setCell ⟨z, 1, none⟩ (.string R.name.name)).setCell ⟨z, 2, none⟩ (.int .i64 R.name.n)).setCell ⟨z, 3, none⟩ (.slice r0 R.name.scopes.length r1)).setCell ⟨z, 4, none⟩ (.slice r2 R.name.kids.length r3)).setCell ⟨z, 5, none⟩ (.int .i64 R.depth)).setCell ⟨z, 6, none⟩ (.int .i64 R.one.kind)).setCell ⟨z, 7, none⟩ (.string R.one.name)).setCell ⟨z, 8, none⟩ (.int .i64 R.one.n)).setCell ⟨z, 9, none⟩ (.slice r4 R.one.scopes.length r5)).setCell ⟨z, 10, none⟩ (.slice r6 R.one.kids.length r7)).setCell ⟨z, 11, none⟩ (.slice r8 R.many.length r9)) := ⟨_, rfl⟩
      have E : V = sets u13 z 0 [.int .i64 R.name.kind, .string R.name.name, .int .i64 R.name.n, .slice r0 R.name.scopes.length r1, .slice r2 R.name.kids.length r3, .int .i64 R.depth, .int .i64 R.one.kind, .string R.one.name, .int .i64 R.one.n, .slice r4 R.one.scopes.length r5, .slice r6 R.one.kids.length r7, .slice r8 R.many.length r9] := by rw [hV]; rfl
      have hin := sets_in z [Value.int .i64 R.name.kind, Value.string R.name.name, Value.int .i64 R.name.n, Value.slice r0 R.name.scopes.length r1, Value.slice r2 R.name.kids.length r3, Value.int .i64 R.depth, Value.int .i64 R.one.kind, Value.string R.one.name, Value.int .i64 R.one.n, Value.slice r4 R.one.scopes.length r5, Value.slice r6 R.one.kids.length r7, Value.slice r8 R.many.length r9] u13 0 HR.out
      rw [← E] at hin
      have hbx : HBox V z ⟨R, r0, r1, r2, r3, r4, r5, r6, r7, r8, r9⟩ := ⟨by have := hin 0 (by simp); simpa using this, by have := hin 1 (by simp); simpa using this, by have := hin 2 (by simp); simpa using this, by have := hin 3 (by simp); simpa using this, by have := hin 4 (by simp); simpa using this, by have := hin 5 (by simp); simpa using this, by have := hin 6 (by simp); simpa using this, by have := hin 7 (by simp); simpa using this, by have := hin 8 (by simp); simpa using this, by have := hin 9 (by simp); simpa using this, by have := hin 10 (by simp); simpa using this, by have := hin 11 (by simp); simpa using this⟩
      have hzV : V.heap.size = u13.heap.size := by rw [E, sets_size]
      have hBV : Below w2.heap.size w2 V := by rw [E]; exact sets_below (by omega) _ _ hB
      have hrV : InH (fun k => k < V.heap.size ∧ k ≠ z) V R (.agg #[.int .i64 R.name.kind, .string R.name.name, .int .i64 R.name.n, .slice r0 R.name.scopes.length r1, .slice r2 R.name.kids.length r3, .int .i64 R.depth, .int .i64 R.one.kind, .string R.one.name, .int .i64 R.one.n, .slice r4 R.one.scopes.length r5, .slice r6 R.one.kids.length r7, .slice r8 R.many.length r9]) := by rw [hzV, E]; exact InH.later (fun k hk => sets_block _ _ _ _ hk.2) _ _ hr
      have hXV : FormBox V w.heap.size f sa scap fa fcap := HX_2.out.later hBV
      rw [← hV]
      clear hV E hin
      refine hK.out _ _ (.inr hXV) ?_
      clear hK K
      refine upto_one (i := 10) (by kernel_rfl) rfl (fun K hK => ?_)
      go_simp
      refine hK.out _ _ (.inr hXV) ?_
      clear hK K
      refine upto_done (by kernel_rfl) ?_ _
      exact HCONT.out z xa xb ya yb yc yd r0 r1 r2 r3 r4 r5 r6 r7 r8 r9 V ⟨hBV, by omega, by omega, hbx, hrV⟩
  case h2 =>
    rintro z xa xb ya yb yc yd r0 r1 r2 r3 r4 r5 r6 r7 r8 r9 w3 ⟨hb, hz1, hz2, hbx, hr⟩
    have hs3 : w2.heap.size ≤ w3.heap.size := hb.size
    have HX_3 := Lib.hid (HX_2.out.later hb)
    have HB_3 := Lib.hid (HB_2.out.trans (hb.mono (by omega)))
    clear HX_2 HB_2
    have HW := Lib.hid (InH.mono (ψ := fun k => k < w3.heap.size) (fun k hk => hk.1) _ _ hr)
    have HWB := Lib.hid hbx
    have hzw : z < w3.heap.size := hz2
    clear hb hbx hr hz1 hz2
    go_wp2_with fail
    refine (copyH w3 l la lcap ((HU.out.later (same_below HB_3.out)).mono (fun k (hk : k < w.heap.size) => by show k < w3.heap.size; omega)) hsl).mono ?_
    rintro e w4 ⟨ma, mc, mb, rfl, ho, hn, hpl, hb⟩
    have hs4 : w3.heap.size ≤ w4.heap.size := hb.size
    have HX_4 := Lib.hid (HX_3.out.later hb)
    have HB_4 := Lib.hid (HB_3.out.trans (hb.mono (by omega)))
    have HW_1 := Lib.hid (InH.later (Same.of_below hb (fun k (hk : k < w3.heap.size) => by omega)) _ _ HW.out)
    have HWB_1 := Lib.hid (HWB.out.later hb)
    clear HX_3 HB_3 HW HWB
    have HZ := Lib.hid ho
    have HZN := Lib.hid hn
    have HZP := Lib.hid hpl
    clear ho hn hpl hb
    obtain ⟨x0, x1, x2, x3, x4⟩ := HX_4.out
    go_wp2_with fail
    refine (toForm_any w.heap.size f _ w4 (by omega) (InV.later (same_below HB_4.out) _ _ HV.out) hsf).mono ?_
    rintro e w5 hp
    obtain ⟨ya1, yb1, yc1, yd1, bz, rfl, ho, hn, hpl, hb⟩ := hp
    have hs5 : w4.heap.size ≤ w5.heap.size := hb.size
    clear x0 x1 x2 x3 x4
    have HX_5 := Lib.hid (HX_4.out.later hb)
    have HB_5 := Lib.hid (HB_4.out.trans (hb.mono (by omega)))
    have HW_2 := Lib.hid (InH.later (Same.of_below hb (fun k (hk : k < w3.heap.size) => by omega)) _ _ HW_1.out)
    have HWB_2 := Lib.hid (HWB_1.out.later hb)
    have HZ_1 := Lib.hid (HitsOwn.later (SameOn.of_below hb (fun c hm => by have h := HZN.out.2 c hm; omega)) HZ.out)
    clear HX_4 HB_4 HW_1 HWB_1 HZ
    have HQ := Lib.hid ho
    have HQN := Lib.hid hn
    clear ho hn hpl
    have HZP5 := Lib.hid (HZP.out.later hb)
    clear hb HZP
    obtain ⟨v5, hv5⟩ : ∃ v5, v5 = w5.alloc (.cells #[.int .i64 f.kind, .string f.name, .int .i64 f.n, .slice ya1 f.scopes.length yb1, .slice yc1 f.kids.length yd1] 36) := ⟨_, rfl⟩
    have hb : Below w5.heap.size w5 v5 := by rw [hv5]; exact below_alloc w5 _
    have hsv5 : v5.heap.size = w5.heap.size + 1 := by rw [hv5]; simp
    have HX_6 := Lib.hid (HX_5.out.later hb)
    have HB_6 := Lib.hid (HB_5.out.trans (hb.mono (by omega)))
    have HW_3 := Lib.hid (InH.later (Same.of_below hb (fun k (hk : k < w3.heap.size) => by omega)) _ _ HW_2.out)
    have HWB_3 := Lib.hid (HWB_2.out.later hb)
    have HZ_2 := Lib.hid (HitsOwn.later (SameOn.of_below hb (fun c hm => by have h := HZN.out.2 c hm; omega)) HZ_1.out)
    have HQ_1 := Lib.hid (OwnV.later _ _ _ (SameOn.of_below hb (fun c hm => by have h := HQN.out.2 c hm; omega)) HQ.out)
    clear HX_5 HB_5 HW_2 HWB_2 HZ_1 HQ
    have HY : Hid (FormBox v5 w5.heap.size f ya1 yb1 yc1 yd1) := by unfold Hid; rw [hv5]; exact FormBox.fresh w5 f ya1 yc1 yb1 yd1 _
    have HZP6 := Lib.hid (HZP5.out.later hb)
    have HV5 := Lib.hid hv5
    clear hv5 hb HZP5
    go_wp2_with fail
    rw [← HV5.out]
    clear HV5
    obtain ⟨y0, y1, y2, y3, y4⟩ := HY.out
    go_wp2_with fail
    have hHI := HO.implFindHit_any l f ma mc _ v5 (HitsOwn.reads (φ := Pl v5.heap.size v5) HZ_2.out (fun b hm => ⟨by have := (HZN.out.2 b hm).2; omega, HZP6.out b hm⟩)) (OwnV.inV (φ := (· < v5.heap.size)) f (.agg #[.int .i64 f.kind, .string f.name, .int .i64 f.n, .slice ya1 f.scopes.length yb1, .slice yc1 f.kids.length yd1]) bz (fun c hm => by have := (HQN.out.2 c hm).2; omega) HQ_1.out) hsl
    rw [HRR.out] at hHI
    refine hHI.mono ?_
    clear hHI
    rintro e w6 ⟨g0, g1, g2, g3, g4, g5, g6, g7, g8, g9, bg, rfl, hq, hn, hb⟩
    have hs6 : v5.heap.size ≤ w6.heap.size := hb.size
    clear y0 y1 y2 y3 y4
    have HX_7 := Lib.hid (HX_6.out.later hb)
    have HB_7 := Lib.hid (HB_6.out.trans (hb.mono (by omega)))
    have HW_4 := Lib.hid (InH.later (Same.of_below hb (fun k (hk : k < w3.heap.size) => by omega)) _ _ HW_3.out)
    have HWB_4 := Lib.hid (HWB_3.out.later hb)
    have HZ_3 := Lib.hid (HitsOwn.later (SameOn.of_below hb (fun c hm => by have h := HZN.out.2 c hm; omega)) HZ_2.out)
    have HQ_2 := Lib.hid (OwnV.later _ _ _ (SameOn.of_below hb (fun c hm => by have h := HQN.out.2 c hm; omega)) HQ_1.out)
    have HY_1 := Lib.hid (HY.out.later hb)
    clear HX_6 HB_6 HW_3 HWB_3 HZ_2 HQ_1 HY
    have HG : Hid (OwnH w6 R (.agg #[.int .i64 R.name.kind, .string R.name.name, .int .i64 R.name.n, .slice g0 R.name.scopes.length g1, .slice g2 R.name.kids.length g3, .int .i64 R.depth, .int .i64 R.one.kind, .string R.one.name, .int .i64 R.one.n, .slice g4 R.one.scopes.length g5, .slice g6 R.one.kids.length g7, .slice g8 R.many.length g9]) bg) := hq.1
    have HGN := Lib.hid hn
    clear hq hn hb HZP6
    obtain ⟨b0, b1, b2, b3, b4, b5, b6, b7, b8, b9, b10, b11⟩ := HWB_4.out
    have hbA := below_alloc w6 (.cells #[.int .i64 R.name.kind, .string R.name.name, .int .i64 R.name.n, .slice g0 R.name.scopes.length g1, .slice g2 R.name.kids.length g3, .int .i64 R.depth, .int .i64 R.one.kind, .string R.one.name, .int .i64 R.one.n, .slice g4 R.one.scopes.length g5, .slice g6 R.one.kids.length g7, .slice g8 R.many.length g9] 38)
    have b0 := cell_later' hbA b0
    have b1 := cell_later' hbA b1
    have b2 := cell_later' hbA b2
    have b3 := cell_later' hbA b3
    have b4 := cell_later' hbA b4
    have b5 := cell_later' hbA b5
    have b6 := cell_later' hbA b6
    have b7 := cell_later' hbA b7
    have b8 := cell_later' hbA b8
    have b9 := cell_later' hbA b9
    have b10 := cell_later' hbA b10
    have b11 := cell_later' hbA b11
    clear hbA
    go_wp2_with fail
    obtain ⟨v6, hv6⟩ : ∃ v6, v6 = w6.alloc (.cells #[.int .i64 R.name.kind, .string R.name.name, .int .i64 R.name.n, .slice g0 R.name.scopes.length g1, .slice g2 R.name.kids.length g3, .int .i64 R.depth, .int .i64 R.one.kind, .string R.one.name, .int .i64 R.one.n, .slice g4 R.one.scopes.length g5, .slice g6 R.one.kids.length g7, .slice g8 R.many.length g9] 38) := ⟨_, rfl⟩
    rw [← hv6]
    have hb : Below w6.heap.size w6 v6 := by rw [hv6]; exact below_alloc w6 _
    have hsv6 : v6.heap.size = w6.heap.size + 1 := by rw [hv6]; simp
    have HX_8 := Lib.hid (HX_7.out.later hb)
    have HB_8 := Lib.hid (HB_7.out.trans (hb.mono (by omega)))
    have HW_5 := Lib.hid (InH.later (Same.of_below hb (fun k (hk : k < w3.heap.size) => by omega)) _ _ HW_4.out)
    have HWB_5 := Lib.hid (HWB_4.out.later hb)
    have HZ_4 := Lib.hid (HitsOwn.later (SameOn.of_below hb (fun c hm => by have h := HZN.out.2 c hm; omega)) HZ_3.out)
    have HQ_3 := Lib.hid (OwnV.later _ _ _ (SameOn.of_below hb (fun c hm => by have h := HQN.out.2 c hm; omega)) HQ_2.out)
    have HY_2 := Lib.hid (HY_1.out.later hb)
    have HG_1 := Lib.hid (OwnH.later _ _ _ (SameOn.of_below hb (fun c hm => by have h := HGN.out.2 c hm; omega)) HG.out)
    clear HX_7 HB_7 HW_4 HWB_4 HZ_3 HQ_2 HY_1 HG
    have HGB : Hid (HBox v6 w6.heap.size ⟨R, g0, g1, g2, g3, g4, g5, g6, g7, g8, g9⟩) := by unfold Hid; rw [hv6]; exact HBox.fresh w6 ⟨R, g0, g1, g2, g3, g4, g5, g6, g7, g8, g9⟩ _
    clear hv6 hb
    clear b0 b1 b2 b3 b4 b5 b6 b7 b8 b9 b10 b11
    refine (eqHit_any w6.heap.size R _ _ v6 (by omega) (OwnH.inH (φ := (· < w6.heap.size)) R (.agg #[.int .i64 R.name.kind, .string R.name.name, .int .i64 R.name.n, .slice g0 R.name.scopes.length g1, .slice g2 R.name.kids.length g3, .int .i64 R.depth, .int .i64 R.one.kind, .string R.one.name, .int .i64 R.one.n, .slice g4 R.one.scopes.length g5, .slice g6 R.one.kids.length g7, .slice g8 R.many.length g9]) bg (fun c hm => (HGN.out.2 c hm).2) HG_1.out) (InH.mono (fun k (hk : k < w3.heap.size) => by show k < w6.heap.size; omega) _ _ HW_5.out)).mono ?_
    rintro e w7 ⟨rfl, hb⟩
    have hs7 : v6.heap.size ≤ w7.heap.size := hb.size
    have HX_9 := Lib.hid (HX_8.out.later hb)
    have HB_9 := Lib.hid (HB_8.out.trans (hb.mono (by omega)))
    have HW_6 := Lib.hid (InH.later (Same.of_below hb (fun k (hk : k < w3.heap.size) => by omega)) _ _ HW_5.out)
    have HWB_6 := Lib.hid (HWB_5.out.later hb)
    have HZ_5 := Lib.hid (HitsOwn.later (SameOn.of_below hb (fun c hm => by have h := HZN.out.2 c hm; omega)) HZ_4.out)
    have HQ_4 := Lib.hid (OwnV.later _ _ _ (SameOn.of_below hb (fun c hm => by have h := HQN.out.2 c hm; omega)) HQ_3.out)
    have HY_3 := Lib.hid (HY_2.out.later hb)
    have HG_2 := Lib.hid (OwnH.later _ _ _ (SameOn.of_below hb (fun c hm => by have h := HGN.out.2 c hm; omega)) HG_1.out)
    have HGB_1 := Lib.hid (HGB.out.later hb)
    clear HX_8 HB_8 HW_5 HWB_5 HZ_4 HQ_3 HY_2 HG_1 HGB
    clear hb
    go_wp2_with fail
    refine (copyH w7 l la lcap ((HU.out.later (same_below HB_9.out)).mono (fun k (hk : k < w.heap.size) => by show k < w7.heap.size; omega)) hsl).mono ?_
    rintro e w8 ⟨na, nc, nb, rfl, ho, hn, hpl, hb⟩
    have hs8 : w7.heap.size ≤ w8.heap.size := hb.size
    have HX_10 := Lib.hid (HX_9.out.later hb)
    have HB_10 := Lib.hid (HB_9.out.trans (hb.mono (by omega)))
    have HW_7 := Lib.hid (InH.later (Same.of_below hb (fun k (hk : k < w3.heap.size) => by omega)) _ _ HW_6.out)
    have HWB_7 := Lib.hid (HWB_6.out.later hb)
    have HZ_6 := Lib.hid (HitsOwn.later (SameOn.of_below hb (fun c hm => by have h := HZN.out.2 c hm; omega)) HZ_5.out)
    have HQ_5 := Lib.hid (OwnV.later _ _ _ (SameOn.of_below hb (fun c hm => by have h := HQN.out.2 c hm; omega)) HQ_4.out)
    have HY_4 := Lib.hid (HY_3.out.later hb)
    have HG_3 := Lib.hid (OwnH.later _ _ _ (SameOn.of_below hb (fun c hm => by have h := HGN.out.2 c hm; omega)) HG_2.out)
    have HGB_2 := Lib.hid (HGB_1.out.later hb)
    clear HX_9 HB_9 HW_6 HWB_6 HZ_5 HQ_4 HY_3 HG_2 HGB_1
    have HT := Lib.hid (HitsOwn.reads (φ := (· < w8.heap.size)) ho (fun b hm => (hn.2 b hm).2))
    clear ho hn hpl hb
    go_wp2_with fail
    refine (eqHitS_row w8.heap.size l ma na mc nc w8 (Nat.le_refl _) (HitsOwn.reads HZ_6.out (fun b hm => by have := (HZN.out.2 b hm).2; show b < w8.heap.size; omega)) HT.out).mono ?_
    rintro e w9 ⟨rfl, hb⟩
    have hs9 : w8.heap.size ≤ w9.heap.size := hb.size
    have HX_11 := Lib.hid (HX_10.out.later hb)
    have HB_11 := Lib.hid (HB_10.out.trans (hb.mono (by omega)))
    have HW_8 := Lib.hid (InH.later (Same.of_below hb (fun k (hk : k < w3.heap.size) => by omega)) _ _ HW_7.out)
    have HWB_8 := Lib.hid (HWB_7.out.later hb)
    have HZ_7 := Lib.hid (HitsOwn.later (SameOn.of_below hb (fun c hm => by have h := HZN.out.2 c hm; omega)) HZ_6.out)
    have HQ_6 := Lib.hid (OwnV.later _ _ _ (SameOn.of_below hb (fun c hm => by have h := HQN.out.2 c hm; omega)) HQ_5.out)
    have HY_5 := Lib.hid (HY_4.out.later hb)
    have HG_4 := Lib.hid (OwnH.later _ _ _ (SameOn.of_below hb (fun c hm => by have h := HGN.out.2 c hm; omega)) HG_3.out)
    have HGB_3 := Lib.hid (HGB_2.out.later hb)
    clear HX_10 HB_10 HW_7 HWB_7 HZ_6 HQ_5 HY_4 HG_3 HGB_2
    clear hb HT
    go_wp2_with fail
    refine upto_begin (TwoBox w5.heap.size w.heap.size f f ya1 yc1 sa fa yb1 yd1 scap fcap) 5 (by kernel_rfl) ?_
    obtain ⟨u9, hu9⟩ : ∃ u9, u9 = w9.drew := ⟨_, rfl⟩
    rw [← hu9]
    have hb : Below w9.heap.size w9 u9 := by rw [hu9]; exact (Below.refl _ _).drew
    have hsu9 : w9.heap.size ≤ u9.heap.size := hb.size
    have HX_12 := Lib.hid (HX_11.out.later hb)
    have HB_12 := Lib.hid (HB_11.out.trans (hb.mono (by omega)))
    have HW_9 := Lib.hid (InH.later (Same.of_below hb (fun k (hk : k < w3.heap.size) => by omega)) _ _ HW_8.out)
    have HWB_9 := Lib.hid (HWB_8.out.later hb)
    have HZ_8 := Lib.hid (HitsOwn.later (SameOn.of_below hb (fun c hm => by have h := HZN.out.2 c hm; omega)) HZ_7.out)
    have HQ_7 := Lib.hid (OwnV.later _ _ _ (SameOn.of_below hb (fun c hm => by have h := HQN.out.2 c hm; omega)) HQ_6.out)
    have HY_6 := Lib.hid (HY_5.out.later hb)
    have HG_5 := Lib.hid (OwnH.later _ _ _ (SameOn.of_below hb (fun c hm => by have h := HGN.out.2 c hm; omega)) HG_4.out)
    have HGB_4 := Lib.hid (HGB_3.out.later hb)
    clear HX_11 HB_11 HW_8 HWB_8 HZ_7 HQ_6 HY_5 HG_4 HGB_3
    clear hb hu9
    have hS : (TwoBox w5.heap.size w.heap.size f f ya1 yc1 sa fa yb1 yd1 scap fcap) u9 := ⟨HY_6.out, HX_12.out⟩
    refine upto_take (i := 0) (d := some 59) (v := ?_) rfl rfl (by kernel_rfl) (by kernel_rfl) (by kernel_rfl) (by kernel_rfl) (fun _ _ _ h => h) (Or.inl ⟨by rfl, ?_⟩) hS ?_
    rotate_left
    · (intro wS hSw; obtain ⟨⟨_, _, _, _, _⟩, ⟨_, _, _, _, _⟩⟩ := hSw; go_simp; try with_reducible rfl)
    try simp only [Act.put, List.setIfInBounds_toArray, List.set_cons_zero, List.set_cons_succ]
    refine upto_take (i := 1) (d := some 60) (v := ?_) rfl rfl (by kernel_rfl) (by kernel_rfl) (by kernel_rfl) (by kernel_rfl) (fun _ _ _ h => h) (Or.inl ⟨by rfl, ?_⟩) hS ?_
    rotate_left
    · (intro wS hSw; obtain ⟨⟨_, _, _, _, _⟩, ⟨_, _, _, _, _⟩⟩ := hSw; go_simp; try with_reducible rfl)
    try simp only [Act.put, List.setIfInBounds_toArray, List.set_cons_zero, List.set_cons_succ]
    clear hS
    refine upto_one (i := 2) (by kernel_rfl) rfl (fun K hK => ?_)
    go_simp
    refine (toForm_any w.heap.size f _ u9 (by omega) (InV.later (same_below HB_12.out) _ _ HV.out) hsf).mono ?_
    rintro e w10 hp
    obtain ⟨ta, tb, tc, td, rfl, hq, hb⟩ := hp.weak
    have hs10 : u9.heap.size ≤ w10.heap.size := hb.size
    have HX_13 := Lib.hid (HX_12.out.later hb)
    have HB_13 := Lib.hid (HB_12.out.trans (hb.mono (by omega)))
    have HW_10 := Lib.hid (InH.later (Same.of_below hb (fun k (hk : k < w3.heap.size) => by omega)) _ _ HW_9.out)
    have HWB_10 := Lib.hid (HWB_9.out.later hb)
    have HZ_9 := Lib.hid (HitsOwn.later (SameOn.of_below hb (fun c hm => by have h := HZN.out.2 c hm; omega)) HZ_8.out)
    have HQ_8 := Lib.hid (OwnV.later _ _ _ (SameOn.of_below hb (fun c hm => by have h := HQN.out.2 c hm; omega)) HQ_7.out)
    have HY_7 := Lib.hid (HY_6.out.later hb)
    have HG_6 := Lib.hid (OwnH.later _ _ _ (SameOn.of_below hb (fun c hm => by have h := HGN.out.2 c hm; omega)) HG_5.out)
    have HGB_5 := Lib.hid (HGB_4.out.later hb)
    clear HX_12 HB_12 HW_9 HWB_9 HZ_8 HQ_7 HY_6 HG_5 HGB_4
    have HT := Lib.hid hq
    clear hq hb hp
    refine hK.out _ _ (.inr ⟨HY_7.out, HX_13.out⟩) ?_
    clear hK K
    refine upto_one (i := 3) (by kernel_rfl) rfl (fun K hK => ?_)
    go_simp
    refine (eqForm_any w10.heap.size f f _ _ _ (Nat.le_refl _) (OwnV.inV (φ := (· < w10.heap.size)) f _ bz (fun c hm => by have := (HQN.out.2 c hm).2; omega) HQ_8.out) HT.out).mono ?_
    rintro e w11 ⟨rfl, hb⟩
    rw [sameB_refl]
    have hs11 : w10.heap.size ≤ w11.heap.size := hb.size
    have HX_14 := Lib.hid (HX_13.out.later hb)
    have HB_14 := Lib.hid (HB_13.out.trans (hb.mono (by omega)))
    have HW_11 := Lib.hid (InH.later (Same.of_below hb (fun k (hk : k < w3.heap.size) => by omega)) _ _ HW_10.out)
    have HWB_11 := Lib.hid (HWB_10.out.later hb)
    have HZ_10 := Lib.hid (HitsOwn.later (SameOn.of_below hb (fun c hm => by have h := HZN.out.2 c hm; omega)) HZ_9.out)
    have HQ_9 := Lib.hid (OwnV.later _ _ _ (SameOn.of_below hb (fun c hm => by have h := HQN.out.2 c hm; omega)) HQ_8.out)
    have HY_8 := Lib.hid (HY_7.out.later hb)
    have HG_7 := Lib.hid (OwnH.later _ _ _ (SameOn.of_below hb (fun c hm => by have h := HGN.out.2 c hm; omega)) HG_6.out)
    have HGB_6 := Lib.hid (HGB_5.out.later hb)
    clear HX_13 HB_13 HW_10 HWB_10 HZ_9 HQ_8 HY_7 HG_6 HGB_5
    clear hb HT
    refine hK.out _ _ (.inr ⟨HY_8.out, HX_14.out⟩) ?_
    clear hK K
    refine upto_one (i := 4) (by kernel_rfl) rfl (fun K hK => ?_)
    go_simp
    refine hK.out _ _ (.inr ⟨HY_8.out, HX_14.out⟩) ?_
    clear hK K
    refine upto_done (by kernel_rfl) ?_ _
    go_wp2_with fail
    refine (markHitS_any l ma mc mb 1 w11 HZ_10.out HZN.out.1 (fun c hm => by have := (HZN.out.2 c hm).2; omega) (by omega) (by have := HMK.out; omega)).mono ?_
    rintro e w12 ⟨rfl, hmz, ho⟩
    have hs12 := ho.size
    clear hmz
    have HX_15 := Lib.hid (HX_14.out.only ho (fun hm => by have h := HZN.out.2 _ hm; omega))
    have HB_15 := Lib.hid (HB_14.out.trans (ho.below (fun c hm => by have h := HZN.out.2 c hm; omega) (by omega)))
    have HW_12 := Lib.hid (InH.later (ho.same (fun k (hk : k < w3.heap.size) => ⟨by omega, fun hm => by have h := HZN.out.2 _ hm; omega⟩)) _ _ HW_11.out)
    have HWB_12 := Lib.hid (HWB_11.out.only ho (fun hm => by have h := HZN.out.2 _ hm; omega))
    have HQ_10 := Lib.hid (OwnV.later _ _ _ (ho.sameOn (fun c hc => ⟨by have h := HQN.out.2 c hc; omega, fun hm => by have h1 := HZN.out.2 _ hm; have h2 := HQN.out.2 c hc; omega⟩)) HQ_9.out)
    have HY_9 := Lib.hid (HY_8.out.only ho (fun hm => by have h := HZN.out.2 _ hm; omega))
    have HG_8 := Lib.hid (OwnH.later _ _ _ (ho.sameOn (fun c hc => ⟨by have h := HGN.out.2 c hc; omega, fun hm => by have h1 := HZN.out.2 _ hm; have h2 := HGN.out.2 c hc; omega⟩)) HG_7.out)
    have HGB_7 := Lib.hid (HGB_6.out.only ho (fun hm => by have h := HZN.out.2 _ hm; omega))
    clear HX_14 HB_14 HW_11 HWB_11 HQ_9 HY_8 HG_7 HGB_6
    clear ho
    have hk0 : 1 ≤ (1 : Int) + marksHs l := by omega
    obtain ⟨y0, y1, y2, y3, y4⟩ := HY_9.out
    go_wp2_with fail
    refine (markForm_any f _ bz _ w12 HQ_10.out HQN.out.1 (fun c hm => by have := (HQN.out.2 c hm).2; omega) hk0 (by have := HMK.out; have := HM1.out; omega)).mono ?_
    rintro e w13 ⟨rfl, hmz, ho⟩
    have hs13 := ho.size
    clear hmz
    clear y0 y1 y2 y3 y4
    have HX_16 := Lib.hid (HX_15.out.only ho (fun hm => by have h := HQN.out.2 _ hm; omega))
    have HB_16 := Lib.hid (HB_15.out.trans (ho.below (fun c hm => by have h := HQN.out.2 c hm; omega) (by omega)))
    have HW_13 := Lib.hid (InH.later (ho.same (fun k (hk : k < w3.heap.size) => ⟨by omega, fun hm => by have h := HQN.out.2 _ hm; omega⟩)) _ _ HW_12.out)
    have HWB_13 := Lib.hid (HWB_12.out.only ho (fun hm => by have h := HQN.out.2 _ hm; omega))
    have HG_9 := Lib.hid (OwnH.later _ _ _ (ho.sameOn (fun c hc => ⟨by have h := HGN.out.2 c hc; omega, fun hm => by have h1 := HQN.out.2 _ hm; have h2 := HGN.out.2 c hc; omega⟩)) HG_8.out)
    have HGB_8 := Lib.hid (HGB_7.out.only ho (fun hm => by have h := HQN.out.2 _ hm; omega))
    clear HX_15 HB_15 HW_12 HWB_12 HG_8 HGB_7
    clear ho
    have hk1 : ¬ ((1 : Int) + marksHs l + f.marks < 0) := by omega
    obtain ⟨a0, a1, a2, a3, a4, a5, a6, a7, a8, a9, a10, a11⟩ := HGB_8.out
    obtain ⟨b0, b1, b2, b3, b4, b5, b6, b7, b8, b9, b10, b11⟩ := HWB_13.out
    go_wp2_with fail
    refine (eqHit_any w6.heap.size R _ _ w13 (by omega) (OwnH.inH (φ := (· < w6.heap.size)) R (.agg #[.int .i64 R.name.kind, .string R.name.name, .int .i64 R.name.n, .slice g0 R.name.scopes.length g1, .slice g2 R.name.kids.length g3, .int .i64 R.depth, .int .i64 R.one.kind, .string R.one.name, .int .i64 R.one.n, .slice g4 R.one.scopes.length g5, .slice g6 R.one.kids.length g7, .slice g8 R.many.length g9]) bg (fun c hm => (HGN.out.2 c hm).2) HG_9.out) (InH.mono (fun k (hk : k < w3.heap.size) => by show k < w6.heap.size; omega) _ _ HW_13.out)).mono ?_
    rintro e w14 ⟨rfl, hb⟩
    have hs14 : w13.heap.size ≤ w14.heap.size := hb.size
    clear a0 a1 a2 a3 a4 a5 a6 a7 a8 a9 a10 a11
    clear b0 b1 b2 b3 b4 b5 b6 b7 b8 b9 b10 b11
    have HX_17 := Lib.hid (HX_16.out.later hb)
    have HB_17 := Lib.hid (HB_16.out.trans (hb.mono (by omega)))
    have HW_14 := Lib.hid (InH.later (Same.of_below hb (fun k (hk : k < w3.heap.size) => by omega)) _ _ HW_13.out)
    have HWB_14 := Lib.hid (HWB_13.out.later hb)
    have HG_10 := Lib.hid (OwnH.later _ _ _ (SameOn.of_below hb (fun c hm => by have h := HGN.out.2 c hm; omega)) HG_9.out)
    have HGB_9 := Lib.hid (HGB_8.out.later hb)
    clear HX_16 HB_16 HW_13 HWB_13 HG_9 HGB_8
    clear hb
    obtain ⟨a0, a1, a2, a3, a4, a5, a6, a7, a8, a9, a10, a11⟩ := HGB_9.out
    go_wp2_with fail
    refine (markHit_any R _ bg 1 w14 HG_10.out HGN.out.1 (fun c hm => by have := (HGN.out.2 c hm).2; omega) (by omega) (by have := HRM.out; omega)).mono ?_
    rintro e w15 ⟨rfl, hmg, ho⟩
    have hs15 := ho.size
    clear a0 a1 a2 a3 a4 a5 a6 a7 a8 a9 a10 a11
    have HX_18 := Lib.hid (HX_17.out.only ho (fun hm => by have h := HGN.out.2 _ hm; omega))
    have HB_18 := Lib.hid (HB_17.out.trans (ho.below (fun c hm => by have h := HGN.out.2 c hm; omega) (by omega)))
    have HW_15 := Lib.hid (InH.later (ho.same (fun k (hk : k < w3.heap.size) => ⟨by omega, fun hm => by have h := HGN.out.2 _ hm; omega⟩)) _ _ HW_14.out)
    have HWB_15 := Lib.hid (HWB_14.out.only ho (fun hm => by have h := HGN.out.2 _ hm; omega))
    have HGB_10 := Lib.hid (HGB_9.out.only ho (fun hm => by have h := HGN.out.2 _ hm; omega))
    clear HX_17 HB_17 HW_14 HWB_14 HGB_9
    have HG2 := Lib.hid hmg
    clear hmg ho
    obtain ⟨a0, a1, a2, a3, a4, a5, a6, a7, a8, a9, a10, a11⟩ := HGB_10.out
    go_wp2_with fail
    refine (heldHit_any w6.heap.size R _ 1 w15 (by omega) (OwnH.inH (φ := (· < w6.heap.size)) _ _ bg (fun c hm => (HGN.out.2 c hm).2) HG2.out) (by omega) (by have := HRM.out; omega)).mono ?_
    rintro e w16 ⟨rfl, hb⟩
    have hs16 : w15.heap.size ≤ w16.heap.size := hb.size
    clear a0 a1 a2 a3 a4 a5 a6 a7 a8 a9 a10 a11
    have HX_19 := Lib.hid (HX_18.out.later hb)
    have HB_19 := Lib.hid (HB_18.out.trans (hb.mono (by omega)))
    have HW_16 := Lib.hid (InH.later (Same.of_below hb (fun k (hk : k < w3.heap.size) => by omega)) _ _ HW_15.out)
    have HWB_16 := Lib.hid (HWB_15.out.later hb)
    have HGB_11 := Lib.hid (HGB_10.out.later hb)
    have HG2_1 := Lib.hid (OwnH.later _ _ _ (SameOn.of_below hb (fun c hm => by have h := HGN.out.2 c hm; omega)) HG2.out)
    clear HX_18 HB_18 HW_15 HWB_15 HGB_10 HG2
    clear hb
    have hq0 : ¬ ((1 : Int) + R.marks < 0) := by omega
    have hqq : (((1 : Int) + R.marks) != (1 + R.marks)) = false := by simp
    have HZZ := Lib.hid (And.intro hzw hzw)
    clear hzw
    go_wp2_with fail
    apply cut_find (F := fun z xa xb ya yb yc yd r0 r1 r2 r3 r4 r5 r6 r7 r8 r9 W => Below w16.heap.size w16 W ∧ w16.heap.size ≤ z ∧ z < W.heap.size ∧ HBox W z ⟨R, r0, r1, r2, r3, r4, r5, r6, r7, r8, r9⟩ ∧ InH (fun k => k < W.heap.size ∧ k ≠ z) W R (.agg #[.int .i64 R.name.kind, .string R.name.name, .int .i64 R.name.n, .slice r0 R.name.scopes.length r1, .slice r2 R.name.kids.length r3, .int .i64 R.depth, .int .i64 R.one.kind, .string R.one.name, .int .i64 R.one.n, .slice r4 R.one.scopes.length r5, .slice r6 R.one.kids.length r7, .slice r8 R.many.length r9]))
    case h1 =>
      intro HCONT0
      have HCONT := Lib.hid HCONT0
      clear HCONT0
      refine upto_begin (fun W => FormBox W w.heap.size f sa scap fa fcap) 11 (by kernel_rfl) ?_
      refine gen_any (fun u0 hu0 => ?_)
      have hB : Below w16.heap.size w16 u0 := by rw [hu0]; exact (Below.refl _ _).drew
      have hsu0 : w16.heap.size ≤ u0.heap.size := hB.size
      have hX : FormBox u0 w.heap.size f sa scap fa fcap := HX_19.out.later hB
      clear hu0
      refine upto_take (i := 0) (d := some 95) (v := ?_) rfl rfl (by kernel_rfl) (by kernel_rfl) (by kernel_rfl) (by kernel_rfl) (fun _ _ _ h => h) (Or.inl ⟨by rfl, ?_⟩) hX ?_
      rotate_left
      · (intro wS hSw; obtain ⟨_, _, _, _, _⟩ := hSw; go_simp; try with_reducible rfl)
      try simp only [Act.put, List.setIfInBounds_toArray, List.set_cons_zero, List.set_cons_succ]
      refine upto_take (i := 2) (d := some 97) (v := ?_) rfl rfl (by kernel_rfl) (by kernel_rfl) (by kernel_rfl) (by kernel_rfl) (fun _ _ _ h => h) (Or.inl ⟨by rfl, ?_⟩) hX ?_
      rotate_left
      · (intro wS hSw; obtain ⟨_, _, _, _, _⟩ := hSw; go_simp; try with_reducible rfl)
      try simp only [Act.put, List.setIfInBounds_toArray, List.set_cons_zero, List.set_cons_succ]
      refine upto_two (i := 1) (j := 8) (by kernel_rfl) rfl rfl (fun K hK => ?_) (fun K hK => ?_)
      · skip
        go_simp
        refine (copyH u0 l la lcap ((HU.out.later (same_below (HB_19.out.trans (hB.mono (by omega))))).mono (fun k (hk : k < w.heap.size) => by show k < u0.heap.size; omega)) hsl).mono ?_
        rintro e u14 ⟨xa, xb, bh, rfl, ho, hn, hpl, hb⟩
        have hs_u14 : u0.heap.size ≤ u14.heap.size := hb.size
        have hB := hB.trans (hb.mono (by omega))
        have hX := hX.later hb
        have hh : HitsIn (Pl u14.heap.size u14) u14 xa xb l := ho.reads (fun b hm => ⟨(hn.2 b hm).2, hpl b hm⟩)
        refine hK.out _ _ (.inr hX) ?_
        clear hK K hb
        refine upto_two (i := 3) (j := 8) (by kernel_rfl) rfl rfl (fun K hK => ?_) (fun K hK => ?_)
        · skip
          go_simp
          refine (toForm_any w.heap.size f _ u14 (by omega) (InV.later (same_below (HB_19.out.trans (hB.mono (by omega)))) _ _ HV.out) hsf).mono ?_
          rintro e u15 hp
          obtain ⟨ya, yb, yc, yd, rfl, hf, hb⟩ := hp.weak
          have hs_u15 : u14.heap.size ≤ u15.heap.size := hb.size
          have hB := hB.trans (hb.mono (by omega))
          have hX := hX.later hb
          have hh := HO.hitsPl hb hh
          refine hK.out _ _ (.inr hX) ?_
          clear hK K hb
          refine upto_two (i := 4) (j := 8) (by kernel_rfl) rfl rfl (fun K hK => ?_) (fun K hK => ?_)
          · skip
            go_simp
            refine (implFind l f xa xb _ u15 hh hf hsl R ok HRR.out).mono ?_
            rintro e u16 ⟨r0, r1, r2, r3, r4, r5, r6, r7, r8, r9, rfl, hr0, hb⟩
            have hs_u16 : u15.heap.size ≤ u16.heap.size := hb.size
            have hB := hB.trans (hb.mono (by omega))
            have hX := hX.later hb
            have hh := HO.hitsPl hb hh
            have hf := InV.lift hb hf
            have hr : InH (fun k => k < u16.heap.size) u16 R (.agg #[.int .i64 R.name.kind, .string R.name.name, .int .i64 R.name.n, .slice r0 R.name.scopes.length r1, .slice r2 R.name.kids.length r3, .int .i64 R.depth, .int .i64 R.one.kind, .string R.one.name, .int .i64 R.one.n, .slice r4 R.one.scopes.length r5, .slice r6 R.one.kids.length r7, .slice r8 R.many.length r9]) := InH.mono (fun k hk => hk.2) _ _ hr0
            refine hK.out _ _ (.inr hX) ?_
            clear hK K hb
            refine upto_take (i := 5) (d := some 94) (v := ?_) rfl rfl (by kernel_rfl) (by kernel_rfl) (by kernel_rfl) (by kernel_rfl) (fun _ _ _ h => h) (Or.inl ⟨by rfl, ?_⟩) hX ?_
            rotate_left
            · (intro wS hSw; obtain ⟨_, _, _, _, _⟩ := hSw; go_simp; try with_reducible rfl)
            try simp only [Act.put, List.setIfInBounds_toArray, List.set_cons_zero, List.set_cons_succ]
            refine upto_take (i := 6) (d := some 100) (v := ?_) rfl rfl (by kernel_rfl) (by kernel_rfl) (by kernel_rfl) (by kernel_rfl) (fun _ _ _ h => h) (Or.inl ⟨by rfl, ?_⟩) hX ?_
            rotate_left
            · (intro wS hSw; obtain ⟨_, _, _, _, _⟩ := hSw; go_simp; try with_reducible rfl)
            try simp only [Act.put, List.setIfInBounds_toArray, List.set_cons_zero, List.set_cons_succ]
            refine upto_take (i := 7) (d := some 101) (v := ?_) rfl rfl (by kernel_rfl) (by kernel_rfl) (by kernel_rfl) (by kernel_rfl) (fun _ _ _ h => h) (Or.inl ⟨by rfl, ?_⟩) hX ?_
            rotate_left
            · (intro wS hSw; obtain ⟨_, _, _, _, _⟩ := hSw; go_simp; try with_reducible rfl)
            try simp only [Act.put, List.setIfInBounds_toArray, List.set_cons_zero, List.set_cons_succ]
            refine upto_one (i := 8) (by kernel_rfl) rfl (fun K hK => ?_)
            go_simp
            obtain ⟨u17, hu17⟩ : ∃ V, V = u16.alloc (.cells #[.int .i64 0, .string { data := #[] }, .int .i64 0, .slice none 0 0, .slice none 0 0, .int .i64 0, .int .i64 0, .string { data := #[] }, .int .i64 0, .slice none 0 0, .slice none 0 0, .slice none 0 0] 38) := ⟨_, rfl⟩
            have hb : Below u16.heap.size u16 u17 := by rw [hu17]; exact below_alloc _ _
            have hz : u17.heap[u16.heap.size]? = some (.cells #[.int .i64 0, .string { data := #[] }, .int .i64 0, .slice none 0 0, .slice none 0 0, .int .i64 0, .int .i64 0, .string { data := #[] }, .int .i64 0, .slice none 0 0, .slice none 0 0, .slice none 0 0] 38 (0, 0)) := by rw [hu17]; exact heap_alloc_new _ _
            have hs_u17 : u17.heap.size = u16.heap.size + 1 := by rw [hu17]; simp
            rw [← hu17]
            clear hu17
            obtain ⟨z, hzz⟩ : ∃ z, z = u16.heap.size := ⟨_, rfl⟩
            rw [← hzz] at hz ⊢
            have hz1_ : z < u17.heap.size := by omega
            have hz2_ : w16.heap.size ≤ z := by omega
            have hz3_ : u16.heap.size ≤ z := by omega
            clear hzz
            have hr : InH (fun k => k < u17.heap.size ∧ k ≠ z) u17 R (.agg #[.int .i64 R.name.kind, .string R.name.name, .int .i64 R.name.n, .slice r0 R.name.scopes.length r1, .slice r2 R.name.kids.length r3, .int .i64 R.depth, .int .i64 R.one.kind, .string R.one.name, .int .i64 R.one.n, .slice r4 R.one.scopes.length r5, .slice r6 R.one.kids.length r7, .slice r8 R.many.length r9]) := InH.mono (fun k (hk : k < u16.heap.size) => ⟨by omega, by omega⟩) _ _ (InH.later (Same.of_below hb (fun k hk => hk)) _ _ hr)
            have hB := hB.trans (hb.mono (by omega))
            have hX := hX.later hb
            have hh := HO.hitsPl hb hh
            have hf := InV.lift hb hf
            refine hK.out _ _ (.inr hX) ?_
            clear hK K hb
            have hplr : Plain u17 z := ⟨_, _, hz⟩
            have c0 : u17.cell? ⟨z, 0, none⟩ = some (.int .i64 0) := by rw [cell_of_row u17 _ 0 _ _ _ hz]; rfl
            have c1 : u17.cell? ⟨z, 1, none⟩ = some (.string { data := #[] }) := by rw [cell_of_row u17 _ 1 _ _ _ hz]; rfl
            have c2 : u17.cell? ⟨z, 2, none⟩ = some (.int .i64 0) := by rw [cell_of_row u17 _ 2 _ _ _ hz]; rfl
            have c3 : u17.cell? ⟨z, 3, none⟩ = some (.slice none 0 0) := by rw [cell_of_row u17 _ 3 _ _ _ hz]; rfl
            have c4 : u17.cell? ⟨z, 4, none⟩ = some (.slice none 0 0) := by rw [cell_of_row u17 _ 4 _ _ _ hz]; rfl
            have c5 : u17.cell? ⟨z, 5, none⟩ = some (.int .i64 0) := by rw [cell_of_row u17 _ 5 _ _ _ hz]; rfl
            have c6 : u17.cell? ⟨z, 6, none⟩ = some (.int .i64 0) := by rw [cell_of_row u17 _ 6 _ _ _ hz]; rfl
            have c7 : u17.cell? ⟨z, 7, none⟩ = some (.string { data := #[] }) := by rw [cell_of_row u17 _ 7 _ _ _ hz]; rfl
            have c8 : u17.cell? ⟨z, 8, none⟩ = some (.int .i64 0) := by rw [cell_of_row u17 _ 8 _ _ _ hz]; rfl
            have c9 : u17.cell? ⟨z, 9, none⟩ = some (.slice none 0 0) := by rw [cell_of_row u17 _ 9 _ _ _ hz]; rfl
            have c10 : u17.cell? ⟨z, 10, none⟩ = some (.slice none 0 0) := by rw [cell_of_row u17 _ 10 _ _ _ hz]; rfl
            have c11 : u17.cell? ⟨z, 11, none⟩ = some (.slice none 0 0) := by rw [cell_of_row u17 _ 11 _ _ _ hz]; rfl
            have t_0 := hplr.frozen 0
            have t_1 := hplr.frozen 1
            have t_2 := hplr.frozen 2
            have t_3 := hplr.frozen 3
            have t_4 := hplr.frozen 4
            have t_5 := hplr.frozen 5
            have t_6 := hplr.frozen 6
            have t_7 := hplr.frozen 7
            have t_8 := hplr.frozen 8
            have t_9 := hplr.frozen 9
            have t_10 := hplr.frozen 10
            have t_11 := hplr.frozen 11
            have HR : Hid (∀ i, i < 12 → ∃ v, u17.cell? ⟨z, 0 + i, none⟩ = some v) := fun i hi => by
              rw [Nat.zero_add]
              match i, hi with
              | 0, _ => exact ⟨_, c0⟩
              | 1, _ => exact ⟨_, c1⟩
              | 2, _ => exact ⟨_, c2⟩
              | 3, _ => exact ⟨_, c3⟩
              | 4, _ => exact ⟨_, c4⟩
              | 5, _ => exact ⟨_, c5⟩
              | 6, _ => exact ⟨_, c6⟩
              | 7, _ => exact ⟨_, c7⟩
              | 8, _ => exact ⟨_, c8⟩
              | 9, _ => exact ⟨_, c9⟩
              | 10, _ => exact ⟨_, c10⟩
              | 11, _ => exact ⟨_, c11⟩
            refine upto_one (i := 9) (by kernel_rfl) rfl (fun K hK => ?_)
            go_simp
            obtain ⟨V, hV⟩ : ∃ V, V = ((((((((((((u17.setCell ⟨z, 0, none⟩ (.int .i64 R.name.kind)).setCell ⟨z, 1, none⟩ (.string R.name.name)).setCell ⟨z, 2, none⟩ (.int .i64 R.name.n)).setCell ⟨z, 3, none⟩ (.slice r0 R.name.scopes.length r1)).setCell ⟨z, 4, none⟩ (.slice r2 R.name.kids.length r3)).setCell ⟨z, 5, none⟩ (.int .i64 R.depth)).setCell ⟨z, 6, none⟩ (.int .i64 R.one.kind)).setCell ⟨z, 7, none⟩ (.string R.one.name)).setCell ⟨z, 8, none⟩ (.int .i64 R.one.n)).setCell ⟨z, 9, none⟩ (.slice r4 R.one.scopes.length r5)).setCell ⟨z, 10, none⟩ (.slice r6 R.one.kids.length r7)).setCell ⟨z, 11, none⟩ (.slice r8 R.many.length r9)) := ⟨_, rfl⟩
            have E : V = sets u17 z 0 [.int .i64 R.name.kind, .string R.name.name, .int .i64 R.name.n, .slice r0 R.name.scopes.length r1, .slice r2 R.name.kids.length r3, .int .i64 R.depth, .int .i64 R.one.kind, .string R.one.name, .int .i64 R.one.n, .slice r4 R.one.scopes.length r5, .slice r6 R.one.kids.length r7, .slice r8 R.many.length r9] := by rw [hV]; rfl
            have hin := sets_in z [Value.int .i64 R.name.kind, Value.string R.name.name, Value.int .i64 R.name.n, Value.slice r0 R.name.scopes.length r1, Value.slice r2 R.name.kids.length r3, Value.int .i64 R.depth, Value.int .i64 R.one.kind, Value.string R.one.name, Value.int .i64 R.one.n, Value.slice r4 R.one.scopes.length r5, Value.slice r6 R.one.kids.length r7, Value.slice r8 R.many.length r9] u17 0 HR.out
            rw [← E] at hin
            have hbx : HBox V z ⟨R, r0, r1, r2, r3, r4, r5, r6, r7, r8, r9⟩ := ⟨by have := hin 0 (by simp); simpa using this, by have := hin 1 (by simp); simpa using this, by have := hin 2 (by simp); simpa using this, by have := hin 3 (by simp); simpa using this, by have := hin 4 (by simp); simpa using this, by have := hin 5 (by simp); simpa using this, by have := hin 6 (by simp); simpa using this, by have := hin 7 (by simp); simpa using this, by have := hin 8 (by simp); simpa using this, by have := hin 9 (by simp); simpa using this, by have := hin 10 (by simp); simpa using this, by have := hin 11 (by simp); simpa using this⟩
            have hzV : V.heap.size = u17.heap.size := by rw [E, sets_size]
            have hBV : Below w16.heap.size w16 V := by rw [E]; exact sets_below (by omega) _ _ hB
            have hrV : InH (fun k => k < V.heap.size ∧ k ≠ z) V R (.agg #[.int .i64 R.name.kind, .string R.name.name, .int .i64 R.name.n, .slice r0 R.name.scopes.length r1, .slice r2 R.name.kids.length r3, .int .i64 R.depth, .int .i64 R.one.kind, .string R.one.name, .int .i64 R.one.n, .slice r4 R.one.scopes.length r5, .slice r6 R.one.kids.length r7, .slice r8 R.many.length r9]) := by rw [hzV, E]; exact InH.later (fun k hk => sets_block _ _ _ _ hk.2) _ _ hr
            have hXV : FormBox V w.heap.size f sa scap fa fcap := HX_19.out.later hBV
            rw [← hV]
            clear hV E hin
            refine hK.out _ _ (.inr hXV) ?_
            clear hK K
            refine upto_one (i := 10) (by kernel_rfl) rfl (fun K hK => ?_)
            go_simp
            refine hK.out _ _ (.inr hXV) ?_
            clear hK K
            refine upto_done (by kernel_rfl) ?_ _
            exact HCONT.out z xa xb ya yb yc yd r0 r1 r2 r3 r4 r5 r6 r7 r8 r9 V ⟨hBV, by omega, by omega, hbx, hrV⟩
          · skip
            go_simp
            obtain ⟨u18, hu18⟩ : ∃ V, V = u15.alloc (.cells #[.int .i64 0, .string { data := #[] }, .int .i64 0, .slice none 0 0, .slice none 0 0, .int .i64 0, .int .i64 0, .string { data := #[] }, .int .i64 0, .slice none 0 0, .slice none 0 0, .slice none 0 0] 38) := ⟨_, rfl⟩
            have hb : Below u15.heap.size u15 u18 := by rw [hu18]; exact below_alloc _ _
            have hz : u18.heap[u15.heap.size]? = some (.cells #[.int .i64 0, .string { data := #[] }, .int .i64 0, .slice none 0 0, .slice none 0 0, .int .i64 0, .int .i64 0, .string { data := #[] }, .int .i64 0, .slice none 0 0, .slice none 0 0, .slice none 0 0] 38 (0, 0)) := by rw [hu18]; exact heap_alloc_new _ _
            have hs_u18 : u18.heap.size = u15.heap.size + 1 := by rw [hu18]; simp
            rw [← hu18]
            clear hu18
            obtain ⟨z, hzz⟩ : ∃ z, z = u15.heap.size := ⟨_, rfl⟩
            rw [← hzz] at hz ⊢
            have hz1_ : z < u18.heap.size := by omega
            have hz2_ : w16.heap.size ≤ z := by omega
            have hz3_ : u15.heap.size ≤ z := by omega
            clear hzz
            have hB := hB.trans (hb.mono (by omega))
            have hX := hX.later hb
            have hh := HO.hitsPl hb hh
            have hf := InV.lift hb hf
            refine hK.out _ _ (.inr hX) ?_
            clear hK K hb
            refine upto_one (i := 4) (by kernel_rfl) rfl (fun K hK => ?_)
            go_simp
            refine (implFind l f xa xb _ u18 hh hf hsl R ok HRR.out).mono ?_
            rintro e u19 ⟨r0, r1, r2, r3, r4, r5, r6, r7, r8, r9, rfl, hr0, hb⟩
            have hs_u19 : u18.heap.size ≤ u19.heap.size := hb.size
            have hB := hB.trans (hb.mono (by omega))
            have hX := hX.later hb
            have hh := HO.hitsPl hb hh
            have hf := InV.lift hb hf
            have hz := (hb.block _ (by omega)).trans hz
            have hr : InH (fun k => k < u19.heap.size ∧ k ≠ z) u19 R (.agg #[.int .i64 R.name.kind, .string R.name.name, .int .i64 R.name.n, .slice r0 R.name.scopes.length r1, .slice r2 R.name.kids.length r3, .int .i64 R.depth, .int .i64 R.one.kind, .string R.one.name, .int .i64 R.one.n, .slice r4 R.one.scopes.length r5, .slice r6 R.one.kids.length r7, .slice r8 R.many.length r9]) := InH.mono (fun k hk => ⟨hk.2, by have := hk.1; omega⟩) _ _ hr0
            refine hK.out _ _ (.inr hX) ?_
            clear hK K hb
            refine upto_take (i := 5) (d := some 94) (v := ?_) rfl rfl (by kernel_rfl) (by kernel_rfl) (by kernel_rfl) (by kernel_rfl) (fun _ _ _ h => h) (Or.inl ⟨by rfl, ?_⟩) hX ?_
            rotate_left
            · (intro wS hSw; obtain ⟨_, _, _, _, _⟩ := hSw; go_simp; try with_reducible rfl)
            try simp only [Act.put, List.setIfInBounds_toArray, List.set_cons_zero, List.set_cons_succ]
            refine upto_take (i := 6) (d := some 100) (v := ?_) rfl rfl (by kernel_rfl) (by kernel_rfl) (by kernel_rfl) (by kernel_rfl) (fun _ _ _ h => h) (Or.inl ⟨by rfl, ?_⟩) hX ?_
            rotate_left
            · (intro wS hSw; obtain ⟨_, _, _, _, _⟩ := hSw; go_simp; try with_reducible rfl)
            try simp only [Act.put, List.setIfInBounds_toArray, List.set_cons_zero, List.set_cons_succ]
            refine upto_take (i := 7) (d := some 101) (v := ?_) rfl rfl (by kernel_rfl) (by kernel_rfl) (by kernel_rfl) (by kernel_rfl) (fun _ _ _ h => h) (Or.inl ⟨by rfl, ?_⟩) hX ?_
            rotate_left
            · (intro wS hSw; obtain ⟨_, _, _, _, _⟩ := hSw; go_simp; try with_reducible rfl)
            try simp only [Act.put, List.setIfInBounds_toArray, List.set_cons_zero, List.set_cons_succ]
            have hplr : Plain u19 z := ⟨_, _, hz⟩
            have c0 : u19.cell? ⟨z, 0, none⟩ = some (.int .i64 0) := by rw [cell_of_row u19 _ 0 _ _ _ hz]; rfl
            have c1 : u19.cell? ⟨z, 1, none⟩ = some (.string { data := #[] }) := by rw [cell_of_row u19 _ 1 _ _ _ hz]; rfl
            have c2 : u19.cell? ⟨z, 2, none⟩ = some (.int .i64 0) := by rw [cell_of_row u19 _ 2 _ _ _ hz]; rfl
            have c3 : u19.cell? ⟨z, 3, none⟩ = some (.slice none 0 0) := by rw [cell_of_row u19 _ 3 _ _ _ hz]; rfl
            have c4 : u19.cell? ⟨z, 4, none⟩ = some (.slice none 0 0) := by rw [cell_of_row u19 _ 4 _ _ _ hz]; rfl
            have c5 : u19.cell? ⟨z, 5, none⟩ = some (.int .i64 0) := by rw [cell_of_row u19 _ 5 _ _ _ hz]; rfl
            have c6 : u19.cell? ⟨z, 6, none⟩ = some (.int .i64 0) := by rw [cell_of_row u19 _ 6 _ _ _ hz]; rfl
            have c7 : u19.cell? ⟨z, 7, none⟩ = some (.string { data := #[] }) := by rw [cell_of_row u19 _ 7 _ _ _ hz]; rfl
            have c8 : u19.cell? ⟨z, 8, none⟩ = some (.int .i64 0) := by rw [cell_of_row u19 _ 8 _ _ _ hz]; rfl
            have c9 : u19.cell? ⟨z, 9, none⟩ = some (.slice none 0 0) := by rw [cell_of_row u19 _ 9 _ _ _ hz]; rfl
            have c10 : u19.cell? ⟨z, 10, none⟩ = some (.slice none 0 0) := by rw [cell_of_row u19 _ 10 _ _ _ hz]; rfl
            have c11 : u19.cell? ⟨z, 11, none⟩ = some (.slice none 0 0) := by rw [cell_of_row u19 _ 11 _ _ _ hz]; rfl
            have t_0 := hplr.frozen 0
            have t_1 := hplr.frozen 1
            have t_2 := hplr.frozen 2
            have t_3 := hplr.frozen 3
            have t_4 := hplr.frozen 4
            have t_5 := hplr.frozen 5
            have t_6 := hplr.frozen 6
            have t_7 := hplr.frozen 7
            have t_8 := hplr.frozen 8
            have t_9 := hplr.frozen 9
            have t_10 := hplr.frozen 10
            have t_11 := hplr.frozen 11
            have HR : Hid (∀ i, i < 12 → ∃ v, u19.cell? ⟨z, 0 + i, none⟩ = some v) := fun i hi => by
              rw [Nat.zero_add]
              match i, hi with
              | 0, _ => exact ⟨_, c0⟩
              | 1, _ => exact ⟨_, c1⟩
              | 2, _ => exact ⟨_, c2⟩
              | 3, _ => exact ⟨_, c3⟩
              | 4, _ => exact ⟨_, c4⟩
              | 5, _ => exact ⟨_, c5⟩
              | 6, _ => exact ⟨_, c6⟩
              | 7, _ => exact ⟨_, c7⟩
              | 8, _ => exact ⟨_, c8⟩
              | 9, _ => exact ⟨_, c9⟩
              | 10, _ => exact ⟨_, c10⟩
              | 11, _ => exact ⟨_, c11⟩
            refine upto_one (i := 9) (by kernel_rfl) rfl (fun K hK => ?_)
            go_simp
            obtain ⟨V, hV⟩ : ∃ V, V = ((((((((((((u19.setCell ⟨z, 0, none⟩ (.int .i64 R.name.kind)).setCell ⟨z, 1, none⟩ (.string R.name.name)).setCell ⟨z, 2, none⟩ (.int .i64 R.name.n)).setCell ⟨z, 3, none⟩ (.slice r0 R.name.scopes.length r1)).setCell ⟨z, 4, none⟩ (.slice r2 R.name.kids.length r3)).setCell ⟨z, 5, none⟩ (.int .i64 R.depth)).setCell ⟨z, 6, none⟩ (.int .i64 R.one.kind)).setCell ⟨z, 7, none⟩ (.string R.one.name)).setCell ⟨z, 8, none⟩ (.int .i64 R.one.n)).setCell ⟨z, 9, none⟩ (.slice r4 R.one.scopes.length r5)).setCell ⟨z, 10, none⟩ (.slice r6 R.one.kids.length r7)).setCell ⟨z, 11, none⟩ (.slice r8 R.many.length r9)) := ⟨_, rfl⟩
            have E : V = sets u19 z 0 [.int .i64 R.name.kind, .string R.name.name, .int .i64 R.name.n, .slice r0 R.name.scopes.length r1, .slice r2 R.name.kids.length r3, .int .i64 R.depth, .int .i64 R.one.kind, .string R.one.name, .int .i64 R.one.n, .slice r4 R.one.scopes.length r5, .slice r6 R.one.kids.length r7, .slice r8 R.many.length r9] := by rw [hV]; rfl
            have hin := sets_in z [Value.int .i64 R.name.kind, Value.string R.name.name, Value.int .i64 R.name.n, Value.slice r0 R.name.scopes.length r1, Value.slice r2 R.name.kids.length r3, Value.int .i64 R.depth, Value.int .i64 R.one.kind, Value.string R.one.name, Value.int .i64 R.one.n, Value.slice r4 R.one.scopes.length r5, Value.slice r6 R.one.kids.length r7, Value.slice r8 R.many.length r9] u19 0 HR.out
            rw [← E] at hin
            have hbx : HBox V z ⟨R, r0, r1, r2, r3, r4, r5, r6, r7, r8, r9⟩ := ⟨by have := hin 0 (by simp); simpa using this, by have := hin 1 (by simp); simpa using this, by have := hin 2 (by simp); simpa using this, by have := hin 3 (by simp); simpa using this, by have := hin 4 (by simp); simpa using this, by have := hin 5 (by simp); simpa using this, by have := hin 6 (by simp); simpa using this, by have := hin 7 (by simp); simpa using this, by have := hin 8 (by simp); simpa using this, by have := hin 9 (by simp); simpa using this, by have := hin 10 (by simp); simpa using this, by have := hin 11 (by simp); simpa using this⟩
            have hzV : V.heap.size = u19.heap.size := by rw [E, sets_size]
            have hBV : Below w16.heap.size w16 V := by rw [E]; exact sets_below (by omega) _ _ hB
            have hrV : InH (fun k => k < V.heap.size ∧ k ≠ z) V R (.agg #[.int .i64 R.name.kind, .string R.name.name, .int .i64 R.name.n, .slice r0 R.name.scopes.length r1, .slice r2 R.name.kids.length r3, .int .i64 R.depth, .int .i64 R.one.kind, .string R.one.name, .int .i64 R.one.n, .slice r4 R.one.scopes.length r5, .slice r6 R.one.kids.length r7, .slice r8 R.many.length r9]) := by rw [hzV, E]; exact InH.later (fun k hk => sets_block _ _ _ _ hk.2) _ _ hr
            have hXV : FormBox V w.heap.size f sa scap fa fcap := HX_19.out.later hBV
            rw [← hV]
            clear hV E hin
            refine hK.out _ _ (.inr hXV) ?_
            clear hK K
            refine upto_one (i := 10) (by kernel_rfl) rfl (fun K hK => ?_)
            go_simp
            refine hK.out _ _ (.inr hXV) ?_
            clear hK K
            refine upto_done (by kernel_rfl) ?_ _
            exact HCONT.out z xa xb ya yb yc yd r0 r1 r2 r3 r4 r5 r6 r7 r8 r9 V ⟨hBV, by omega, by omega, hbx, hrV⟩
        · skip
          go_simp
          obtain ⟨u20, hu20⟩ : ∃ V, V = u14.alloc (.cells #[.int .i64 0, .string { data := #[] }, .int .i64 0, .slice none 0 0, .slice none 0 0, .int .i64 0, .int .i64 0, .string { data := #[] }, .int .i64 0, .slice none 0 0, .slice none 0 0, .slice none 0 0] 38) := ⟨_, rfl⟩
          have hb : Below u14.heap.size u14 u20 := by rw [hu20]; exact below_alloc _ _
          have hz : u20.heap[u14.heap.size]? = some (.cells #[.int .i64 0, .string { data := #[] }, .int .i64 0, .slice none 0 0, .slice none 0 0, .int .i64 0, .int .i64 0, .string { data := #[] }, .int .i64 0, .slice none 0 0, .slice none 0 0, .slice none 0 0] 38 (0, 0)) := by rw [hu20]; exact heap_alloc_new _ _
          have hs_u20 : u20.heap.size = u14.heap.size + 1 := by rw [hu20]; simp
          rw [← hu20]
          clear hu20
          obtain ⟨z, hzz⟩ : ∃ z, z = u14.heap.size := ⟨_, rfl⟩
          rw [← hzz] at hz ⊢
          have hz1_ : z < u20.heap.size := by omega
          have hz2_ : w16.heap.size ≤ z := by omega
          have hz3_ : u14.heap.size ≤ z := by omega
          clear hzz
          have hB := hB.trans (hb.mono (by omega))
          have hX := hX.later hb
          have hh := HO.hitsPl hb hh
          refine hK.out _ _ (.inr hX) ?_
          clear hK K hb
          refine upto_one (i := 3) (by kernel_rfl) rfl (fun K hK => ?_)
          go_simp
          refine (toForm_any w.heap.size f _ u20 (by omega) (InV.later (same_below (HB_19.out.trans (hB.mono (by omega)))) _ _ HV.out) hsf).mono ?_
          rintro e u21 hp
          obtain ⟨ya, yb, yc, yd, rfl, hf, hb⟩ := hp.weak
          have hs_u21 : u20.heap.size ≤ u21.heap.size := hb.size
          have hB := hB.trans (hb.mono (by omega))
          have hX := hX.later hb
          have hh := HO.hitsPl hb hh
          have hz := (hb.block _ (by omega)).trans hz
          refine hK.out _ _ (.inr hX) ?_
          clear hK K hb
          refine upto_one (i := 4) (by kernel_rfl) rfl (fun K hK => ?_)
          go_simp
          refine (implFind l f xa xb _ u21 hh hf hsl R ok HRR.out).mono ?_
          rintro e u22 ⟨r0, r1, r2, r3, r4, r5, r6, r7, r8, r9, rfl, hr0, hb⟩
          have hs_u22 : u21.heap.size ≤ u22.heap.size := hb.size
          have hB := hB.trans (hb.mono (by omega))
          have hX := hX.later hb
          have hh := HO.hitsPl hb hh
          have hf := InV.lift hb hf
          have hz := (hb.block _ (by omega)).trans hz
          have hr : InH (fun k => k < u22.heap.size ∧ k ≠ z) u22 R (.agg #[.int .i64 R.name.kind, .string R.name.name, .int .i64 R.name.n, .slice r0 R.name.scopes.length r1, .slice r2 R.name.kids.length r3, .int .i64 R.depth, .int .i64 R.one.kind, .string R.one.name, .int .i64 R.one.n, .slice r4 R.one.scopes.length r5, .slice r6 R.one.kids.length r7, .slice r8 R.many.length r9]) := InH.mono (fun k hk => ⟨hk.2, by have := hk.1; omega⟩) _ _ hr0
          refine hK.out _ _ (.inr hX) ?_
          clear hK K hb
          refine upto_take (i := 5) (d := some 94) (v := ?_) rfl rfl (by kernel_rfl) (by kernel_rfl) (by kernel_rfl) (by kernel_rfl) (fun _ _ _ h => h) (Or.inl ⟨by rfl, ?_⟩) hX ?_
          rotate_left
          · (intro wS hSw; obtain ⟨_, _, _, _, _⟩ := hSw; go_simp; try with_reducible rfl)
          try simp only [Act.put, List.setIfInBounds_toArray, List.set_cons_zero, List.set_cons_succ]
          refine upto_take (i := 6) (d := some 100) (v := ?_) rfl rfl (by kernel_rfl) (by kernel_rfl) (by kernel_rfl) (by kernel_rfl) (fun _ _ _ h => h) (Or.inl ⟨by rfl, ?_⟩) hX ?_
          rotate_left
          · (intro wS hSw; obtain ⟨_, _, _, _, _⟩ := hSw; go_simp; try with_reducible rfl)
          try simp only [Act.put, List.setIfInBounds_toArray, List.set_cons_zero, List.set_cons_succ]
          refine upto_take (i := 7) (d := some 101) (v := ?_) rfl rfl (by kernel_rfl) (by kernel_rfl) (by kernel_rfl) (by kernel_rfl) (fun _ _ _ h => h) (Or.inl ⟨by rfl, ?_⟩) hX ?_
          rotate_left
          · (intro wS hSw; obtain ⟨_, _, _, _, _⟩ := hSw; go_simp; try with_reducible rfl)
          try simp only [Act.put, List.setIfInBounds_toArray, List.set_cons_zero, List.set_cons_succ]
          have hplr : Plain u22 z := ⟨_, _, hz⟩
          have c0 : u22.cell? ⟨z, 0, none⟩ = some (.int .i64 0) := by rw [cell_of_row u22 _ 0 _ _ _ hz]; rfl
          have c1 : u22.cell? ⟨z, 1, none⟩ = some (.string { data := #[] }) := by rw [cell_of_row u22 _ 1 _ _ _ hz]; rfl
          have c2 : u22.cell? ⟨z, 2, none⟩ = some (.int .i64 0) := by rw [cell_of_row u22 _ 2 _ _ _ hz]; rfl
          have c3 : u22.cell? ⟨z, 3, none⟩ = some (.slice none 0 0) := by rw [cell_of_row u22 _ 3 _ _ _ hz]; rfl
          have c4 : u22.cell? ⟨z, 4, none⟩ = some (.slice none 0 0) := by rw [cell_of_row u22 _ 4 _ _ _ hz]; rfl
          have c5 : u22.cell? ⟨z, 5, none⟩ = some (.int .i64 0) := by rw [cell_of_row u22 _ 5 _ _ _ hz]; rfl
          have c6 : u22.cell? ⟨z, 6, none⟩ = some (.int .i64 0) := by rw [cell_of_row u22 _ 6 _ _ _ hz]; rfl
          have c7 : u22.cell? ⟨z, 7, none⟩ = some (.string { data := #[] }) := by rw [cell_of_row u22 _ 7 _ _ _ hz]; rfl
          have c8 : u22.cell? ⟨z, 8, none⟩ = some (.int .i64 0) := by rw [cell_of_row u22 _ 8 _ _ _ hz]; rfl
          have c9 : u22.cell? ⟨z, 9, none⟩ = some (.slice none 0 0) := by rw [cell_of_row u22 _ 9 _ _ _ hz]; rfl
          have c10 : u22.cell? ⟨z, 10, none⟩ = some (.slice none 0 0) := by rw [cell_of_row u22 _ 10 _ _ _ hz]; rfl
          have c11 : u22.cell? ⟨z, 11, none⟩ = some (.slice none 0 0) := by rw [cell_of_row u22 _ 11 _ _ _ hz]; rfl
          have t_0 := hplr.frozen 0
          have t_1 := hplr.frozen 1
          have t_2 := hplr.frozen 2
          have t_3 := hplr.frozen 3
          have t_4 := hplr.frozen 4
          have t_5 := hplr.frozen 5
          have t_6 := hplr.frozen 6
          have t_7 := hplr.frozen 7
          have t_8 := hplr.frozen 8
          have t_9 := hplr.frozen 9
          have t_10 := hplr.frozen 10
          have t_11 := hplr.frozen 11
          have HR : Hid (∀ i, i < 12 → ∃ v, u22.cell? ⟨z, 0 + i, none⟩ = some v) := fun i hi => by
            rw [Nat.zero_add]
            match i, hi with
            | 0, _ => exact ⟨_, c0⟩
            | 1, _ => exact ⟨_, c1⟩
            | 2, _ => exact ⟨_, c2⟩
            | 3, _ => exact ⟨_, c3⟩
            | 4, _ => exact ⟨_, c4⟩
            | 5, _ => exact ⟨_, c5⟩
            | 6, _ => exact ⟨_, c6⟩
            | 7, _ => exact ⟨_, c7⟩
            | 8, _ => exact ⟨_, c8⟩
            | 9, _ => exact ⟨_, c9⟩
            | 10, _ => exact ⟨_, c10⟩
            | 11, _ => exact ⟨_, c11⟩
          refine upto_one (i := 9) (by kernel_rfl) rfl (fun K hK => ?_)
          go_simp
          obtain ⟨V, hV⟩ : ∃ V, V = ((((((((((((u22.setCell ⟨z, 0, none⟩ (.int .i64 R.name.kind)).setCell ⟨z, 1, none⟩ (.string R.name.name)).setCell ⟨z, 2, none⟩ (.int .i64 R.name.n)).setCell ⟨z, 3, none⟩ (.slice r0 R.name.scopes.length r1)).setCell ⟨z, 4, none⟩ (.slice r2 R.name.kids.length r3)).setCell ⟨z, 5, none⟩ (.int .i64 R.depth)).setCell ⟨z, 6, none⟩ (.int .i64 R.one.kind)).setCell ⟨z, 7, none⟩ (.string R.one.name)).setCell ⟨z, 8, none⟩ (.int .i64 R.one.n)).setCell ⟨z, 9, none⟩ (.slice r4 R.one.scopes.length r5)).setCell ⟨z, 10, none⟩ (.slice r6 R.one.kids.length r7)).setCell ⟨z, 11, none⟩ (.slice r8 R.many.length r9)) := ⟨_, rfl⟩
          have E : V = sets u22 z 0 [.int .i64 R.name.kind, .string R.name.name, .int .i64 R.name.n, .slice r0 R.name.scopes.length r1, .slice r2 R.name.kids.length r3, .int .i64 R.depth, .int .i64 R.one.kind, .string R.one.name, .int .i64 R.one.n, .slice r4 R.one.scopes.length r5, .slice r6 R.one.kids.length r7, .slice r8 R.many.length r9] := by rw [hV]; rfl
          have hin := sets_in z [Value.int .i64 R.name.kind, Value.string R.name.name, Value.int .i64 R.name.n, Value.slice r0 R.name.scopes.length r1, Value.slice r2 R.name.kids.length r3, Value.int .i64 R.depth, Value.int .i64 R.one.kind, Value.string R.one.name, Value.int .i64 R.one.n, Value.slice r4 R.one.scopes.length r5, Value.slice r6 R.one.kids.length r7, Value.slice r8 R.many.length r9] u22 0 HR.out
          rw [← E] at hin
          have hbx : HBox V z ⟨R, r0, r1, r2, r3, r4, r5, r6, r7, r8, r9⟩ := ⟨by have := hin 0 (by simp); simpa using this, by have := hin 1 (by simp); simpa using this, by have := hin 2 (by simp); simpa using this, by have := hin 3 (by simp); simpa using this, by have := hin 4 (by simp); simpa using this, by have := hin 5 (by simp); simpa using this, by have := hin 6 (by simp); simpa using this, by have := hin 7 (by simp); simpa using this, by have := hin 8 (by simp); simpa using this, by have := hin 9 (by simp); simpa using this, by have := hin 10 (by simp); simpa using this, by have := hin 11 (by simp); simpa using this⟩
          have hzV : V.heap.size = u22.heap.size := by rw [E, sets_size]
          have hBV : Below w16.heap.size w16 V := by rw [E]; exact sets_below (by omega) _ _ hB
          have hrV : InH (fun k => k < V.heap.size ∧ k ≠ z) V R (.agg #[.int .i64 R.name.kind, .string R.name.name, .int .i64 R.name.n, .slice r0 R.name.scopes.length r1, .slice r2 R.name.kids.length r3, .int .i64 R.depth, .int .i64 R.one.kind, .string R.one.name, .int .i64 R.one.n, .slice r4 R.one.scopes.length r5, .slice r6 R.one.kids.length r7, .slice r8 R.many.length r9]) := by rw [hzV, E]; exact InH.later (fun k hk => sets_block _ _ _ _ hk.2) _ _ hr
          have hXV : FormBox V w.heap.size f sa scap fa fcap := HX_19.out.later hBV
          rw [← hV]
          clear hV E hin
          refine hK.out _ _ (.inr hXV) ?_
          clear hK K
          refine upto_one (i := 10) (by kernel_rfl) rfl (fun K hK => ?_)
          go_simp
          refine hK.out _ _ (.inr hXV) ?_
          clear hK K
          refine upto_done (by kernel_rfl) ?_ _
          exact HCONT.out z xa xb ya yb yc yd r0 r1 r2 r3 r4 r5 r6 r7 r8 r9 V ⟨hBV, by omega, by omega, hbx, hrV⟩
      · skip
        go_simp
        obtain ⟨u23, hu23⟩ : ∃ V, V = u0.alloc (.cells #[.int .i64 0, .string { data := #[] }, .int .i64 0, .slice none 0 0, .slice none 0 0, .int .i64 0, .int .i64 0, .string { data := #[] }, .int .i64 0, .slice none 0 0, .slice none 0 0, .slice none 0 0] 38) := ⟨_, rfl⟩
        have hb : Below u0.heap.size u0 u23 := by rw [hu23]; exact below_alloc _ _
        have hz : u23.heap[u0.heap.size]? = some (.cells #[.int .i64 0, .string { data := #[] }, .int .i64 0, .slice none 0 0, .slice none 0 0, .int .i64 0, .int .i64 0, .string { data := #[] }, .int .i64 0, .slice none 0 0, .slice none 0 0, .slice none 0 0] 38 (0, 0)) := by rw [hu23]; exact heap_alloc_new _ _
        have hs_u23 : u23.heap.size = u0.heap.size + 1 := by rw [hu23]; simp
        rw [← hu23]
        clear hu23
        obtain ⟨z, hzz⟩ : ∃ z, z = u0.heap.size := ⟨_, rfl⟩
        rw [← hzz] at hz ⊢
        have hz1_ : z < u23.heap.size := by omega
        have hz2_ : w16.heap.size ≤ z := by omega
        have hz3_ : u0.heap.size ≤ z := by omega
        clear hzz
        have hB := hB.trans (hb.mono (by omega))
        have hX := hX.later hb
        refine hK.out _ _ (.inr hX) ?_
        clear hK K hb
        refine upto_one (i := 1) (by kernel_rfl) rfl (fun K hK => ?_)
        go_simp
        refine (copyH u23 l la lcap ((HU.out.later (same_below (HB_19.out.trans (hB.mono (by omega))))).mono (fun k (hk : k < w.heap.size) => by show k < u23.heap.size; omega)) hsl).mono ?_
        rintro e u24 ⟨xa, xb, bh, rfl, ho, hn, hpl, hb⟩
        have hs_u24 : u23.heap.size ≤ u24.heap.size := hb.size
        have hB := hB.trans (hb.mono (by omega))
        have hX := hX.later hb
        have hz := (hb.block _ (by omega)).trans hz
        have hh : HitsIn (Pl u24.heap.size u24) u24 xa xb l := ho.reads (fun b hm => ⟨(hn.2 b hm).2, hpl b hm⟩)
        refine hK.out _ _ (.inr hX) ?_
        clear hK K hb
        refine upto_one (i := 3) (by kernel_rfl) rfl (fun K hK => ?_)
        go_simp
        refine (toForm_any w.heap.size f _ u24 (by omega) (InV.later (same_below (HB_19.out.trans (hB.mono (by omega)))) _ _ HV.out) hsf).mono ?_
        rintro e u25 hp
        obtain ⟨ya, yb, yc, yd, rfl, hf, hb⟩ := hp.weak
        have hs_u25 : u24.heap.size ≤ u25.heap.size := hb.size
        have hB := hB.trans (hb.mono (by omega))
        have hX := hX.later hb
        have hh := HO.hitsPl hb hh
        have hz := (hb.block _ (by omega)).trans hz
        refine hK.out _ _ (.inr hX) ?_
        clear hK K hb
        refine upto_one (i := 4) (by kernel_rfl) rfl (fun K hK => ?_)
        go_simp
        refine (implFind l f xa xb _ u25 hh hf hsl R ok HRR.out).mono ?_
        rintro e u26 ⟨r0, r1, r2, r3, r4, r5, r6, r7, r8, r9, rfl, hr0, hb⟩
        have hs_u26 : u25.heap.size ≤ u26.heap.size := hb.size
        have hB := hB.trans (hb.mono (by omega))
        have hX := hX.later hb
        have hh := HO.hitsPl hb hh
        have hf := InV.lift hb hf
        have hz := (hb.block _ (by omega)).trans hz
        have hr : InH (fun k => k < u26.heap.size ∧ k ≠ z) u26 R (.agg #[.int .i64 R.name.kind, .string R.name.name, .int .i64 R.name.n, .slice r0 R.name.scopes.length r1, .slice r2 R.name.kids.length r3, .int .i64 R.depth, .int .i64 R.one.kind, .string R.one.name, .int .i64 R.one.n, .slice r4 R.one.scopes.length r5, .slice r6 R.one.kids.length r7, .slice r8 R.many.length r9]) := InH.mono (fun k hk => ⟨hk.2, by have := hk.1; omega⟩) _ _ hr0
        refine hK.out _ _ (.inr hX) ?_
        clear hK K hb
        refine upto_take (i := 5) (d := some 94) (v := ?_) rfl rfl (by kernel_rfl) (by kernel_rfl) (by kernel_rfl) (by kernel_rfl) (fun _ _ _ h => h) (Or.inl ⟨by rfl, ?_⟩) hX ?_
        rotate_left
        · (intro wS hSw; obtain ⟨_, _, _, _, _⟩ := hSw; go_simp; try with_reducible rfl)
        try simp only [Act.put, List.setIfInBounds_toArray, List.set_cons_zero, List.set_cons_succ]
        refine upto_take (i := 6) (d := some 100) (v := ?_) rfl rfl (by kernel_rfl) (by kernel_rfl) (by kernel_rfl) (by kernel_rfl) (fun _ _ _ h => h) (Or.inl ⟨by rfl, ?_⟩) hX ?_
        rotate_left
        · (intro wS hSw; obtain ⟨_, _, _, _, _⟩ := hSw; go_simp; try with_reducible rfl)
        try simp only [Act.put, List.setIfInBounds_toArray, List.set_cons_zero, List.set_cons_succ]
        refine upto_take (i := 7) (d := some 101) (v := ?_) rfl rfl (by kernel_rfl) (by kernel_rfl) (by kernel_rfl) (by kernel_rfl) (fun _ _ _ h => h) (Or.inl ⟨by rfl, ?_⟩) hX ?_
        rotate_left
        · (intro wS hSw; obtain ⟨_, _, _, _, _⟩ := hSw; go_simp; try with_reducible rfl)
        try simp only [Act.put, List.setIfInBounds_toArray, List.set_cons_zero, List.set_cons_succ]
        have hplr : Plain u26 z := ⟨_, _, hz⟩
        have c0 : u26.cell? ⟨z, 0, none⟩ = some (.int .i64 0) := by rw [cell_of_row u26 _ 0 _ _ _ hz]; rfl
        have c1 : u26.cell? ⟨z, 1, none⟩ = some (.string { data := #[] }) := by rw [cell_of_row u26 _ 1 _ _ _ hz]; rfl
        have c2 : u26.cell? ⟨z, 2, none⟩ = some (.int .i64 0) := by rw [cell_of_row u26 _ 2 _ _ _ hz]; rfl
        have c3 : u26.cell? ⟨z, 3, none⟩ = some (.slice none 0 0) := by rw [cell_of_row u26 _ 3 _ _ _ hz]; rfl
        have c4 : u26.cell? ⟨z, 4, none⟩ = some (.slice none 0 0) := by rw [cell_of_row u26 _ 4 _ _ _ hz]; rfl
        have c5 : u26.cell? ⟨z, 5, none⟩ = some (.int .i64 0) := by rw [cell_of_row u26 _ 5 _ _ _ hz]; rfl
        have c6 : u26.cell? ⟨z, 6, none⟩ = some (.int .i64 0) := by rw [cell_of_row u26 _ 6 _ _ _ hz]; rfl
        have c7 : u26.cell? ⟨z, 7, none⟩ = some (.string { data := #[] }) := by rw [cell_of_row u26 _ 7 _ _ _ hz]; rfl
        have c8 : u26.cell? ⟨z, 8, none⟩ = some (.int .i64 0) := by rw [cell_of_row u26 _ 8 _ _ _ hz]; rfl
        have c9 : u26.cell? ⟨z, 9, none⟩ = some (.slice none 0 0) := by rw [cell_of_row u26 _ 9 _ _ _ hz]; rfl
        have c10 : u26.cell? ⟨z, 10, none⟩ = some (.slice none 0 0) := by rw [cell_of_row u26 _ 10 _ _ _ hz]; rfl
        have c11 : u26.cell? ⟨z, 11, none⟩ = some (.slice none 0 0) := by rw [cell_of_row u26 _ 11 _ _ _ hz]; rfl
        have t_0 := hplr.frozen 0
        have t_1 := hplr.frozen 1
        have t_2 := hplr.frozen 2
        have t_3 := hplr.frozen 3
        have t_4 := hplr.frozen 4
        have t_5 := hplr.frozen 5
        have t_6 := hplr.frozen 6
        have t_7 := hplr.frozen 7
        have t_8 := hplr.frozen 8
        have t_9 := hplr.frozen 9
        have t_10 := hplr.frozen 10
        have t_11 := hplr.frozen 11
        have HR : Hid (∀ i, i < 12 → ∃ v, u26.cell? ⟨z, 0 + i, none⟩ = some v) := fun i hi => by
          rw [Nat.zero_add]
          match i, hi with
          | 0, _ => exact ⟨_, c0⟩
          | 1, _ => exact ⟨_, c1⟩
          | 2, _ => exact ⟨_, c2⟩
          | 3, _ => exact ⟨_, c3⟩
          | 4, _ => exact ⟨_, c4⟩
          | 5, _ => exact ⟨_, c5⟩
          | 6, _ => exact ⟨_, c6⟩
          | 7, _ => exact ⟨_, c7⟩
          | 8, _ => exact ⟨_, c8⟩
          | 9, _ => exact ⟨_, c9⟩
          | 10, _ => exact ⟨_, c10⟩
          | 11, _ => exact ⟨_, c11⟩
        refine upto_one (i := 9) (by kernel_rfl) rfl (fun K hK => ?_)
        go_simp
        obtain ⟨V, hV⟩ : ∃ V, V = ((((((((((((u26.setCell ⟨z, 0, none⟩ (.int .i64 R.name.kind)).setCell ⟨z, 1, none⟩ (.string R.name.name)).setCell ⟨z, 2, none⟩ (.int .i64 R.name.n)).setCell ⟨z, 3, none⟩ (.slice r0 R.name.scopes.length r1)).setCell ⟨z, 4, none⟩ (.slice r2 R.name.kids.length r3)).setCell ⟨z, 5, none⟩ (.int .i64 R.depth)).setCell ⟨z, 6, none⟩ (.int .i64 R.one.kind)).setCell ⟨z, 7, none⟩ (.string R.one.name)).setCell ⟨z, 8, none⟩ (.int .i64 R.one.n)).setCell ⟨z, 9, none⟩ (.slice r4 R.one.scopes.length r5)).setCell ⟨z, 10, none⟩ (.slice r6 R.one.kids.length r7)).setCell ⟨z, 11, none⟩ (.slice r8 R.many.length r9)) := ⟨_, rfl⟩
        have E : V = sets u26 z 0 [.int .i64 R.name.kind, .string R.name.name, .int .i64 R.name.n, .slice r0 R.name.scopes.length r1, .slice r2 R.name.kids.length r3, .int .i64 R.depth, .int .i64 R.one.kind, .string R.one.name, .int .i64 R.one.n, .slice r4 R.one.scopes.length r5, .slice r6 R.one.kids.length r7, .slice r8 R.many.length r9] := by rw [hV]; rfl
        have hin := sets_in z [Value.int .i64 R.name.kind, Value.string R.name.name, Value.int .i64 R.name.n, Value.slice r0 R.name.scopes.length r1, Value.slice r2 R.name.kids.length r3, Value.int .i64 R.depth, Value.int .i64 R.one.kind, Value.string R.one.name, Value.int .i64 R.one.n, Value.slice r4 R.one.scopes.length r5, Value.slice r6 R.one.kids.length r7, Value.slice r8 R.many.length r9] u26 0 HR.out
        rw [← E] at hin
        have hbx : HBox V z ⟨R, r0, r1, r2, r3, r4, r5, r6, r7, r8, r9⟩ := ⟨by have := hin 0 (by simp); simpa using this, by have := hin 1 (by simp); simpa using this, by have := hin 2 (by simp); simpa using this, by have := hin 3 (by simp); simpa using this, by have := hin 4 (by simp); simpa using this, by have := hin 5 (by simp); simpa using this, by have := hin 6 (by simp); simpa using this, by have := hin 7 (by simp); simpa using this, by have := hin 8 (by simp); simpa using this, by have := hin 9 (by simp); simpa using this, by have := hin 10 (by simp); simpa using this, by have := hin 11 (by simp); simpa using this⟩
        have hzV : V.heap.size = u26.heap.size := by rw [E, sets_size]
        have hBV : Below w16.heap.size w16 V := by rw [E]; exact sets_below (by omega) _ _ hB
        have hrV : InH (fun k => k < V.heap.size ∧ k ≠ z) V R (.agg #[.int .i64 R.name.kind, .string R.name.name, .int .i64 R.name.n, .slice r0 R.name.scopes.length r1, .slice r2 R.name.kids.length r3, .int .i64 R.depth, .int .i64 R.one.kind, .string R.one.name, .int .i64 R.one.n, .slice r4 R.one.scopes.length r5, .slice r6 R.one.kids.length r7, .slice r8 R.many.length r9]) := by rw [hzV, E]; exact InH.later (fun k hk => sets_block _ _ _ _ hk.2) _ _ hr
        have hXV : FormBox V w.heap.size f sa scap fa fcap := HX_19.out.later hBV
        rw [← hV]
        clear hV E hin
        refine hK.out _ _ (.inr hXV) ?_
        clear hK K
        refine upto_one (i := 10) (by kernel_rfl) rfl (fun K hK => ?_)
        go_simp
        refine hK.out _ _ (.inr hXV) ?_
        clear hK K
        refine upto_done (by kernel_rfl) ?_ _
        exact HCONT.out z xa xb ya yb yc yd r0 r1 r2 r3 r4 r5 r6 r7 r8 r9 V ⟨hBV, by omega, by omega, hbx, hrV⟩
    case h2 =>
      rintro z xa xb ya yb yc yd r0 r1 r2 r3 r4 r5 r6 r7 r8 r9 w17 ⟨hb, hz1, hz2, hbx, hr⟩
      have hs17 : w16.heap.size ≤ w17.heap.size := hb.size
      have HX_20 := Lib.hid (HX_19.out.later hb)
      have HB_20 := Lib.hid (HB_19.out.trans (hb.mono (by omega)))
      have HW_17 := Lib.hid (InH.later (Same.of_below hb (fun k (hk : k < w3.heap.size) => by omega)) _ _ HW_16.out)
      have HWB_17 := Lib.hid (HWB_16.out.later hb)
      have HGB_12 := Lib.hid (HGB_11.out.later hb)
      have HG2_2 := Lib.hid (OwnH.later _ _ _ (SameOn.of_below hb (fun c hm => by have h := HGN.out.2 c hm; omega)) HG2_1.out)
      clear HX_19 HB_19 HW_16 HWB_16 HGB_11 HG2_1
      have hr' := InH.mono (ψ := fun k => k < w17.heap.size) (fun k hk => hk.1) _ _ hr
      have HH := Lib.hid hr'
      have HHB := Lib.hid hbx
      clear hr' hr hb hz1 hz2 hbx
      obtain ⟨a0, a1, a2, a3, a4, a5, a6, a7, a8, a9, a10, a11⟩ := HHB.out
      obtain ⟨b0, b1, b2, b3, b4, b5, b6, b7, b8, b9, b10, b11⟩ := HWB_17.out
      go_wp2_with fail
      refine (eqHit_any w17.heap.size R _ _ w17 (Nat.le_refl _) HH.out (InH.mono (fun k (hk : k < w3.heap.size) => by show k < w17.heap.size; omega) _ _ HW_17.out)).mono ?_
      rintro e w18 ⟨rfl, hb⟩
      have hs18 : w17.heap.size ≤ w18.heap.size := hb.size
      clear a0 a1 a2 a3 a4 a5 a6 a7 a8 a9 a10 a11
      clear b0 b1 b2 b3 b4 b5 b6 b7 b8 b9 b10 b11
      have HX_21 := Lib.hid (HX_20.out.later hb)
      have HB_21 := Lib.hid (HB_20.out.trans (hb.mono (by omega)))
      have HW_18 := Lib.hid (InH.later (Same.of_below hb (fun k (hk : k < w3.heap.size) => by omega)) _ _ HW_17.out)
      have HWB_18 := Lib.hid (HWB_17.out.later hb)
      have HGB_13 := Lib.hid (HGB_12.out.later hb)
      have HG2_3 := Lib.hid (OwnH.later _ _ _ (SameOn.of_below hb (fun c hm => by have h := HGN.out.2 c hm; omega)) HG2_2.out)
      clear HX_20 HB_20 HW_17 HWB_17 HGB_12 HG2_2
      clear hb HH
      obtain ⟨a0, a1, a2, a3, a4, a5, a6, a7, a8, a9, a10, a11⟩ := HGB_13.out
      go_wp2_with fail
      refine (heldHit_any w6.heap.size R _ 1 w18 (by omega) (OwnH.inH (φ := (· < w6.heap.size)) _ _ bg (fun c hm => (HGN.out.2 c hm).2) HG2_3.out) (by omega) (by have := HRM.out; omega)).mono ?_
      rintro e w19 ⟨rfl, hb⟩
      have hs19 : w18.heap.size ≤ w19.heap.size := hb.size
      clear a0 a1 a2 a3 a4 a5 a6 a7 a8 a9 a10 a11
      have HX_22 := Lib.hid (HX_21.out.later hb)
      have HB_22 := Lib.hid (HB_21.out.trans (hb.mono (by omega)))
      have HW_19 := Lib.hid (InH.later (Same.of_below hb (fun k (hk : k < w3.heap.size) => by omega)) _ _ HW_18.out)
      have HWB_19 := Lib.hid (HWB_18.out.later hb)
      have HGB_14 := Lib.hid (HGB_13.out.later hb)
      have HG2_4 := Lib.hid (OwnH.later _ _ _ (SameOn.of_below hb (fun c hm => by have h := HGN.out.2 c hm; omega)) HG2_3.out)
      clear HX_21 HB_21 HW_18 HWB_18 HGB_13 HG2_3
      clear hb
      go_wp2_with fail
      go_ret
      exact ⟨rfl, HB_22.out⟩
theorem own : ownKnob Try.prog.godebug = none := by kernel_rfl
theorem laidOut : laidOutB Try.prog = true := by kernel_rfl
set_option maxRecDepth 100000 in
theorem lifted (os : Os) (started : os.Started) (H : Type) (enc : TypeId × Value → H) :
    ReturnsInHanded {} Try.checked os 4 .any (Rows.fnExactFindHitSpec.pre6 enc Try.prog Try.f4 Rows.fnExactFindHitRow.domain false) (Rows.fnExactFindHitSpec.post enc Try.prog Try.f4 false true false false) := by
  refine returnsInHanded_of_change (C := Try.checked) own started (by kernel_rfl) Try.func4
    (ChangeSpec.witness6 (enc := enc) (C := Try.checked) false ⟨#[], #[.slice none 0 0, .agg #[.int .i64 0, .string ByteArray.empty, .int .i64 0, .slice none 0 0, .slice none 0 0]], []⟩ 12 (by kernel_rfl) (by kernel_rfl) (by kernel_rfl) (by kernel_rfl)) ?_
  intro W base args ds gs before hval0 hW hcnd _
  have hval : ∀ (j : Nat) t v, Try.f4.params[j]? = some t → args[j]? = some v → Value.okWide Try.prog W .any base t v := hval0
  have hW' := hW
  obtain ⟨p, q, hA0, hV, rfl, hfz, hnd⟩ := hW
  have hA : DataW.TrodAll enc Try.prog W 0 (fun _ => true) true Try.f4.params.toList args.toList ds p := hA0
  rw [Try.params4] at hA hval
  obtain ⟨v0, vs0, d0, ds0, p0, q0, hargs, rfl, rfl, h0, r0⟩ := trodAll_cons hA
  obtain ⟨v1, vs1, d1, ds1, p1, q1, rfl, rfl, rfl, h1, r1⟩ := trodAll_cons r0
  obtain ⟨rfl, rfl, rfl⟩ := trodAll_nil r1
  obtain rfl : args = #[v0, v1] := by cases args; simp_all
  obtain ⟨rfl, rfl⟩ := trodVars_none hV
  have k0 := h0
  have lt0 : ∀ x ∈ p0, x.block < W.heap.size := by obtain ⟨m, hm⟩ := k0; exact DataW.trod_lt m _ _ _ hm
  obtain ⟨f0, i0⟩ := open_hits_arg (hval 0 22 v0 rfl rfl) h0
  have k1 := h1
  have lt1 : ∀ x ∈ p1, x.block < W.heap.size := by obtain ⟨m, hm⟩ := k1; exact DataW.trod_lt m _ _ _ hm
  obtain ⟨f1, i1⟩ := open_form_arg (hval 1 32 v1 rfl rfl) h1
  clear hA0 hval0
  try simp only [List.append_nil] at hW'
  refine (walk W f0 v0 i0 f1 v1 i1).mono fun e W' ⟨he, bel⟩ => ?_
  subst he
  exact ⟨_, rfl, _, _, _, [], _, [], hW', trodAll_mk1 (shut_bool Try.underlying4 _), (trodAll_cons_mk (Below.trod laidOut (by kernel_rfl) (of_decide_eq_true (by kernel_rfl)) k0 bel lt0) (trodAll_cons_mk (Below.trod laidOut (by kernel_rfl) (of_decide_eq_true (by kernel_rfl)) k1 bel lt1) trodAll_mk0)), rfl, bel.frame _, fun h => by cases h⟩
theorem over_named : Try.pinned.checked.prog.funcNamed Rows.fnExactFindHitRow.func = some 4 := by kernel_rfl
theorem c_inPlace : (Rows.fnExactFindHitRow.inPlace == Try.pinned.checked.prog.inPlace 4) = true := by kernel_rfl
theorem c_unfollowed : (Rows.fnExactFindHitRow.unfollowed == Try.pinned.checked.prog.unfollowed 4) = true := by kernel_rfl
theorem c_recurses : (Rows.fnExactFindHitRow.recurses == Try.pinned.checked.prog.recurses 4) = true := by kernel_rfl
theorem c_named : (Rows.fnExactFindHitRow.named == Try.pinned.checked.prog.varsNamed 4) = true := by kernel_rfl
theorem over_closed : joinedFacts Try.pinned.checked.prog 4 Try.f4 Rows.fnExactFindHitSpec Rows.fnExactFindHitRow = true := by
  unfold joinedFacts
  exact Facts.band (Facts.band (Facts.band (Facts.band (Facts.band (Facts.band (Facts.band (Facts.band (Facts.band (Facts.band (Facts.band (Facts.band (Facts.band (Facts.band (Facts.band (Facts.band (Facts.band (Facts.band (Facts.band (Facts.band (Facts.band (Facts.band (Facts.band (Facts.band (Facts.band (Facts.band (Facts.band (Facts.band (Facts.band (Facts.band (Facts.band (by kernel_rfl) Facts.laid) Facts.rowed) (by kernel_rfl)) (by kernel_rfl)) (by kernel_rfl)) Facts.stops) (by kernel_rfl)) Facts.knobs) c_inPlace) c_unfollowed) c_recurses) c_named) (by kernel_rfl)) (by kernel_rfl)) (by kernel_rfl)) (by kernel_rfl)) (by kernel_rfl)) (by kernel_rfl)) (by kernel_rfl)) (by kernel_rfl)) (by kernel_rfl)) (by rw [Facts.plain]; kernel_rfl)) (by kernel_rfl)) Facts.heard) Facts.enter) (by rw [Facts.lifts]; kernel_rfl)) (by rw [Facts.made]; kernel_rfl)) (by kernel_rfl)) (by kernel_rfl)) (by kernel_rfl)) (by kernel_rfl)
theorem over_inst : Func.isInstance Try.pinned.checked.prog Try.f4 Rows.fnExactFindHitRow.origin Rows.fnExactFindHitRow.targs := of_decide_eq_true (by kernel_rfl)
theorem over_wrap : Func.isWrapper Try.pinned.checked.prog Try.f4 Rows.fnExactFindHitRow.wrapper Rows.fnExactFindHitRow.mainSum := (by unfold Func.isWrapper; first | (rw [if_pos (by decide +kernel)]; kernel_rfl) | (rw [if_neg (by decide +kernel)]; exact ⟨rfl, rfl⟩))
theorem over : Rows.fnExactFindHitRow.holds Try.pinned (OpenSpec.ofChange Rows.fnExactFindHitSpec) :=
  OpenClaim.holds_of_wide 4 Try.f4 rfl rfl rfl rfl rfl rfl rfl ⟨rfl, rfl, rfl, rfl, rfl⟩ rfl rfl rfl rfl rfl over_named Try.func4 over_closed over_inst over_wrap
    (fun os started H enc _ => lifted os started H enc)
theorem proved : Rows.FnExactFindHitSaid := over
end Go.Proofs.Ytkfolefeehggcaa.exFindHit
