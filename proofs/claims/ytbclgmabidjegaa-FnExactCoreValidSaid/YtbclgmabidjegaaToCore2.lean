/- The contract of the copy of a core program. -/
import Derived.Test.YtbclgmabidjegaaToCore
namespace Go.Proofs.Ytbclgmabidjegaa
open Go.RowKit
set_option linter.unusedVariables false
set_option maxRecDepth 100000 in
set_option maxHeartbeats 4000000 in
theorem toCore_any (B : Nat) (f : Ck) : ToSaidC B f := by
  induction f using Ck.ind with
  | h k id nm n ids d ks ih =>
    intro v w hB hv hsz
    have hsz1 : nm.size + ids.length + d.sz + szCs ks ≤ 1048576 := by have := hsz; unfold Ck.sz at this; exact this
    unfold InC at hv
    obtain ⟨i1, j1, s1, t1, k1, l1, a, cap, rfl, hk, hi, hn, hnm, hr, hd, hcap, hmax, hks⟩ := hv
    have HR := Lib.hid hr
    have HD := Lib.hid hd
    have HKK := Lib.hid hks
    have HKS := Lib.hid (toCoreS_of B ks ih a cap)
    clear hr hd hks ih hsz
    go_enter Try.func15, Try.ntmps15
    go_wp2_with fail
    refine (toIntS_any (· < B) ids _ _ (fun k hk => by simp; omega) (HR.out.later (same_below ((((Below.refl B w).alloc hB _).alloc (by simp; omega) _).alloc (by simp; omega) _))) (by omega)).mono ?_
    rintro e w1 ⟨cap1, a1, rfl, ⟨b1, ho1, hn1, hp1⟩, hb1⟩
    have hs1 : w.heap.size + 3 ≤ w1.heap.size := by have := hb1.size; simpa using this
    have cA5 : w1.cell? ⟨w.heap.size, 5, none⟩ = some (.int .i64 d.kind) := (hb1.cell (p := ⟨w.heap.size, 5, none⟩) (by simp; omega)).trans (a3_cell0 _ _ _ _ _ _)
    have cA6 : w1.cell? ⟨w.heap.size, 6, none⟩ = some (.string d.name) := (hb1.cell (p := ⟨w.heap.size, 6, none⟩) (by simp; omega)).trans (a3_cell0 _ _ _ _ _ _)
    have cA7 : w1.cell? ⟨w.heap.size, 7, none⟩ = some (.int .i64 d.n) := (hb1.cell (p := ⟨w.heap.size, 7, none⟩) (by simp; omega)).trans (a3_cell0 _ _ _ _ _ _)
    have cA8 : w1.cell? ⟨w.heap.size, 8, none⟩ = some (.slice s1 d.scopes.length t1) := (hb1.cell (p := ⟨w.heap.size, 8, none⟩) (by simp; omega)).trans (a3_cell0 _ _ _ _ _ _)
    have cA9 : w1.cell? ⟨w.heap.size, 9, none⟩ = some (.slice k1 d.kids.length l1) := (hb1.cell (p := ⟨w.heap.size, 9, none⟩) (by simp; omega)).trans (a3_cell0 _ _ _ _ _ _)
    have cA10 : w1.cell? ⟨w.heap.size, 10, none⟩ = some (.slice a ks.length cap) := (hb1.cell (p := ⟨w.heap.size, 10, none⟩) (by simp; omega)).trans (a3_cell0 _ _ _ _ _ _)
    have hR : ∀ i, i < 11 → ∃ v, w1.cell? ⟨w.heap.size + 1, i, none⟩ = some v := fun i hi => by
      rw [hb1.cell (p := ⟨w.heap.size + 1, i, none⟩) (by simp), a3_cell1]; exact ⟨_, Array.getElem?_eq_getElem (by simpa using hi)⟩
    have hRf : ∀ i, w1.frozen? ⟨w.heap.size + 1, i, none⟩ = false := fun i => (hb1.frozen (p := ⟨w.heap.size + 1, i, none⟩) (by simp)).trans (a3_free1 _ _ _ _ _ _)
    have hO : ∀ i, i < 11 → ∃ v, w1.cell? ⟨w.heap.size + 1 + 1, i, none⟩ = some v := fun i hi => by
      rw [hb1.cell (p := ⟨w.heap.size + 1 + 1, i, none⟩) (by simp), a3_cell2]; exact ⟨_, Array.getElem?_eq_getElem (by simpa using hi)⟩
    have hOf : ∀ i, w1.frozen? ⟨w.heap.size + 1 + 1, i, none⟩ = false := fun i => (hb1.frozen (p := ⟨w.heap.size + 1 + 1, i, none⟩) (by simp)).trans (a3_free2 _ _ _ _ _ _)
    have s20 : w1.cell? ⟨w.heap.size + 1 + 1, 0, none⟩ = some (.int .i64 k) := (hb1.cell (p := ⟨w.heap.size + 1 + 1, 0, none⟩) (by simp)).trans (a3_cell2 _ _ _ _ _ _)
    have s21 : w1.cell? ⟨w.heap.size + 1 + 1, 1, none⟩ = some (.int .i64 id) := (hb1.cell (p := ⟨w.heap.size + 1 + 1, 1, none⟩) (by simp)).trans (a3_cell2 _ _ _ _ _ _)
    have s22 : w1.cell? ⟨w.heap.size + 1 + 1, 2, none⟩ = some (.string nm) := (hb1.cell (p := ⟨w.heap.size + 1 + 1, 2, none⟩) (by simp)).trans (a3_cell2 _ _ _ _ _ _)
    have s23 : w1.cell? ⟨w.heap.size + 1 + 1, 3, none⟩ = some (.int .i64 n) := (hb1.cell (p := ⟨w.heap.size + 1 + 1, 3, none⟩) (by simp)).trans (a3_cell2 _ _ _ _ _ _)
    have HN1 : Hid (NewBs b1 (w.heap.size + 3) w1.heap.size) := hn1.mono (by simp) (Nat.le_refl _)
    have HB1 : Hid (Below w.heap.size w w1) := ((((Below.refl _ w).alloc (Nat.le_refl _) _).alloc (by simp) _).alloc (by simp; omega) _).trans (hb1.mono (by simp; omega))
    have HO1 := Lib.hid ho1
    have HP1 := Lib.hid hp1
    have HR1 := Lib.hid hR
    have HRF1 := Lib.hid hRf
    have HO1C := Lib.hid hO
    have HOF1 := Lib.hid hOf
    have HSC := Lib.hid (And.intro s20 (And.intro s21 (And.intro s22 s23)))
    obtain ⟨o4, e4⟩ := hO 4 (by omega)
    have f4 := hOf 4
    obtain ⟨W1, hW1⟩ : ∃ W1, W1 = (w1.setCell ⟨w.heap.size + 1 + 1, 4, none⟩ (.slice a1 ids.length cap1)) := ⟨_, rfl⟩
    have E1 : Hid (W1 = sets w1 (w.heap.size + 1 + 1) 4 [.slice a1 ids.length cap1]) := by unfold Hid; rw [hW1]; rfl
    have hz1 : W1.heap.size = w1.heap.size := by rw [E1.out, sets_size]
    have HBW1 : Hid (Below w.heap.size w W1) := by unfold Hid; rw [E1.out]; exact sets_below (by omega) _ _ HB1.out
    have HW1 := Lib.hid hW1
    have HA10 := Lib.hid cA10
    clear ho1 hn1 hp1 hb1 hR hRf hO hOf hW1 cA10 s20 s21 s22 s23
    go_wp2_with fail
    rw [← HW1.out]
    refine (toForm_any B d _ W1 (by omega) (InV.later (same_below (HBW1.out.mono hB)) _ _ HD.out) (by omega)).mono ?_
    rintro e w2 ⟨ub, vb, yb, zb, b2, rfl, ho2, hn2, hp2, hb2⟩
    have hs2 := hb2.size
    have HBW2 : Hid (Below w.heap.size w w2) := HBW1.out.trans (hb2.mono (by omega))
    rw [hz1] at hn2
    rw [E1.out] at hb2
    have cA10 := (sets_later hb2 (c := w.heap.size) (i := 10) (by omega) (by omega)).trans HA10.out
    have hR : ∀ i, i < 11 → ∃ v, w2.cell? ⟨w.heap.size + 1, i, none⟩ = some v := fun i hi => by rw [sets_later hb2 (by omega) (by omega)]; exact HR1.out i hi
    have hRf : ∀ i, w2.frozen? ⟨w.heap.size + 1, i, none⟩ = false := fun i => by rw [sets_later_frozen hb2 (by omega)]; exact HRF1.out i
    have hO : ∀ i, 5 ≤ i → i < 11 → ∃ v, w2.cell? ⟨w.heap.size + 1 + 1, i, none⟩ = some v := fun i h6 hi => by rw [sets_later_out hb2 (by omega) (by simp; omega)]; exact HO1C.out i hi
    have hOf : ∀ i, w2.frozen? ⟨w.heap.size + 1 + 1, i, none⟩ = false := fun i => by rw [sets_later_frozen hb2 (by omega)]; exact HOF1.out i
    have hOV := sets_later_in hb2 (by omega) (fun j hj => HO1C.out (4 + j) (by simp at hj; omega))
    have HOV := Lib.hid hOV
    have s20 : w2.cell? ⟨w.heap.size + 1 + 1, 0, none⟩ = some (.int .i64 k) := (sets_later_out hb2 (by omega) (by simp)).trans HSC.out.1
    have s21 : w2.cell? ⟨w.heap.size + 1 + 1, 1, none⟩ = some (.int .i64 id) := (sets_later_out hb2 (by omega) (by simp)).trans HSC.out.2.1
    have s22 : w2.cell? ⟨w.heap.size + 1 + 1, 2, none⟩ = some (.string nm) := (sets_later_out hb2 (by omega) (by simp)).trans HSC.out.2.2.1
    have s23 : w2.cell? ⟨w.heap.size + 1 + 1, 3, none⟩ = some (.int .i64 n) := (sets_later_out hb2 (by omega) (by simp)).trans HSC.out.2.2.2
    have HSC2 := Lib.hid (And.intro s20 (And.intro s21 (And.intro s22 s23)))
    have HO1B := Lib.hid (HO1.out.later (sets_later_same hb2 (fun c hc => by have := HN1.out.2 c hc; omega)))
    have HP1B := Lib.hid (HP1.out.same (sets_later_same hb2 (fun c hc => by have := HN1.out.2 c hc; omega)))
    have HN2 := Lib.hid hn2
    have HO2 := Lib.hid ho2
    have HP2 := Lib.hid hp2
    have HR2 := Lib.hid hR
    have HRF2 := Lib.hid hRf
    have HO2C := Lib.hid hO
    have HOF2 := Lib.hid hOf
    clear e4 f4 cA5 cA6 cA7 cA8 cA9 s20 s21 s22 s23
    obtain ⟨o5, e5⟩ := hO 5 (by omega) (by omega)
    have f5 := hOf 5
    obtain ⟨o6, e6⟩ := hO 6 (by omega) (by omega)
    have f6 := hOf 6
    obtain ⟨o7, e7⟩ := hO 7 (by omega) (by omega)
    have f7 := hOf 7
    obtain ⟨o8, e8⟩ := hO 8 (by omega) (by omega)
    have f8 := hOf 8
    obtain ⟨o9, e9⟩ := hO 9 (by omega) (by omega)
    have f9 := hOf 9
    obtain ⟨W2, hW2⟩ : ∃ W2, W2 = (((((w2.setCell ⟨w.heap.size + 1 + 1, 5, none⟩ (.int .i64 d.kind)).setCell ⟨w.heap.size + 1 + 1, 6, none⟩ (.string d.name)).setCell ⟨w.heap.size + 1 + 1, 7, none⟩ (.int .i64 d.n)).setCell ⟨w.heap.size + 1 + 1, 8, none⟩ (.slice ub d.scopes.length vb)).setCell ⟨w.heap.size + 1 + 1, 9, none⟩ (.slice yb d.kids.length zb)) := ⟨_, rfl⟩
    have E2 : Hid (W2 = sets w2 (w.heap.size + 1 + 1) 5 [.int .i64 d.kind, .string d.name, .int .i64 d.n, .slice ub d.scopes.length vb, .slice yb d.kids.length zb]) := by unfold Hid; rw [hW2]; rfl
    have hz2 : W2.heap.size = w2.heap.size := by rw [E2.out, sets_size]
    have HBV2 : Hid (Below w.heap.size w W2) := by unfold Hid; rw [E2.out]; exact sets_below (by omega) _ _ HBW2.out
    have HW2 := Lib.hid hW2
    clear ho2 hn2 hp2 hb2 hR hRf hO hOf hOV hW2
    go_wp2_with fail
    rw [← HW2.out]
    refine (HKS.out W2 (by omega) hcap hmax ?_ (by omega)).mono ?_
    · rcases HKK.out with h0 | ⟨kb, off, h0, hkb, hrow⟩
      · exact .inl h0
      · exact .inr ⟨kb, off, h0, hkb, hrow.later (same_below (HBV2.out.mono hB)) kb hkb⟩
    rintro e w3 ⟨a2, cap2, rfl, hc1, hc2, ⟨b3, ho3, hn3, hp3⟩, hb3⟩
    have hs3 := hb3.size
    have HBW3 : Hid (Below w.heap.size w w3) := HBV2.out.trans (hb3.mono (by omega))
    rw [hz2] at hn3
    rw [E2.out] at hb3
    have hR : ∀ i, i < 11 → ∃ v, w3.cell? ⟨w.heap.size + 1, i, none⟩ = some v := fun i hi => by rw [sets_later hb3 (by omega) (by omega)]; exact HR2.out i hi
    have hRf : ∀ i, w3.frozen? ⟨w.heap.size + 1, i, none⟩ = false := fun i => by rw [sets_later_frozen hb3 (by omega)]; exact HRF2.out i
    have f10 : w3.frozen? ⟨w.heap.size + 1 + 1, 10, none⟩ = false := by rw [sets_later_frozen hb3 (by omega)]; exact HOF2.out 10
    obtain ⟨o10, e10⟩ : ∃ v, w3.cell? ⟨w.heap.size + 1 + 1, 10, none⟩ = some v := by rw [sets_later_out hb3 (by omega) (by simp)]; exact HO2C.out 10 (by omega) (by omega)
    have hOV2 := sets_later_in hb3 (by omega) (fun j hj => by simp at hj; exact HO2C.out (5 + j) (by omega) (by omega))
    have z0 : w3.cell? ⟨w.heap.size + 1 + 1, 0, none⟩ = some (.int .i64 k) := (sets_later_out hb3 (by omega) (by simp)).trans HSC2.out.1
    have z1 : w3.cell? ⟨w.heap.size + 1 + 1, 1, none⟩ = some (.int .i64 id) := (sets_later_out hb3 (by omega) (by simp)).trans HSC2.out.2.1
    have z2 : w3.cell? ⟨w.heap.size + 1 + 1, 2, none⟩ = some (.string nm) := (sets_later_out hb3 (by omega) (by simp)).trans HSC2.out.2.2.1
    have z3 : w3.cell? ⟨w.heap.size + 1 + 1, 3, none⟩ = some (.int .i64 n) := (sets_later_out hb3 (by omega) (by simp)).trans HSC2.out.2.2.2
    have z4 : w3.cell? ⟨w.heap.size + 1 + 1, 4, none⟩ = some (.slice a1 ids.length cap1) := (sets_later_out hb3 (by omega) (by simp)).trans (HOV.out 0 (by simp))
    have z5 : w3.cell? ⟨w.heap.size + 1 + 1, 5, none⟩ = some (.int .i64 d.kind) := hOV2 0 (by simp)
    have z6 : w3.cell? ⟨w.heap.size + 1 + 1, 6, none⟩ = some (.string d.name) := hOV2 1 (by simp)
    have z7 : w3.cell? ⟨w.heap.size + 1 + 1, 7, none⟩ = some (.int .i64 d.n) := hOV2 2 (by simp)
    have z8 : w3.cell? ⟨w.heap.size + 1 + 1, 8, none⟩ = some (.slice ub d.scopes.length vb) := hOV2 3 (by simp)
    have z9 : w3.cell? ⟨w.heap.size + 1 + 1, 9, none⟩ = some (.slice yb d.kids.length zb) := hOV2 4 (by simp)
    have HO1D := Lib.hid (HO1B.out.later (sets_later_same hb3 (fun c hc => by have := HN1.out.2 c hc; omega)))
    have HP1D := Lib.hid (HP1B.out.same (sets_later_same hb3 (fun c hc => by have := HN1.out.2 c hc; omega)))
    have HO2D := Lib.hid (HO2.out.later _ _ _ (sets_later_same hb3 (fun c hc => by have := HN2.out.2 c hc; omega)))
    have HP2D := Lib.hid (HP2.out.same (sets_later_same hb3 (fun c hc => by have := HN2.out.2 c hc; omega)))
    have HN3 := Lib.hid hn3
    have HO3 := Lib.hid ho3
    have HP3 := Lib.hid hp3
    have HR3 := Lib.hid hR
    clear e5 f5 e6 f6 e7 f7 e8 f8 e9 f9 cA10
    obtain ⟨r0, x0⟩ := hR 0 (by omega)
    have y0 := hRf 0
    obtain ⟨r1, x1⟩ := hR 1 (by omega)
    have y1 := hRf 1
    obtain ⟨r2, x2⟩ := hR 2 (by omega)
    have y2 := hRf 2
    obtain ⟨r3, x3⟩ := hR 3 (by omega)
    have y3 := hRf 3
    obtain ⟨r4, x4⟩ := hR 4 (by omega)
    have y4 := hRf 4
    obtain ⟨r5, x5⟩ := hR 5 (by omega)
    have y5 := hRf 5
    obtain ⟨r6, x6⟩ := hR 6 (by omega)
    have y6 := hRf 6
    obtain ⟨r7, x7⟩ := hR 7 (by omega)
    have y7 := hRf 7
    obtain ⟨r8, x8⟩ := hR 8 (by omega)
    have y8 := hRf 8
    obtain ⟨r9, x9⟩ := hR 9 (by omega)
    have y9 := hRf 9
    obtain ⟨r10, x10⟩ := hR 10 (by omega)
    have y10 := hRf 10
    obtain ⟨W4, hW4⟩ : ∃ W4, W4 = ((((((((((((w3.setCell ⟨w.heap.size + 1 + 1, 10, none⟩ (.slice a2 ks.length cap2)).setCell ⟨w.heap.size + 1, 0, none⟩ (.int .i64 k)).setCell ⟨w.heap.size + 1, 1, none⟩ (.int .i64 id)).setCell ⟨w.heap.size + 1, 2, none⟩ (.string nm)).setCell ⟨w.heap.size + 1, 3, none⟩ (.int .i64 n)).setCell ⟨w.heap.size + 1, 4, none⟩ (.slice a1 ids.length cap1)).setCell ⟨w.heap.size + 1, 5, none⟩ (.int .i64 d.kind)).setCell ⟨w.heap.size + 1, 6, none⟩ (.string d.name)).setCell ⟨w.heap.size + 1, 7, none⟩ (.int .i64 d.n)).setCell ⟨w.heap.size + 1, 8, none⟩ (.slice ub d.scopes.length vb)).setCell ⟨w.heap.size + 1, 9, none⟩ (.slice yb d.kids.length zb)).setCell ⟨w.heap.size + 1, 10, none⟩ (.slice a2 ks.length cap2)) := ⟨_, rfl⟩
    have E4 : Hid (W4 = sets (w3.setCell ⟨w.heap.size + 1 + 1, 10, none⟩ (.slice a2 ks.length cap2)) (w.heap.size + 1) 0 [.int .i64 k, .int .i64 id, .string nm, .int .i64 n, .slice a1 ids.length cap1, .int .i64 d.kind, .string d.name, .int .i64 d.n, .slice ub d.scopes.length vb, .slice yb d.kids.length zb, .slice a2 ks.length cap2]) := by unfold Hid; rw [hW4]; rfl
    have hq := sets_in (w.heap.size + 1) [.int .i64 k, .int .i64 id, .string nm, .int .i64 n, .slice a1 ids.length cap1, .int .i64 d.kind, .string d.name, .int .i64 d.n, .slice ub d.scopes.length vb, .slice yb d.kids.length zb, .slice a2 ks.length cap2] (w3.setCell ⟨w.heap.size + 1 + 1, 10, none⟩ (.slice a2 ks.length cap2)) 0 (fun j hj => by
      rw [Nat.zero_add, World.cell?_setCell_other _ _ _ _ (by intro e; injection e with e1 _; omega)]
      exact HR3.out j (by simp at hj; omega))
    rw [← E4.out] at hq
    have q0 : W4.cell? ⟨w.heap.size + 1, 0, none⟩ = some (.int .i64 k) := hq 0 (by simp)
    have q1 : W4.cell? ⟨w.heap.size + 1, 1, none⟩ = some (.int .i64 id) := hq 1 (by simp)
    have q2 : W4.cell? ⟨w.heap.size + 1, 2, none⟩ = some (.string nm) := hq 2 (by simp)
    have q3 : W4.cell? ⟨w.heap.size + 1, 3, none⟩ = some (.int .i64 n) := hq 3 (by simp)
    have q4 : W4.cell? ⟨w.heap.size + 1, 4, none⟩ = some (.slice a1 ids.length cap1) := hq 4 (by simp)
    have q5 : W4.cell? ⟨w.heap.size + 1, 5, none⟩ = some (.int .i64 d.kind) := hq 5 (by simp)
    have q6 : W4.cell? ⟨w.heap.size + 1, 6, none⟩ = some (.string d.name) := hq 6 (by simp)
    have q7 : W4.cell? ⟨w.heap.size + 1, 7, none⟩ = some (.int .i64 d.n) := hq 7 (by simp)
    have q8 : W4.cell? ⟨w.heap.size + 1, 8, none⟩ = some (.slice ub d.scopes.length vb) := hq 8 (by simp)
    have q9 : W4.cell? ⟨w.heap.size + 1, 9, none⟩ = some (.slice yb d.kids.length zb) := hq 9 (by simp)
    have q10 : W4.cell? ⟨w.heap.size + 1, 10, none⟩ = some (.slice a2 ks.length cap2) := hq 10 (by simp)
    have HW4 := Lib.hid hW4
    clear hR hRf hq hW4 hb3 ho3 hn3 hp3 hOV2
    go_wp2_with fail
    rw [← HW4.out]
    refine bodyPost_ret (v := .agg #[.int .i64 k, .int .i64 id, .string nm, .int .i64 n, .slice a1 ids.length cap1, .int .i64 d.kind, .string d.name, .int .i64 d.n, .slice ub d.scopes.length vb, .slice yb d.kids.length zb, .slice a2 ks.length cap2]) (by simp [results, Try.results15, go_sem, q0, q1, q2, q3, q4, q5, q6, q7, q8, q9, q10]) rfl ?_
    have hF : ∀ c, c ≠ w.heap.size + 1 → c ≠ w.heap.size + 1 + 1 → W4.heap[c]? = w3.heap[c]? := fun c h1 h2 => by
      rw [E4.out, sets_block _ _ _ _ h1, Below.heap_setCell _ _ _ _ h2]
    have hn1 := HN1.out
    have hn2 := HN2.out
    have hn3 := HN3.out
    have g1 : SameOn b1 w3 W4 := fun c hc => by have := hn1.2 c hc; exact hF c (by omega) (by omega)
    have g2 : SameOn b2 w3 W4 := fun c hc => by have := hn2.2 c hc; exact hF c (by omega) (by omega)
    have g3 : SameOn b3 w3 W4 := fun c hc => by have := hn3.2 c hc; exact hF c (by omega) (by omega)
    have hz4 : W4.heap.size = w3.heap.size := by rw [E4.out, sets_size]; simp [World.setCell]
    refine ⟨a1, cap1, ub, vb, yb, zb, a2, cap2, b1 ++ b2 ++ b3, rfl, ?_, ?_, ((HP1D.out.same g1).append (HP2D.out.same g2)).append (HP3.out.same g3), ?_⟩
    · show OwnC W4 _ (.agg #[.int .i64 k, .int .i64 id, .string nm, .int .i64 n, .slice a1 ids.length cap1, .int .i64 d.kind, .string d.name, .int .i64 d.n, .slice ub d.scopes.length vb, .slice yb d.kids.length zb, .slice a2 ks.length cap2]) _
      unfold OwnC
      refine ⟨a1, cap1, ub, vb, yb, zb, a2, cap2, b1, b2, b3, rfl, hk, hi, hn, hnm, HO1D.out.later g1, HO2D.out.later _ _ _ g2, hc1, hc2, rfl, ?_⟩
      rcases HO3.out with h | ⟨b, off, bs3, h1, rfl, h3⟩
      · exact .inl h
      · exact .inr ⟨b, off, bs3, h1, rfl, RowOwnC.later b off ks bs3 g3 h3⟩
    · rw [hz4]
      exact ((hn1.append hn2 (by omega) (by omega)).append hn3 (by omega) (by omega)).mono (by omega) (Nat.le_refl _)
    · rw [E4.out]
      exact sets_below (by omega) _ _ (HBW3.out.setCell (p := ⟨w.heap.size + 1 + 1, 10, none⟩) (by simp; omega) _)
end Go.Proofs.Ytbclgmabidjegaa
