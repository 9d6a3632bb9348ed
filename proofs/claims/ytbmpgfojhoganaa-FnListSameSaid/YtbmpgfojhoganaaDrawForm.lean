/- The contract of the model's draw of a form. -/
import Derived.Test.YtbmpgfojhoganaaDraws
namespace Go.Proofs.Ytbmpgfojhoganaa
open Go.RowKit
set_option linter.unusedVariables false
set_option linter.unusedSimpArgs false
theorem pickS_four : ∀ d, d ≤ 4 → pickS d ≤ 282 ∧ cntS d ≤ 121
  | 0, _ => by decide
  | 1, _ => by decide
  | 2, _ => by decide
  | 3, _ => by decide
  | 4, _ => by decide
set_option maxRecDepth 100000 in
set_option maxHeartbeats 4000000 in
theorem l1Some_any (d : Nat) : ∀ (D B b p : Nat) (w : World), D = d → d ≤ 4 → Rd B w b p → p + pickS d ≤ 200000 →
    Calls Try.prog 55 #[.pointer (some ⟨b, 0, none⟩), .int .i64 (D : Int)] w (SomePost B b p (pickS d) (Slim (cntS d) 13 0) w) := by
  induction d with
  | zero =>
    intro D B b p w hD hd hr hp
    subst hD
    have hbw := hr.lt
    have hBb := hr.1
    have HRQ : Hid (Rd B (w.alloc (.cells #[.int .i64 0, .string { data := #[] }, .int .i64 0, .slice none 0 0, .slice none 0 0] 26)) b p) := hr.later (below_alloc w _)
    have HKQ : Hid (Kept b 1 2 w (w.alloc (.cells #[.int .i64 0, .string { data := #[] }, .int .i64 0, .slice none 0 0, .slice none 0 0] 26))) := Kept.of_below (below_alloc w _) hbw
    have HZZ : Hid ((w.alloc (.cells #[.int .i64 0, .string { data := #[] }, .int .i64 0, .slice none 0 0, .slice none 0 0] 26)).heap[w.heap.size]? = some (.cells #[.int .i64 0, .string { data := #[] }, .int .i64 0, .slice none 0 0, .slice none 0 0] 26 (0, 0))) := heap_alloc_new w _
    have hsQ : (w.alloc (.cells #[.int .i64 0, .string { data := #[] }, .int .i64 0, .slice none 0 0, .slice none 0 0] 26)).heap.size = w.heap.size + 1 := size_alloc' _ _
    have HSQ := Lib.hid hsQ
    clear hr hsQ
    go_enter Try.func55, Try.ntmps55
    go_wp2_with fail
    refine (pick_any b p 4 _ HRQ.out (by omega) (by omega) (by omega)).mono ?_
    rintro e w2 ⟨x, hx, rfl, hr2, hk2⟩
    have hs2 : w.heap.size + 1 ≤ w2.heap.size := by have h := hk2.size; first | omega | (simp at h; omega)
    have hzz2 := (hk2.block w.heap.size (by first | omega | simp) (by omega)).trans HZZ.out
    have HK2 : Hid (Kept b 1 2 w w2) := HKQ.out.trans hk2
    have HR2 := Lib.hid hr2
    have HZZ2 := Lib.hid hzz2
    clear hk2 hr2 hzz2
    by_cases hx0 : x = 0
    · subst hx0
      have hbA := below_alloc w2 (.cells ([0, 1, 2, 7, 42, 999].map (Value.int .i64)).toArray 3)
      have HBA := Lib.hid hbA
      have HROW := Lib.hid ((row_new w2 3 [0, 1, 2, 7, 42, 999] (by simp) (by decide)).mono (ψ := fun k => k < (w2.alloc (.cells ([0, 1, 2, 7, 42, 999].map (Value.int .i64)).toArray 3)).heap.size ∧ k ≠ b) (fun k (hk : k = w2.heap.size) => ⟨by rw [size_alloc']; omega, by omega⟩))
      clear hbA
      go_wp2_with fail
      refine (num_any b (p + 1) [0, 1, 2, 7, 42, 999] _ _ (HR2.out.later HBA.out) (by omega) HROW.out (by simp) (by simp)).mono ?_
      rintro e w3 ⟨y, hy, rfl, hr3, hk3⟩
      have hs3 : w2.heap.size + 1 ≤ w3.heap.size := by have := hk3.size; simpa using this
      have hzz3 := (hk3.block _ (by simp; omega) (by omega)).trans ((HBA.out.block _ (by omega)).trans HZZ2.out)
      obtain ⟨r0, r1, r2, r3, r4, t0, t1, t2, t3, t4⟩ := zeroFacts hzz3
      have hth := Lib.hid (zeroThere hzz3)
      have HK3 : Hid (Kept b 1 2 w w3) := (HK2.out.trans (Kept.of_below HBA.out (by omega))).trans hk3
      have HR3 := Lib.hid hr3
      have HY : Hid (0 ≤ y ∧ y ≤ 999) := by have h : ∀ y ∈ ([0, 1, 2, 7, 42, 999] : List Int), 0 ≤ y ∧ y ≤ 999 := by decide
                                            exact h y hy
      clear hzz3 hk3 hr3 hy
      go_wp2_with fail
      obtain ⟨z0, z1, z2, z3, z4⟩ := set5_in w3 w.heap.size 0 (.int .i64 2) (.string { data := #[] }) (.int .i64 y) (.slice none 0 0) (.slice none 0 0) hth.out
      unfold set5 at z0 z1 z2 z3 z4
      simp only [Nat.zero_add] at z0 z1 z2 z3 z4
      refine bodyPost_ret (v := .agg #[.int .i64 2, .string { data := #[] }, .int .i64 y, .slice none 0 0, .slice none 0 0]) (by simp [results, Try.results55, go_sem, z0, z1, z2, z3, z4]) rfl ?_
      refine ⟨.mk 2 ByteArray.empty y [] [], _, p + 2, rfl, inV_leaf _ _ _ _ _ (by omega) (by have := HY.out; omega) (by simp [maxLen]), Slim.leaf (by simp) (cntS_pos 0), by (show p + 2 ≤ p + pickS 0; simp [pickS]), ?_, ?_⟩
      · exact ((((HR3.out.setOther (by omega) (by omega)).setOther (by omega) (by omega)).setOther (by omega) (by omega)).setOther (by omega) (by omega)).setOther (by omega) (by omega)
      · exact ((((HK3.out.setNew (by omega) (by omega)).setNew (by omega) (by omega)).setNew (by omega) (by omega)).setNew (by omega) (by omega)).setNew (by omega) (by omega)
    · have hx1 : ((x : Int) == 0) = false := by rw [beq_eq_false_iff_ne]; omega
      clear hx0
      have HBA := Lib.hid (below_alloc w2 (.cells (someNames.map Value.string).toArray 9))
      have HCN : Hid (∀ i, (h : i < someNames.length) → (w2.alloc (.cells (someNames.map Value.string).toArray 9)).cell? ⟨w2.heap.size, 0 + i, none⟩ = some (.string someNames[i])) := fun i h => by
        rw [Nat.zero_add]
        exact (World.cell?_alloc_at _ _ _ _ rfl).trans (by simp [h])
      go_wp2_with fail
      refine (of_any b (p + 1) someNames w2.heap.size 0 8 _ (HR2.out.later HBA.out) (by omega) (by omega) HCN.out (by simp [someNames]) (by simp [someNames]) (by simp [someNames])).mono ?_
      rintro e w3 ⟨y, hy, rfl, hr3, hk3⟩
      have hs3 : w2.heap.size + 1 ≤ w3.heap.size := by have := hk3.size; simpa using this
      have hzz3 := (hk3.block _ (by simp; omega) (by omega)).trans ((HBA.out.block _ (by omega)).trans HZZ2.out)
      have HK3 : Hid (Kept b 1 2 w w3) := (HK2.out.trans (Kept.of_below HBA.out (by omega))).trans hk3
      have HR3 := Lib.hid hr3
      have HZZ3 := Lib.hid hzz3
      have HY := Lib.hid (some_size y hy)
      clear hzz3 hk3 hr3 hy
      go_wp2_with fail
      refine (l1Name_any y w3).mono ?_
      rintro e w4 ⟨rfl, hb4⟩
      have hs4 := hb4.size
      have hzz4 := (hb4.block _ (by omega)).trans HZZ3.out
      obtain ⟨r0, r1, r2, r3, r4, t0, t1, t2, t3, t4⟩ := zeroFacts hzz4
      have hth := Lib.hid (zeroThere hzz4)
      have HK4 : Hid (Kept b 1 2 w w4) := HK3.out.later hb4 (by omega)
      have HR4 := Lib.hid (HR3.out.later hb4)
      clear hzz4 hb4
      go_wp2_with fail
      obtain ⟨z0, z1, z2, z3, z4⟩ := set5_in w4 w.heap.size 0 (.int .i64 1) (.string y) (.int .i64 0) (.slice none 0 0) (.slice none 0 0) hth.out
      unfold set5 at z0 z1 z2 z3 z4
      simp only [Nat.zero_add] at z0 z1 z2 z3 z4
      refine bodyPost_ret (v := .agg #[.int .i64 1, .string y, .int .i64 0, .slice none 0 0, .slice none 0 0]) (by simp [results, Try.results55, go_sem, z0, z1, z2, z3, z4]) rfl ?_
      refine ⟨.mk 1 y 0 [] [], _, p + 2, rfl, inV_leaf _ _ _ _ _ (by omega) (by omega) (by have := HY.out; unfold maxLen; omega), Slim.leaf HY.out (cntS_pos 0), by (show p + 2 ≤ p + pickS 0; simp [pickS]), ?_, ?_⟩
      · exact ((((HR4.out.setOther (by omega) (by omega)).setOther (by omega) (by omega)).setOther (by omega) (by omega)).setOther (by omega) (by omega)).setOther (by omega) (by omega)
      · exact ((((HK4.out.setNew (by omega) (by omega)).setNew (by omega) (by omega)).setNew (by omega) (by omega)).setNew (by omega) (by omega)).setNew (by omega) (by omega)
  | succ d ih =>
    intro D B b p w hD hd hr hp
    have HIH := Lib.hid ih
    have HD := Lib.hid hD
    have hD0 : ((D : Int) == 0) = false := by rw [beq_eq_false_iff_ne]; omega
    have hD1 : (1 : Int) ≤ D := by omega
    have hD4 : D ≤ 4 := by omega
    have hd4 : d ≤ 4 := by omega
    have hbw := hr.lt
    have hBb := hr.1
    have HRA : Hid (Rd B (w.alloc (.cells #[.int .i64 0, .string { data := #[] }, .int .i64 0, .slice none 0 0, .slice none 0 0] 26)) b p) := hr.later (below_alloc w _)
    have HKA : Hid (Kept b 1 2 w (w.alloc (.cells #[.int .i64 0, .string { data := #[] }, .int .i64 0, .slice none 0 0, .slice none 0 0] 26))) := Kept.of_below (below_alloc w _) hbw
    have HZA : Hid ((w.alloc (.cells #[.int .i64 0, .string { data := #[] }, .int .i64 0, .slice none 0 0, .slice none 0 0] 26)).heap[w.heap.size]? = some (.cells #[.int .i64 0, .string { data := #[] }, .int .i64 0, .slice none 0 0, .slice none 0 0] 26 (0, 0))) := heap_alloc_new w _
    clear hr ih hD
    go_enter Try.func55, Try.ntmps55
    go_wp2_with fail
    refine (pick_any b p 3 _ HRA.out (by omega) (by omega) (by omega)).mono ?_
    rintro e wQ ⟨x0, hx0, rfl, hrQ, hkQ⟩
    have hsQ : w.heap.size + 1 ≤ wQ.heap.size := by have := hkQ.size; simpa using this
    have HKQ : Hid (Kept b 1 2 w wQ) := HKA.out.trans hkQ
    have HZZ : Hid (wQ.heap[w.heap.size]? = some (.cells #[.int .i64 0, .string { data := #[] }, .int .i64 0, .slice none 0 0, .slice none 0 0] 26 (0, 0))) := (hkQ.block _ (by simp) (by omega)).trans HZA.out
    have HRQ := Lib.hid hrQ
    clear hkQ hrQ
    by_cases h0 : x0 = 0
    · subst h0
      go_wp2_with fail
      refine (pick_any b (p + 1) 4 _ HRQ.out (by omega) (by omega) (by omega)).mono ?_
      rintro e w2 ⟨x, hx, rfl, hr2, hk2⟩
      have hs2 : w.heap.size + 1 ≤ w2.heap.size := by have h := hk2.size; first | omega | (simp at h; omega)
      have hzz2 := (hk2.block w.heap.size (by first | omega | simp) (by omega)).trans HZZ.out
      have HK2 : Hid (Kept b 1 2 w w2) := HKQ.out.trans hk2
      have HR2 := Lib.hid hr2
      have HZZ2 := Lib.hid hzz2
      clear hk2 hr2 hzz2
      by_cases hx0 : x = 0
      · subst hx0
        have hbA := below_alloc w2 (.cells ([0, 1, 2, 7, 42, 999].map (Value.int .i64)).toArray 3)
        have HBA := Lib.hid hbA
        have HROW := Lib.hid ((row_new w2 3 [0, 1, 2, 7, 42, 999] (by simp) (by decide)).mono (ψ := fun k => k < (w2.alloc (.cells ([0, 1, 2, 7, 42, 999].map (Value.int .i64)).toArray 3)).heap.size ∧ k ≠ b) (fun k (hk : k = w2.heap.size) => ⟨by rw [size_alloc']; omega, by omega⟩))
        clear hbA
        go_wp2_with fail
        refine (num_any b ((p + 1) + 1) [0, 1, 2, 7, 42, 999] _ _ (HR2.out.later HBA.out) (by omega) HROW.out (by simp) (by simp)).mono ?_
        rintro e w3 ⟨y, hy, rfl, hr3, hk3⟩
        have hs3 : w2.heap.size + 1 ≤ w3.heap.size := by have := hk3.size; simpa using this
        have hzz3 := (hk3.block _ (by simp; omega) (by omega)).trans ((HBA.out.block _ (by omega)).trans HZZ2.out)
        obtain ⟨r0, r1, r2, r3, r4, t0, t1, t2, t3, t4⟩ := zeroFacts hzz3
        have hth := Lib.hid (zeroThere hzz3)
        have HK3 : Hid (Kept b 1 2 w w3) := (HK2.out.trans (Kept.of_below HBA.out (by omega))).trans hk3
        have HR3 := Lib.hid hr3
        have HY : Hid (0 ≤ y ∧ y ≤ 999) := by have h : ∀ y ∈ ([0, 1, 2, 7, 42, 999] : List Int), 0 ≤ y ∧ y ≤ 999 := by decide
                                              exact h y hy
        clear hzz3 hk3 hr3 hy
        go_wp2_with fail
        obtain ⟨z0, z1, z2, z3, z4⟩ := set5_in w3 w.heap.size 0 (.int .i64 2) (.string { data := #[] }) (.int .i64 y) (.slice none 0 0) (.slice none 0 0) hth.out
        unfold set5 at z0 z1 z2 z3 z4
        simp only [Nat.zero_add] at z0 z1 z2 z3 z4
        refine bodyPost_ret (v := .agg #[.int .i64 2, .string { data := #[] }, .int .i64 y, .slice none 0 0, .slice none 0 0]) (by simp [results, Try.results55, go_sem, z0, z1, z2, z3, z4]) rfl ?_
        refine ⟨.mk 2 ByteArray.empty y [] [], _, (p + 1) + 2, rfl, inV_leaf _ _ _ _ _ (by omega) (by have := HY.out; omega) (by simp [maxLen]), Slim.leaf (by simp) (cntS_pos (d + 1)), by (show p + 1 + 2 ≤ p + pickS (d + 1); simp only [pickS]; omega), ?_, ?_⟩
        · exact ((((HR3.out.setOther (by omega) (by omega)).setOther (by omega) (by omega)).setOther (by omega) (by omega)).setOther (by omega) (by omega)).setOther (by omega) (by omega)
        · exact ((((HK3.out.setNew (by omega) (by omega)).setNew (by omega) (by omega)).setNew (by omega) (by omega)).setNew (by omega) (by omega)).setNew (by omega) (by omega)
      · have hx1 : ((x : Int) == 0) = false := by rw [beq_eq_false_iff_ne]; omega
        clear hx0
        have HBA := Lib.hid (below_alloc w2 (.cells (someNames.map Value.string).toArray 9))
        have HCN : Hid (∀ i, (h : i < someNames.length) → (w2.alloc (.cells (someNames.map Value.string).toArray 9)).cell? ⟨w2.heap.size, 0 + i, none⟩ = some (.string someNames[i])) := fun i h => by
          rw [Nat.zero_add]
          exact (World.cell?_alloc_at _ _ _ _ rfl).trans (by simp [h])
        go_wp2_with fail
        refine (of_any b ((p + 1) + 1) someNames w2.heap.size 0 8 _ (HR2.out.later HBA.out) (by omega) (by omega) HCN.out (by simp [someNames]) (by simp [someNames]) (by simp [someNames])).mono ?_
        rintro e w3 ⟨y, hy, rfl, hr3, hk3⟩
        have hs3 : w2.heap.size + 1 ≤ w3.heap.size := by have := hk3.size; simpa using this
        have hzz3 := (hk3.block _ (by simp; omega) (by omega)).trans ((HBA.out.block _ (by omega)).trans HZZ2.out)
        have HK3 : Hid (Kept b 1 2 w w3) := (HK2.out.trans (Kept.of_below HBA.out (by omega))).trans hk3
        have HR3 := Lib.hid hr3
        have HZZ3 := Lib.hid hzz3
        have HY := Lib.hid (some_size y hy)
        clear hzz3 hk3 hr3 hy
        go_wp2_with fail
        refine (l1Name_any y w3).mono ?_
        rintro e w4 ⟨rfl, hb4⟩
        have hs4 := hb4.size
        have hzz4 := (hb4.block _ (by omega)).trans HZZ3.out
        obtain ⟨r0, r1, r2, r3, r4, t0, t1, t2, t3, t4⟩ := zeroFacts hzz4
        have hth := Lib.hid (zeroThere hzz4)
        have HK4 : Hid (Kept b 1 2 w w4) := HK3.out.later hb4 (by omega)
        have HR4 := Lib.hid (HR3.out.later hb4)
        clear hzz4 hb4
        go_wp2_with fail
        obtain ⟨z0, z1, z2, z3, z4⟩ := set5_in w4 w.heap.size 0 (.int .i64 1) (.string y) (.int .i64 0) (.slice none 0 0) (.slice none 0 0) hth.out
        unfold set5 at z0 z1 z2 z3 z4
        simp only [Nat.zero_add] at z0 z1 z2 z3 z4
        refine bodyPost_ret (v := .agg #[.int .i64 1, .string y, .int .i64 0, .slice none 0 0, .slice none 0 0]) (by simp [results, Try.results55, go_sem, z0, z1, z2, z3, z4]) rfl ?_
        refine ⟨.mk 1 y 0 [] [], _, (p + 1) + 2, rfl, inV_leaf _ _ _ _ _ (by omega) (by omega) (by have := HY.out; unfold maxLen; omega), Slim.leaf HY.out (cntS_pos (d + 1)), by (show p + 1 + 2 ≤ p + pickS (d + 1); simp only [pickS]; omega), ?_, ?_⟩
        · exact ((((HR4.out.setOther (by omega) (by omega)).setOther (by omega) (by omega)).setOther (by omega) (by omega)).setOther (by omega) (by omega)).setOther (by omega) (by omega)
        · exact ((((HK4.out.setNew (by omega) (by omega)).setNew (by omega) (by omega)).setNew (by omega) (by omega)).setNew (by omega) (by omega)).setNew (by omega) (by omega)
    · have hx1 : ((x0 : Int) == 0) = false := by rw [beq_eq_false_iff_ne]; omega
      clear h0
      go_wp2_with fail
      refine (pick_any b (p + 1) 4 _ (HRQ.out.later (below_alloc wQ _)) (by omega) (by omega) (by omega)).mono ?_
      rintro e w5 ⟨x, hx, rfl, hr5, hk5⟩
      have hs5 : wQ.heap.size + 1 ≤ w5.heap.size := by have := hk5.size; simpa using this
      have hm0 : GrowMid 26 B b w w5 w.heap.size wQ.heap.size (wQ.heap.size + 1) (p + 1 + 1) [] (.slice none 0 0) [] := by
        refine GrowMid.start ((hk5.block _ (by simp; omega) (by omega)).trans (((below_alloc wQ _).block _ (by omega)).trans HZZ.out)) ((hk5.block _ (by simp) (by omega)).trans (heap_alloc_new wQ _)) ((HKQ.out.later (below_alloc wQ _) hbw).trans hk5) hr5 hbw (Nat.le_refl _) (by omega)
      have HM0 := Lib.hid hm0
      obtain ⟨i0, hi0, hz0, hz1, hz2⟩ := info_parts Try.infoFm
      have hP := pickS_four d (by omega)
      have hpp : p + (3 * pickS d + 3) ≤ 200000 := hp
      have HDd : Hid (IntKind.i64.wrap ((D : Int) - 1) = (d : Int)) := by
        have h := HD.out
        unfold Hid
        rw [show ((D : Int) - 1) = (d : Int) by omega]
        simp [IntKind.wrap, IntKind.bits, IntKind.signed]
        omega
      generalize wQ.heap.size = ob at *
      clear hm0 hr5 hk5 HZZ HRQ HKQ HRA HKA HZA hp hx1
      go_wp2_with fail
      go_loopw [6] (fun i wr => ∃ (j : Nat) (gs : List Fm) (v : Value) (xs : List Value) (q : Nat), i = .int .i64 j ∧ j + gs.length = x ∧ SlimAll (gs.length * cntS d) 13 0 gs ∧ q ≤ p + 2 + gs.length * pickS d ∧
        GrowMid 26 B b w wr w.heap.size ob (ob + 1) q gs v xs) (fun i _ => (intOf i).toNat)
      case atStart => exact ⟨x, [], .slice none 0 0, [], p + 1 + 1, rfl, by simp, SlimAll.nil _ _ _, by simp <;> omega, HM0.out⟩
      case round =>
        obtain ⟨j, gs, v, xs, q, rfl, hjx, hsl, hq, hm⟩ := hrel
        have HM := Lib.hid hm
        have HSL := Lib.hid hsl
        have HQ := Lib.hid hq
        have HJX := Lib.hid hjx
        have hgl : gs.length ≤ 3 := by omega
        obtain ⟨f1, f2, f3, f4, f5, f6, f7⟩ := hm.fix
        have ho0 := hm.o0
        have ho1 := hm.o1
        have ho2 := hm.o2
        have ho3 := hm.o3
        have ho4 := hm.o4
        have hof := hm.free 4
        clear hm hsl hq hjx
        by_cases hlt : 0 < j
        · have hqq : q + pickS d ≤ 200000 := by
            have h1 := Nat.mul_le_mul_right (pickS d) (show gs.length ≤ 2 by have := HJX.out; omega)
            have h2 := HQ.out
            omega
          have HQQ := Lib.hid hqq
          have HW : Hid (wrap64 ((j : Int) - 1) = ((j - 1 : Nat) : Int)) := by
            have h := HJX.out
            unfold Hid wrap64
            omega
          have hj0 : (0 : Int) < (j : Int) := by omega
          have hL1 : gs.length + 1 ≤ maxLen := by unfold maxLen; omega
          have hL2 : (gs.length + 1) * 80 ≤ 140737488355328 := by omega
          go_wp2_with fail
          have hS0 : (fun w' : World => w'.cell? ⟨ob, 4, none⟩ = some v) wr.drew := ho4
          refine upto_begin (fun w' : World => w'.cell? ⟨ob, 4, none⟩ = some v) 9 (by kernel_rfl) ?_
          refine upto_take (i := 0) (d := some 32) (v := ?_) rfl rfl (by kernel_rfl) (by kernel_rfl) (by kernel_rfl) (by kernel_rfl) (fun _ _ _ h => h) (Or.inl ⟨by rfl, ?_⟩) hS0 ?_
          rotate_left
          · (intro wS hSw; go_simp; try with_reducible rfl)
          try simp only [Act.put, List.setIfInBounds_toArray, List.set_cons_zero, List.set_cons_succ]
          refine upto_take (i := 1) (d := some 33) (v := ?_) rfl rfl (by kernel_rfl) (by kernel_rfl) (by kernel_rfl) (by kernel_rfl) (fun _ _ _ h => h) (Or.inl ⟨by rfl, ?_⟩) hS0 ?_
          rotate_left
          · (intro wS hSw; go_simp; try with_reducible rfl)
          try simp only [Act.put, List.setIfInBounds_toArray, List.set_cons_zero, List.set_cons_succ]
          refine upto_take (i := 2) (d := some 34) (v := ?_) rfl rfl (by kernel_rfl) (by kernel_rfl) (by kernel_rfl) (by kernel_rfl) (fun _ _ _ h => h) (Or.inl ⟨by rfl, ?_⟩) hS0 ?_
          rotate_left
          · (intro wS hSw; go_simp; try with_reducible rfl)
          try simp only [Act.put, List.setIfInBounds_toArray, List.set_cons_zero, List.set_cons_succ]
          refine upto_take (i := 3) (d := some 35) (v := ?_) rfl rfl (by kernel_rfl) (by kernel_rfl) (by kernel_rfl) (by kernel_rfl) (fun _ _ _ h => h) (Or.inl ⟨by rfl, ?_⟩) hS0 ?_
          rotate_left
          · (intro wS hSw; go_simp; try with_reducible rfl)
          try simp only [Act.put, List.setIfInBounds_toArray, List.set_cons_zero, List.set_cons_succ]
          refine upto_take (i := 4) (d := some 36) (v := ?_) rfl rfl (by kernel_rfl) (by kernel_rfl) (by kernel_rfl) (by kernel_rfl) (fun _ _ _ h => h) (Or.inl ⟨by rfl, ?_⟩) hS0 ?_
          rotate_left
          · (intro wS hSw; go_simp; try with_reducible rfl)
          try simp only [Act.put, List.setIfInBounds_toArray, List.set_cons_zero, List.set_cons_succ]
          refine upto_one (i := 5) (by kernel_rfl) rfl (fun K hK => ?_)
          go_simp
          rw [HDd.out]
          refine (HIH.out d B b q wr.drew rfl hd4 HM.out.rd.drew HQQ.out).mono ?_
          rintro e w1 ⟨G, kv, p', rfl, hkv, hGs, hp', hr1, hk1⟩
          obtain ⟨ksa, kscap, ka, kcap, rfl⟩ := hkv.form
          have hk1' : Kept b 1 2 wr w1 := ((Kept.refl b 1 2 wr).drew).trans hk1
          have hS1 : (fun w' : World => w'.cell? ⟨ob, 4, none⟩ = some v) w1 := kept_cell hk1' ho4 (by omega)
          have HKV : Hid (InV (fun k => wr.heap.size ≤ k ∧ k < w1.heap.size) w1 G (.agg #[.int .i64 G.kind, .string G.name, .int .i64 G.n, .slice ksa G.scopes.length kscap, .slice ka G.kids.length kcap])) := hkv
          have HGS := Lib.hid hGs
          have HP' := Lib.hid hp'
          have HR1 := Lib.hid hr1
          refine hK.out _ _ (.inr hS1) ?_
          have HK1 := Lib.hid hk1'
          have hs1 : wr.heap.size ≤ w1.heap.size := hk1'.size
          have hown2 : w1.ownsRow (ob + 1) 26 5 v gs.length xs := ownsRow_same HM.out.own fun k e => hk1'.block k (HM.out.own.lt k e).2 (by have := HM.out.own.lt k e; omega)
          clear hK K hkv hGs hp' hr1 hk1 hk1' hS0
          refine upto_one (i := 6) (by kernel_rfl) rfl (fun K hK => ?_)
          go_simp
          have hbA := below_alloc w1 (Obj.cells #[.int .i64 G.kind, .string G.name, .int .i64 G.n, .slice ksa G.scopes.length kscap, .slice ka G.kids.length kcap] 26)
          have hS2 : (fun w' : World => w'.cell? ⟨ob, 4, none⟩ = some v) (w1.alloc (Obj.cells #[.int .i64 G.kind, .string G.name, .int .i64 G.n, .slice ksa G.scopes.length kscap, .slice ka G.kids.length kcap] 26)) := cell_later' hbA hS1
          refine hK.out _ _ (.inr hS2) ?_
          clear hK K
          refine upto_oper (i := 7) ⟨some 39, .call { callee := .builtin .append, args := #[.tmp 33, .tmp 38], argTypes := #[24, 24] }, 24, _, _, _⟩ (by kernel_rfl) rfl rfl (fun K hK => ?_)
          refine wp_append_lies _ (.tmp 33) (.tmp 38) 24 rfl (ob + 1) 26 i0 _ 5 80 Try.underlying24 hi0 hz0 hz1 hz2 rfl (by omega) _ gs.length xs (by rfl) (hown2.alloc _)
                    ⟨w1.heap.size, 0, none⟩ 1 1 [.int .i64 G.kind, .string G.name, .int .i64 G.n, .slice ksa G.scopes.length kscap, .slice ka G.kids.length kcap] (by rfl) (by rfl) (World.news_of_block (cs := #[.int .i64 G.kind, .string G.name, .int .i64 G.n, .slice ksa G.scopes.length kscap, .slice ka G.kids.length kcap]) (t := 26) (fr := (0, 0)) (heap_alloc_new w1 _)) (by simp [Value.oneCell'])
                    (by omega) hL1 hL2 (by simp; omega) (w1.heap.size + 1) (by simp) ?_
          intro gq qd w3 hown3 hgrow hat hlt4
          have hfar : ∀ k, v.ownBlock = some k → ob + 1 ≤ k ∧ k < w1.heap.size := fun k e => hown2.lt k e
          have hb3 : w3.heap[ob]? = (w1.alloc (Obj.cells #[.int .i64 G.kind, .string G.name, .int .i64 G.n, .slice ksa G.scopes.length kscap, .slice ka G.kids.length kcap] 26)).heap[ob]? := hgrow.block ob (by simp; omega) (fun e => by have := hfar ob e.symm; omega)
          have hS3 : (fun w' : World => w'.cell? ⟨ob, 4, none⟩ = some v) w3 := (World.cell?_of_block (a := ⟨ob, 4, none⟩) hb3).trans hS2
          refine hK.out _ _ (.inr hS3) ?_
          have hc4 : w3.cell? ⟨ob, 4, none⟩ = some v := hS3
          have hf4 : w3.frozen? ⟨ob, 4, none⟩ = false := by
            rw [World.frozen?_of_block (a := ⟨ob, 4, none⟩) hb3, hbA.frozen (p := ⟨ob, 4, none⟩) (show ob < _ by omega), World.frozen?_of_block (a := ⟨ob, 4, none⟩) (HK1.out.block ob (by omega) (by omega))]
            exact hof
          clear hK K
          refine upto_one (i := 8) (by kernel_rfl) rfl (fun K hK => ?_)
          go_simp
          refine hK.out _ _ (.inr hS3) ?_
          clear hK K
          refine upto_one (i := 9) (by kernel_rfl) rfl (fun K hK => ?_)
          go_simp
          refine hK.out _ _ (.inl rfl) ?_
          clear hK K
          refine upto_done (by kernel_rfl) ?_ _
          have HNEXT : Hid (∃ (j' : Nat) (gs' : List Fm) (v' : Value) (xs' : List Value) (q' : Nat), (.int .i64 (wrap64 ((j : Int) - 1)) : Value) = .int .i64 j' ∧ j' + gs'.length = x ∧ SlimAll (gs'.length * cntS d) 13 0 gs' ∧ q' ≤ p + 2 + gs'.length * pickS d ∧
              GrowMid 26 B b w (w3.setCell ⟨ob, 4, none⟩ (.slice (some ⟨gq, 0, none⟩) (gs.length + 1) qd)) w.heap.size ob (ob + 1) q' gs' v' xs') := by
            refine ⟨j - 1, gs ++ [G], _, _, p', by rw [HW.out], by have := HJX.out; rw [List.length_append, List.length_singleton]; omega, ?_, ?_, HM.out.step HK1.out HR1.out hbA HKV.out hown3 hgrow (by simpa using hat)⟩
            · rw [List.length_append, List.length_singleton, Nat.succ_mul]; exact HSL.out.snoc HGS.out
            · rw [List.length_append, List.length_singleton, Nat.succ_mul]; have h1 := HQ.out; have h2 := HP'.out; omega
          clear hown3 hgrow hat hlt4 hS3 hS2 hS1 hbA hown2 hfar hb3
          go_wp2_with fail
          go_roundw
          case rel => exact HNEXT.out
          case measure => rw [HW.out]; simp [intOf]; omega
        · obtain rfl : j = 0 := by omega
          obtain ⟨va, vc, rfl⟩ : ∃ va vc, v = .slice va gs.length vc := by
            rcases HM.out.own.2 with ⟨h, h0⟩ | ⟨g, cp, _, h, _⟩
            · exact ⟨none, 0, by rw [h, h0]⟩
            · exact ⟨_, cp, h⟩
          obtain ⟨r0, r1, r2, r3, r4, t0, t1, t2, t3, t4⟩ := zeroFacts HM.out.zero
          have hth := Lib.hid (zeroThere HM.out.zero)
          have HEND := Lib.hid HM.out.ends
          go_wp2_with fail
          obtain ⟨z0, z1, z2, z3, z4⟩ := set5_in wr w.heap.size 0 (.int .i64 3) (.string { data := #[] }) (.int .i64 0) (.slice none 0 0) (.slice va gs.length vc) hth.out
          have hss : Same (fun k => w.heap.size ≤ k ∧ k < wr.heap.size ∧ k ≠ w.heap.size) wr (set5 wr w.heap.size 0 (.int .i64 3) (.string { data := #[] }) (.int .i64 0) (.slice none 0 0) (.slice va gs.length vc)) :=
            fun c hc => set5_block _ _ _ _ _ _ _ _ hc.2.2
          have hz5 := set5_size wr w.heap.size 0 (.int .i64 3) (.string { data := #[] }) (.int .i64 0) (.slice none 0 0) (.slice va gs.length vc)
          have hin5 := InV.mono (ψ := fun k' => w.heap.size ≤ k' ∧ k' < (set5 wr w.heap.size 0 (.int .i64 3) (.string { data := #[] }) (.int .i64 0) (.slice none 0 0) (.slice va gs.length vc)).heap.size) (fun k' hk => ⟨hk.1, by rw [hz5]; exact hk.2.1⟩) _ _ (InV.later hss _ _ HEND.out)
          have hr5 : Rd B (set5 wr w.heap.size 0 (.int .i64 3) (.string { data := #[] }) (.int .i64 0) (.slice none 0 0) (.slice va gs.length vc)) b q := by
            unfold set5
            exact ((((HM.out.rd.setOther (by omega) (by omega)).setOther (by omega) (by omega)).setOther (by omega) (by omega)).setOther (by omega) (by omega)).setOther (by omega) (by omega)
          have hk5 : Kept b 1 2 w (set5 wr w.heap.size 0 (.int .i64 3) (.string { data := #[] }) (.int .i64 0) (.slice none 0 0) (.slice va gs.length vc)) := by
            unfold set5
            exact ((((HM.out.kept.setNew (by omega) (by omega)).setNew (by omega) (by omega)).setNew (by omega) (by omega)).setNew (by omega) (by omega)).setNew (by omega) (by omega)
          unfold set5 at z0 z1 z2 z3 z4 hin5 hr5 hk5
          simp only [Nat.zero_add] at z0 z1 z2 z3 z4 hin5 hr5 hk5
          refine bodyPost_ret (v := .agg #[.int .i64 3, .string { data := #[] }, .int .i64 0, .slice none 0 0, .slice va gs.length vc]) (by simp [results, Try.results55, go_sem, z0, z1, z2, z3, z4]) rfl ?_
          have hmul := Nat.mul_le_mul_right (cntS d) hgl
          have hmul2 := Nat.mul_le_mul_right (pickS d) hgl
          refine ⟨.mk 3 ByteArray.empty 0 [] gs, _, q, rfl, hin5, ?_, ?_, hr5, hk5⟩
          · exact (Slim.node (by simp) (Nat.zero_le _) (HSL.out.mono hmul (Nat.le_refl _) (Nat.le_refl _)))
          · have := HQ.out
            show q ≤ p + (3 * pickS d + 3)
            omega
end Go.Proofs.Ytbmpgfojhoganaa
