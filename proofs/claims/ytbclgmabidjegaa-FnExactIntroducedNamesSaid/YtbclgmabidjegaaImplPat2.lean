/- The contracts of the program's distinctNames and dotsFit. -/
import Derived.Test.YtbclgmabidjegaaImplPat
import Derived.StillTailTactics
namespace Go.Proofs.Ytbclgmabidjegaa
open Go.RowKit
set_option linter.unusedVariables false
set_option linter.unusedSimpArgs false
set_option maxRecDepth 100000 in
set_option maxHeartbeats 4000000 in
theorem distinctNames_any (B : Nat) (ls : List Fm) (la : Option Addr) (lcap most : Nat) (w : World) (hB : B ≤ w.heap.size) (hl : FormsIn (· < B) w la lcap ls) (hmost : most ≤ 1000000) :
    Calls Try.prog 146 #[.slice la ls.length lcap, .int .i64 most] w fun e w' => e = .returned (.bool (distinctB ls most)) ∧ Below w.heap.size w w' := by
  have HL := Lib.hid hl
  obtain ⟨hlen, hmax, hrow⟩ := hl
  unfold maxLen at hmax
  have HROW := Lib.hid hrow
  clear hrow
  go_enter Try.func146, Try.ntmps146
  by_cases hgt : ls.length ≤ most
  · have hgt1 : ¬ ((ls.length : Int) > (most : Int)) := by omega
    go_wp2_with fail
    go_loopw [13, 5, 6] (fun i u p wr => ∃ j : Nat, j ≤ ls.length ∧ i = .int .i64 j ∧ distUp ls j = true ∧ Below w.heap.size w wr ∧ w.heap.size ≤ wr.heap.size) (fun i _ _ _ => ls.length - (intOf i).toNat)
    case atStart => exact ⟨0, Nat.zero_le _, rfl, rfl, Below.refl _ _, Nat.le_refl _⟩
    case round =>
      obtain ⟨j, hj, rfl, hdu, hb, hsz⟩ := hrel
      have HDT := Lib.hid hdu
      have HB := Lib.hid hb
      clear hdu hb
      by_cases hlt : j < ls.length
      · have hjl : (j : Int) < (ls.length : Int) := by omega
        rcases HROW.out with h0 | ⟨b, off, rfl, hbB, hr⟩
        · exfalso; rw [h0] at hlt; simp at hlt
        · obtain ⟨ga, gcap, ka, kcap, c0, c1, c2, c3, c4, hin⟩ := (hr.later (same_below (HB.out.mono hB)) b hbB).at' j hlt
          have HIN := Lib.hid hin
          have HDU := Lib.hid (distUp_succ hlt)
          have hji : (0 : Int) ≤ (j : Int) := by omega
          have hjc : j ≤ lcap := by omega
          clear hin hr
          cases hnm : isNameB ls[j] with
          | false =>
            have HNM := Lib.hid hnm
            clear hnm
            go_wp2_with fail
            have hS0 : (fun W : World => FormBox W wr.heap.size ls[j] ga gcap ka kcap) (wr.alloc (.cells #[.int .i64 ls[j].kind, .string ls[j].name, .int .i64 ls[j].n, .slice ga ls[j].scopes.length gcap, .slice ka ls[j].kids.length kcap] 33)).drew := FormBox.fresh wr ls[j] ga ka gcap kcap _
            refine upto_begin (fun W : World => FormBox W wr.heap.size ls[j] ga gcap ka kcap) 15 (by kernel_rfl) ?_
            refine upto_take (i := 0) (d := some 18) (v := ?_) rfl rfl (by kernel_rfl) (by kernel_rfl) (by kernel_rfl) (by kernel_rfl) (fun _ _ _ h => h) (Or.inl ⟨by rfl, ?_⟩) hS0 ?_
            rotate_left
            · (intro wS hSw; obtain ⟨_, _, _, _, _⟩ := hSw; go_simp; try with_reducible rfl)
            try simp only [Act.put, List.setIfInBounds_toArray, List.set_cons_zero, List.set_cons_succ]
            refine upto_one (i := 1) (by kernel_rfl) rfl (fun K hK => ?_)
            go_simp
            refine (isName_any B ls[j] _ (wr.alloc (.cells #[.int .i64 ls[j].kind, .string ls[j].name, .int .i64 ls[j].n, .slice ga ls[j].scopes.length gcap, .slice ka ls[j].kids.length kcap] 33)).drew (by simp [World.drew]; omega) (InV.later (w := wr) (w' := (wr.alloc (.cells #[.int .i64 ls[j].kind, .string ls[j].name, .int .i64 ls[j].n, .slice ga ls[j].scopes.length gcap, .slice ka ls[j].kids.length kcap] 33)).drew) (fun k (hk : k < B) => (below_alloc wr _).block k (by omega)) _ _ HIN.out)).mono ?_
            rintro e w1 ⟨rfl, hb1⟩
            have hb1' := below_drew hb1
            have hS1 : (fun W : World => FormBox W wr.heap.size ls[j] ga gcap ka kcap) w1 := FormBox.later (w := wr.alloc (.cells #[.int .i64 ls[j].kind, .string ls[j].name, .int .i64 ls[j].n, .slice ga ls[j].scopes.length gcap, .slice ka ls[j].kids.length kcap] 33)) (FormBox.fresh wr ls[j] ga ka gcap kcap _) hb1'
            have hs1 : wr.heap.size + 1 ≤ w1.heap.size := by have := hb1'.size; simpa using this
            have HB1 : Hid (Below w.heap.size w w1) := HB.out.trans (((below_alloc wr _).trans (hb1'.mono (by simp))).mono hsz)
            rw [HNM.out]
            refine hK.out _ _ (.inr hS1) ?_
            clear hK K hb1 hb1'
            refine upto_take (i := 2) (d := some 20) (v := ?_) rfl rfl (by kernel_rfl) (by kernel_rfl) (by kernel_rfl) (by kernel_rfl) (fun _ _ _ h => h) (Or.inl ⟨by rfl, ?_⟩) hS1 ?_
            rotate_left
            · (intro wS hSw; obtain ⟨_, _, _, _, _⟩ := hSw; go_simp; try with_reducible rfl)
            try simp only [Act.put, List.setIfInBounds_toArray, List.set_cons_zero, List.set_cons_succ]
            refine upto_take (i := 3) (d := some 21) (v := ?_) rfl rfl (by kernel_rfl) (by kernel_rfl) (by kernel_rfl) (by kernel_rfl) (fun _ _ _ h => h) (Or.inl ⟨by rfl, ?_⟩) hS1 ?_
            rotate_left
            · (intro wS hSw; obtain ⟨_, _, _, _, _⟩ := hSw; go_simp; try with_reducible rfl)
            try simp only [Act.put, List.setIfInBounds_toArray, List.set_cons_zero, List.set_cons_succ]
            refine upto_take (i := 4) (d := some 22) (v := undef) rfl rfl (by kernel_rfl) (by kernel_rfl) (by kernel_rfl) (by kernel_rfl) (fun _ _ _ h => h) (Or.inr ⟨by rfl, rfl⟩) hS1 ?_
            try simp only [Act.put, List.setIfInBounds_toArray, List.set_cons_zero, List.set_cons_succ]
            refine upto_take (i := 5) (d := some 23) (v := undef) rfl rfl (by kernel_rfl) (by kernel_rfl) (by kernel_rfl) (by kernel_rfl) (fun _ _ _ h => h) (Or.inr ⟨by rfl, rfl⟩) hS1 ?_
            try simp only [Act.put, List.setIfInBounds_toArray, List.set_cons_zero, List.set_cons_succ]
            refine upto_take (i := 6) (d := some 24) (v := undef) rfl rfl (by kernel_rfl) (by kernel_rfl) (by kernel_rfl) (by kernel_rfl) (fun _ _ _ h => h) (Or.inr ⟨by rfl, rfl⟩) hS1 ?_
            try simp only [Act.put, List.setIfInBounds_toArray, List.set_cons_zero, List.set_cons_succ]
            refine upto_take (i := 7) (d := some 25) (v := ?_) rfl rfl (by kernel_rfl) (by kernel_rfl) (by kernel_rfl) (by kernel_rfl) (fun _ _ _ h => h) (Or.inl ⟨by rfl, ?_⟩) hS1 ?_
            rotate_left
            · (intro wS hSw; obtain ⟨_, _, _, _, _⟩ := hSw; go_simp; try with_reducible rfl)
            try simp only [Act.put, List.setIfInBounds_toArray, List.set_cons_zero, List.set_cons_succ]
            refine upto_take (i := 8) (d := some 26) (v := ?_) rfl rfl (by kernel_rfl) (by kernel_rfl) (by kernel_rfl) (by kernel_rfl) (fun _ _ _ h => h) (Or.inl ⟨by rfl, ?_⟩) hS1 ?_
            rotate_left
            · (intro wS hSw; obtain ⟨_, _, _, _, _⟩ := hSw; go_simp; try with_reducible rfl)
            try simp only [Act.put, List.setIfInBounds_toArray, List.set_cons_zero, List.set_cons_succ]
            refine upto_take (i := 9) (d := some 27) (v := undef) rfl rfl (by kernel_rfl) (by kernel_rfl) (by kernel_rfl) (by kernel_rfl) (fun _ _ _ h => h) (Or.inr ⟨by rfl, rfl⟩) hS1 ?_
            try simp only [Act.put, List.setIfInBounds_toArray, List.set_cons_zero, List.set_cons_succ]
            refine upto_take (i := 10) (d := some 28) (v := undef) rfl rfl (by kernel_rfl) (by kernel_rfl) (by kernel_rfl) (by kernel_rfl) (fun _ _ _ h => h) (Or.inr ⟨by rfl, rfl⟩) hS1 ?_
            try simp only [Act.put, List.setIfInBounds_toArray, List.set_cons_zero, List.set_cons_succ]
            refine upto_take (i := 11) (d := some 29) (v := undef) rfl rfl (by kernel_rfl) (by kernel_rfl) (by kernel_rfl) (by kernel_rfl) (fun _ _ _ h => h) (Or.inr ⟨by rfl, rfl⟩) hS1 ?_
            try simp only [Act.put, List.setIfInBounds_toArray, List.set_cons_zero, List.set_cons_succ]
            refine upto_take (i := 12) (d := some 30) (v := undef) rfl rfl (by kernel_rfl) (by kernel_rfl) (by kernel_rfl) (by kernel_rfl) (fun _ _ _ h => h) (Or.inr ⟨by rfl, rfl⟩) hS1 ?_
            try simp only [Act.put, List.setIfInBounds_toArray, List.set_cons_zero, List.set_cons_succ]
            refine upto_take (i := 13) (d := some 31) (v := undef) rfl rfl (by kernel_rfl) (by kernel_rfl) (by kernel_rfl) (by kernel_rfl) (fun _ _ _ h => h) (Or.inr ⟨by rfl, rfl⟩) hS1 ?_
            try simp only [Act.put, List.setIfInBounds_toArray, List.set_cons_zero, List.set_cons_succ]
            refine upto_take (i := 14) (d := some 32) (v := ?_) rfl rfl (by kernel_rfl) (by kernel_rfl) (by kernel_rfl) (by kernel_rfl) (fun _ _ _ h => h) (Or.inl ⟨by rfl, ?_⟩) hS1 ?_
            rotate_left
            · (intro wS hSw; obtain ⟨_, _, _, _, _⟩ := hSw; go_simp; try with_reducible rfl)
            try simp only [Act.put, List.setIfInBounds_toArray, List.set_cons_zero, List.set_cons_succ]
            clear hS0 hS1
            refine upto_done (by kernel_rfl) ?_ _
            have HF : Hid (distinctB ls most = false) := by
              unfold Hid distinctB
              rw [distUp_no (i := j + 1) (by rw [HDU.out]; rw [HNM.out]; simp) ls.length (by omega), Bool.and_false]
            go_wp2_with fail
            go_ret
            exact ⟨ret_bool HF.out.symm, HB1.out⟩
          | true =>
            have HNM := Lib.hid hnm
            clear hnm
            cases hrs : resB ls[j].name with
            | true =>
              have HRS := Lib.hid hrs
              clear hrs
              go_wp2_with fail
              have hS0 : (fun W : World => FormBox W wr.heap.size ls[j] ga gcap ka kcap) (wr.alloc (.cells #[.int .i64 ls[j].kind, .string ls[j].name, .int .i64 ls[j].n, .slice ga ls[j].scopes.length gcap, .slice ka ls[j].kids.length kcap] 33)).drew := FormBox.fresh wr ls[j] ga ka gcap kcap _
              refine upto_begin (fun W : World => FormBox W wr.heap.size ls[j] ga gcap ka kcap) 15 (by kernel_rfl) ?_
              refine upto_take (i := 0) (d := some 18) (v := ?_) rfl rfl (by kernel_rfl) (by kernel_rfl) (by kernel_rfl) (by kernel_rfl) (fun _ _ _ h => h) (Or.inl ⟨by rfl, ?_⟩) hS0 ?_
              rotate_left
              · (intro wS hSw; obtain ⟨_, _, _, _, _⟩ := hSw; go_simp; try with_reducible rfl)
              try simp only [Act.put, List.setIfInBounds_toArray, List.set_cons_zero, List.set_cons_succ]
              refine upto_one (i := 1) (by kernel_rfl) rfl (fun K hK => ?_)
              go_simp
              refine (isName_any B ls[j] _ (wr.alloc (.cells #[.int .i64 ls[j].kind, .string ls[j].name, .int .i64 ls[j].n, .slice ga ls[j].scopes.length gcap, .slice ka ls[j].kids.length kcap] 33)).drew (by simp [World.drew]; omega) (InV.later (w := wr) (w' := (wr.alloc (.cells #[.int .i64 ls[j].kind, .string ls[j].name, .int .i64 ls[j].n, .slice ga ls[j].scopes.length gcap, .slice ka ls[j].kids.length kcap] 33)).drew) (fun k (hk : k < B) => (below_alloc wr _).block k (by omega)) _ _ HIN.out)).mono ?_
              rintro e w1 ⟨rfl, hb1⟩
              have hb1' := below_drew hb1
              have hS1 : (fun W : World => FormBox W wr.heap.size ls[j] ga gcap ka kcap) w1 := FormBox.later (w := wr.alloc (.cells #[.int .i64 ls[j].kind, .string ls[j].name, .int .i64 ls[j].n, .slice ga ls[j].scopes.length gcap, .slice ka ls[j].kids.length kcap] 33)) (FormBox.fresh wr ls[j] ga ka gcap kcap _) hb1'
              have hs1 : wr.heap.size + 1 ≤ w1.heap.size := by have := hb1'.size; simpa using this
              have HB1 : Hid (Below w.heap.size w w1) := HB.out.trans (((below_alloc wr _).trans (hb1'.mono (by simp))).mono hsz)
              rw [HNM.out]
              refine hK.out _ _ (.inr hS1) ?_
              clear hK K hb1 hb1'
              refine upto_take (i := 2) (d := some 20) (v := ?_) rfl rfl (by kernel_rfl) (by kernel_rfl) (by kernel_rfl) (by kernel_rfl) (fun _ _ _ h => h) (Or.inl ⟨by rfl, ?_⟩) hS1 ?_
              rotate_left
              · (intro wS hSw; obtain ⟨_, _, _, _, _⟩ := hSw; go_simp; try with_reducible rfl)
              try simp only [Act.put, List.setIfInBounds_toArray, List.set_cons_zero, List.set_cons_succ]
              refine upto_take (i := 3) (d := some 21) (v := ?_) rfl rfl (by kernel_rfl) (by kernel_rfl) (by kernel_rfl) (by kernel_rfl) (fun _ _ _ h => h) (Or.inl ⟨by rfl, ?_⟩) hS1 ?_
              rotate_left
              · (intro wS hSw; obtain ⟨_, _, _, _, _⟩ := hSw; go_simp; try with_reducible rfl)
              try simp only [Act.put, List.setIfInBounds_toArray, List.set_cons_zero, List.set_cons_succ]
              refine upto_take (i := 4) (d := some 22) (v := ?_) rfl rfl (by kernel_rfl) (by kernel_rfl) (by kernel_rfl) (by kernel_rfl) (fun _ _ _ h => h) (Or.inl ⟨by rfl, ?_⟩) hS1 ?_
              rotate_left
              · (intro wS hSw; obtain ⟨_, _, _, _, _⟩ := hSw; go_simp; try with_reducible rfl)
              try simp only [Act.put, List.setIfInBounds_toArray, List.set_cons_zero, List.set_cons_succ]
              refine upto_take (i := 5) (d := some 23) (v := ?_) rfl rfl (by kernel_rfl) (by kernel_rfl) (by kernel_rfl) (by kernel_rfl) (fun _ _ _ h => h) (Or.inl ⟨by rfl, ?_⟩) hS1 ?_
              rotate_left
              · (intro wS hSw; obtain ⟨_, _, _, _, _⟩ := hSw; go_simp; try with_reducible rfl)
              try simp only [Act.put, List.setIfInBounds_toArray, List.set_cons_zero, List.set_cons_succ]
              refine upto_one (i := 6) (by kernel_rfl) rfl (fun K hK => ?_)
              go_simp
              refine (isReserved_any ls[j].name w1).mono ?_
              rintro e w1' ⟨rfl, rfl⟩
              rw [HRS.out]
              refine hK.out _ _ (.inr hS1) ?_
              clear hK K
              refine upto_take (i := 7) (d := some 25) (v := ?_) rfl rfl (by kernel_rfl) (by kernel_rfl) (by kernel_rfl) (by kernel_rfl) (fun _ _ _ h => h) (Or.inl ⟨by rfl, ?_⟩) hS1 ?_
              rotate_left
              · (intro wS hSw; obtain ⟨_, _, _, _, _⟩ := hSw; go_simp; try with_reducible rfl)
              try simp only [Act.put, List.setIfInBounds_toArray, List.set_cons_zero, List.set_cons_succ]
              refine upto_take (i := 8) (d := some 26) (v := ?_) rfl rfl (by kernel_rfl) (by kernel_rfl) (by kernel_rfl) (by kernel_rfl) (fun _ _ _ h => h) (Or.inl ⟨by rfl, ?_⟩) hS1 ?_
              rotate_left
              · (intro wS hSw; obtain ⟨_, _, _, _, _⟩ := hSw; go_simp; try with_reducible rfl)
              try simp only [Act.put, List.setIfInBounds_toArray, List.set_cons_zero, List.set_cons_succ]
              refine upto_take (i := 9) (d := some 27) (v := undef) rfl rfl (by kernel_rfl) (by kernel_rfl) (by kernel_rfl) (by kernel_rfl) (fun _ _ _ h => h) (Or.inr ⟨by rfl, rfl⟩) hS1 ?_
              try simp only [Act.put, List.setIfInBounds_toArray, List.set_cons_zero, List.set_cons_succ]
              refine upto_take (i := 10) (d := some 28) (v := undef) rfl rfl (by kernel_rfl) (by kernel_rfl) (by kernel_rfl) (by kernel_rfl) (fun _ _ _ h => h) (Or.inr ⟨by rfl, rfl⟩) hS1 ?_
              try simp only [Act.put, List.setIfInBounds_toArray, List.set_cons_zero, List.set_cons_succ]
              refine upto_take (i := 11) (d := some 29) (v := undef) rfl rfl (by kernel_rfl) (by kernel_rfl) (by kernel_rfl) (by kernel_rfl) (fun _ _ _ h => h) (Or.inr ⟨by rfl, rfl⟩) hS1 ?_
              try simp only [Act.put, List.setIfInBounds_toArray, List.set_cons_zero, List.set_cons_succ]
              refine upto_take (i := 12) (d := some 30) (v := undef) rfl rfl (by kernel_rfl) (by kernel_rfl) (by kernel_rfl) (by kernel_rfl) (fun _ _ _ h => h) (Or.inr ⟨by rfl, rfl⟩) hS1 ?_
              try simp only [Act.put, List.setIfInBounds_toArray, List.set_cons_zero, List.set_cons_succ]
              refine upto_take (i := 13) (d := some 31) (v := undef) rfl rfl (by kernel_rfl) (by kernel_rfl) (by kernel_rfl) (by kernel_rfl) (fun _ _ _ h => h) (Or.inr ⟨by rfl, rfl⟩) hS1 ?_
              try simp only [Act.put, List.setIfInBounds_toArray, List.set_cons_zero, List.set_cons_succ]
              refine upto_take (i := 14) (d := some 32) (v := ?_) rfl rfl (by kernel_rfl) (by kernel_rfl) (by kernel_rfl) (by kernel_rfl) (fun _ _ _ h => h) (Or.inl ⟨by rfl, ?_⟩) hS1 ?_
              rotate_left
              · (intro wS hSw; obtain ⟨_, _, _, _, _⟩ := hSw; go_simp; try with_reducible rfl)
              try simp only [Act.put, List.setIfInBounds_toArray, List.set_cons_zero, List.set_cons_succ]
              clear hS0 hS1
              refine upto_done (by kernel_rfl) ?_ _
              have HF : Hid (distinctB ls most = false) := by
                unfold Hid distinctB
                rw [distUp_no (i := j + 1) (by rw [HDU.out]; rw [HRS.out]; simp) ls.length (by omega), Bool.and_false]
              go_wp2_with fail
              go_ret
              exact ⟨ret_bool HF.out.symm, HB1.out⟩
            | false =>
              have HRS := Lib.hid hrs
              clear hrs
              cases hhs : inN (ls.take j) ls[j] with
              | true =>
                have HHS := Lib.hid hhs
                clear hhs
                go_wp2_with fail
                have hS0 : (fun W : World => FormBox W wr.heap.size ls[j] ga gcap ka kcap) (wr.alloc (.cells #[.int .i64 ls[j].kind, .string ls[j].name, .int .i64 ls[j].n, .slice ga ls[j].scopes.length gcap, .slice ka ls[j].kids.length kcap] 33)).drew := FormBox.fresh wr ls[j] ga ka gcap kcap _
                refine upto_begin (fun W : World => FormBox W wr.heap.size ls[j] ga gcap ka kcap) 15 (by kernel_rfl) ?_
                refine upto_take (i := 0) (d := some 18) (v := ?_) rfl rfl (by kernel_rfl) (by kernel_rfl) (by kernel_rfl) (by kernel_rfl) (fun _ _ _ h => h) (Or.inl ⟨by rfl, ?_⟩) hS0 ?_
                rotate_left
                · (intro wS hSw; obtain ⟨_, _, _, _, _⟩ := hSw; go_simp; try with_reducible rfl)
                try simp only [Act.put, List.setIfInBounds_toArray, List.set_cons_zero, List.set_cons_succ]
                refine upto_one (i := 1) (by kernel_rfl) rfl (fun K hK => ?_)
                go_simp
                refine (isName_any B ls[j] _ (wr.alloc (.cells #[.int .i64 ls[j].kind, .string ls[j].name, .int .i64 ls[j].n, .slice ga ls[j].scopes.length gcap, .slice ka ls[j].kids.length kcap] 33)).drew (by simp [World.drew]; omega) (InV.later (w := wr) (w' := (wr.alloc (.cells #[.int .i64 ls[j].kind, .string ls[j].name, .int .i64 ls[j].n, .slice ga ls[j].scopes.length gcap, .slice ka ls[j].kids.length kcap] 33)).drew) (fun k (hk : k < B) => (below_alloc wr _).block k (by omega)) _ _ HIN.out)).mono ?_
                rintro e w1 ⟨rfl, hb1⟩
                have hb1' := below_drew hb1
                have hS1 : (fun W : World => FormBox W wr.heap.size ls[j] ga gcap ka kcap) w1 := FormBox.later (w := wr.alloc (.cells #[.int .i64 ls[j].kind, .string ls[j].name, .int .i64 ls[j].n, .slice ga ls[j].scopes.length gcap, .slice ka ls[j].kids.length kcap] 33)) (FormBox.fresh wr ls[j] ga ka gcap kcap _) hb1'
                have hs1 : wr.heap.size + 1 ≤ w1.heap.size := by have := hb1'.size; simpa using this
                have HB1 : Hid (Below w.heap.size w w1) := HB.out.trans (((below_alloc wr _).trans (hb1'.mono (by simp))).mono hsz)
                rw [HNM.out]
                refine hK.out _ _ (.inr hS1) ?_
                clear hK K hb1 hb1'
                refine upto_take (i := 2) (d := some 20) (v := ?_) rfl rfl (by kernel_rfl) (by kernel_rfl) (by kernel_rfl) (by kernel_rfl) (fun _ _ _ h => h) (Or.inl ⟨by rfl, ?_⟩) hS1 ?_
                rotate_left
                · (intro wS hSw; obtain ⟨_, _, _, _, _⟩ := hSw; go_simp; try with_reducible rfl)
                try simp only [Act.put, List.setIfInBounds_toArray, List.set_cons_zero, List.set_cons_succ]
                refine upto_take (i := 3) (d := some 21) (v := ?_) rfl rfl (by kernel_rfl) (by kernel_rfl) (by kernel_rfl) (by kernel_rfl) (fun _ _ _ h => h) (Or.inl ⟨by rfl, ?_⟩) hS1 ?_
                rotate_left
                · (intro wS hSw; obtain ⟨_, _, _, _, _⟩ := hSw; go_simp; try with_reducible rfl)
                try simp only [Act.put, List.setIfInBounds_toArray, List.set_cons_zero, List.set_cons_succ]
                refine upto_take (i := 4) (d := some 22) (v := ?_) rfl rfl (by kernel_rfl) (by kernel_rfl) (by kernel_rfl) (by kernel_rfl) (fun _ _ _ h => h) (Or.inl ⟨by rfl, ?_⟩) hS1 ?_
                rotate_left
                · (intro wS hSw; obtain ⟨_, _, _, _, _⟩ := hSw; go_simp; try with_reducible rfl)
                try simp only [Act.put, List.setIfInBounds_toArray, List.set_cons_zero, List.set_cons_succ]
                refine upto_take (i := 5) (d := some 23) (v := ?_) rfl rfl (by kernel_rfl) (by kernel_rfl) (by kernel_rfl) (by kernel_rfl) (fun _ _ _ h => h) (Or.inl ⟨by rfl, ?_⟩) hS1 ?_
                rotate_left
                · (intro wS hSw; obtain ⟨_, _, _, _, _⟩ := hSw; go_simp; try with_reducible rfl)
                try simp only [Act.put, List.setIfInBounds_toArray, List.set_cons_zero, List.set_cons_succ]
                refine upto_one (i := 6) (by kernel_rfl) rfl (fun K hK => ?_)
                go_simp
                refine (isReserved_any ls[j].name w1).mono ?_
                rintro e w1' ⟨rfl, rfl⟩
                rw [HRS.out]
                refine hK.out _ _ (.inr hS1) ?_
                clear hK K
                refine upto_take (i := 7) (d := some 25) (v := ?_) rfl rfl (by kernel_rfl) (by kernel_rfl) (by kernel_rfl) (by kernel_rfl) (fun _ _ _ h => h) (Or.inl ⟨by rfl, ?_⟩) hS1 ?_
                rotate_left
                · (intro wS hSw; obtain ⟨_, _, _, _, _⟩ := hSw; go_simp; try with_reducible rfl)
                try simp only [Act.put, List.setIfInBounds_toArray, List.set_cons_zero, List.set_cons_succ]
                refine upto_take (i := 8) (d := some 26) (v := ?_) rfl rfl (by kernel_rfl) (by kernel_rfl) (by kernel_rfl) (by kernel_rfl) (fun _ _ _ h => h) (Or.inl ⟨by rfl, ?_⟩) hS1 ?_
                rotate_left
                · (intro wS hSw; obtain ⟨_, _, _, _, _⟩ := hSw; go_simp; try with_reducible rfl)
                try simp only [Act.put, List.setIfInBounds_toArray, List.set_cons_zero, List.set_cons_succ]
                refine upto_take (i := 9) (d := some 27) (v := ?_) rfl rfl (by kernel_rfl) (by kernel_rfl) (by kernel_rfl) (by kernel_rfl) (fun _ _ _ h => h) (Or.inl ⟨by rfl, ?_⟩) hS1 ?_
                rotate_left
                · (intro wS hSw; obtain ⟨_, _, _, _, _⟩ := hSw; go_simp; try with_reducible rfl)
                try simp only [Act.put, List.setIfInBounds_toArray, List.set_cons_zero, List.set_cons_succ]
                refine upto_take (i := 10) (d := some 28) (v := ?_) rfl rfl (by kernel_rfl) (by kernel_rfl) (by kernel_rfl) (by kernel_rfl) (fun _ _ _ h => h) (Or.inl ⟨by rfl, ?_⟩) hS1 ?_
                rotate_left
                · (intro wS hSw; obtain ⟨_, _, _, _, _⟩ := hSw; go_simp; try with_reducible rfl)
                try simp only [Act.put, List.setIfInBounds_toArray, List.set_cons_zero, List.set_cons_succ]
                refine upto_take (i := 11) (d := some 29) (v := ?_) rfl rfl (by kernel_rfl) (by kernel_rfl) (by kernel_rfl) (by kernel_rfl) (fun _ _ _ h => h) (Or.inl ⟨by rfl, ?_⟩) hS1 ?_
                rotate_left
                · (intro wS hSw; obtain ⟨_, _, _, _, _⟩ := hSw; go_simp; try with_reducible rfl)
                try simp only [Act.put, List.setIfInBounds_toArray, List.set_cons_zero, List.set_cons_succ]
                refine upto_take (i := 12) (d := some 30) (v := ?_) rfl rfl (by kernel_rfl) (by kernel_rfl) (by kernel_rfl) (by kernel_rfl) (fun _ _ _ h => h) (Or.inl ⟨by rfl, ?_⟩) hS1 ?_
                rotate_left
                · (intro wS hSw; obtain ⟨_, _, _, _, _⟩ := hSw; go_simp; try with_reducible rfl)
                try simp only [Act.put, List.setIfInBounds_toArray, List.set_cons_zero, List.set_cons_succ]
                refine upto_one (i := 13) (by kernel_rfl) rfl (fun K hK => ?_)
                go_simp
                refine (hasName_take B ls j (by omega) _ lcap ls[j] _ w1' (by omega) (HL.out.later (same_below (HB1.out.mono hB))) (InV.later (w := wr) (fun k (hk : k < B) => by rw [HB1.out.block k (by omega), HB.out.block k (by omega)]) _ _ HIN.out)).mono ?_
                rintro e w2 ⟨rfl, hb2⟩
                have hS2 : (fun W : World => FormBox W wr.heap.size ls[j] ga gcap ka kcap) w2 := FormBox.later hS1 hb2
                have hs2 : w1'.heap.size ≤ w2.heap.size := hb2.size
                have HB2 : Hid (Below w.heap.size w w2) := HB1.out.trans (hb2.mono (by omega))
                rw [HHS.out]
                refine hK.out _ _ (.inr hS2) ?_
                clear hK K hb2
                refine upto_take (i := 14) (d := some 32) (v := ?_) rfl rfl (by kernel_rfl) (by kernel_rfl) (by kernel_rfl) (by kernel_rfl) (fun _ _ _ h => h) (Or.inl ⟨by rfl, ?_⟩) hS2 ?_
                rotate_left
                · (intro wS hSw; obtain ⟨_, _, _, _, _⟩ := hSw; go_simp; try with_reducible rfl)
                try simp only [Act.put, List.setIfInBounds_toArray, List.set_cons_zero, List.set_cons_succ]
                clear hS0 hS1 hS2
                refine upto_done (by kernel_rfl) ?_ _
                have HF : Hid (distinctB ls most = false) := by
                  unfold Hid distinctB
                  rw [distUp_no (i := j + 1) (by rw [HDU.out]; rw [← inN_inF HNM.out, HHS.out]; simp) ls.length (by omega), Bool.and_false]
                go_wp2_with fail
                go_ret
                exact ⟨ret_bool HF.out.symm, HB2.out⟩
              | false =>
                have HHS := Lib.hid hhs
                clear hhs
                go_wp2_with fail
                have hS0 : (fun W : World => FormBox W wr.heap.size ls[j] ga gcap ka kcap) (wr.alloc (.cells #[.int .i64 ls[j].kind, .string ls[j].name, .int .i64 ls[j].n, .slice ga ls[j].scopes.length gcap, .slice ka ls[j].kids.length kcap] 33)).drew := FormBox.fresh wr ls[j] ga ka gcap kcap _
                refine upto_begin (fun W : World => FormBox W wr.heap.size ls[j] ga gcap ka kcap) 15 (by kernel_rfl) ?_
                refine upto_take (i := 0) (d := some 18) (v := ?_) rfl rfl (by kernel_rfl) (by kernel_rfl) (by kernel_rfl) (by kernel_rfl) (fun _ _ _ h => h) (Or.inl ⟨by rfl, ?_⟩) hS0 ?_
                rotate_left
                · (intro wS hSw; obtain ⟨_, _, _, _, _⟩ := hSw; go_simp; try with_reducible rfl)
                try simp only [Act.put, List.setIfInBounds_toArray, List.set_cons_zero, List.set_cons_succ]
                refine upto_one (i := 1) (by kernel_rfl) rfl (fun K hK => ?_)
                go_simp
                refine (isName_any B ls[j] _ (wr.alloc (.cells #[.int .i64 ls[j].kind, .string ls[j].name, .int .i64 ls[j].n, .slice ga ls[j].scopes.length gcap, .slice ka ls[j].kids.length kcap] 33)).drew (by simp [World.drew]; omega) (InV.later (w := wr) (w' := (wr.alloc (.cells #[.int .i64 ls[j].kind, .string ls[j].name, .int .i64 ls[j].n, .slice ga ls[j].scopes.length gcap, .slice ka ls[j].kids.length kcap] 33)).drew) (fun k (hk : k < B) => (below_alloc wr _).block k (by omega)) _ _ HIN.out)).mono ?_
                rintro e w1 ⟨rfl, hb1⟩
                have hb1' := below_drew hb1
                have hS1 : (fun W : World => FormBox W wr.heap.size ls[j] ga gcap ka kcap) w1 := FormBox.later (w := wr.alloc (.cells #[.int .i64 ls[j].kind, .string ls[j].name, .int .i64 ls[j].n, .slice ga ls[j].scopes.length gcap, .slice ka ls[j].kids.length kcap] 33)) (FormBox.fresh wr ls[j] ga ka gcap kcap _) hb1'
                have hs1 : wr.heap.size + 1 ≤ w1.heap.size := by have := hb1'.size; simpa using this
                have HB1 : Hid (Below w.heap.size w w1) := HB.out.trans (((below_alloc wr _).trans (hb1'.mono (by simp))).mono hsz)
                rw [HNM.out]
                refine hK.out _ _ (.inr hS1) ?_
                clear hK K hb1 hb1'
                refine upto_take (i := 2) (d := some 20) (v := ?_) rfl rfl (by kernel_rfl) (by kernel_rfl) (by kernel_rfl) (by kernel_rfl) (fun _ _ _ h => h) (Or.inl ⟨by rfl, ?_⟩) hS1 ?_
                rotate_left
                · (intro wS hSw; obtain ⟨_, _, _, _, _⟩ := hSw; go_simp; try with_reducible rfl)
                try simp only [Act.put, List.setIfInBounds_toArray, List.set_cons_zero, List.set_cons_succ]
                refine upto_take (i := 3) (d := some 21) (v := ?_) rfl rfl (by kernel_rfl) (by kernel_rfl) (by kernel_rfl) (by kernel_rfl) (fun _ _ _ h => h) (Or.inl ⟨by rfl, ?_⟩) hS1 ?_
                rotate_left
                · (intro wS hSw; obtain ⟨_, _, _, _, _⟩ := hSw; go_simp; try with_reducible rfl)
                try simp only [Act.put, List.setIfInBounds_toArray, List.set_cons_zero, List.set_cons_succ]
                refine upto_take (i := 4) (d := some 22) (v := ?_) rfl rfl (by kernel_rfl) (by kernel_rfl) (by kernel_rfl) (by kernel_rfl) (fun _ _ _ h => h) (Or.inl ⟨by rfl, ?_⟩) hS1 ?_
                rotate_left
                · (intro wS hSw; obtain ⟨_, _, _, _, _⟩ := hSw; go_simp; try with_reducible rfl)
                try simp only [Act.put, List.setIfInBounds_toArray, List.set_cons_zero, List.set_cons_succ]
                refine upto_take (i := 5) (d := some 23) (v := ?_) rfl rfl (by kernel_rfl) (by kernel_rfl) (by kernel_rfl) (by kernel_rfl) (fun _ _ _ h => h) (Or.inl ⟨by rfl, ?_⟩) hS1 ?_
                rotate_left
                · (intro wS hSw; obtain ⟨_, _, _, _, _⟩ := hSw; go_simp; try with_reducible rfl)
                try simp only [Act.put, List.setIfInBounds_toArray, List.set_cons_zero, List.set_cons_succ]
                refine upto_one (i := 6) (by kernel_rfl) rfl (fun K hK => ?_)
                go_simp
                refine (isReserved_any ls[j].name w1).mono ?_
                rintro e w1' ⟨rfl, rfl⟩
                rw [HRS.out]
                refine hK.out _ _ (.inr hS1) ?_
                clear hK K
                refine upto_take (i := 7) (d := some 25) (v := ?_) rfl rfl (by kernel_rfl) (by kernel_rfl) (by kernel_rfl) (by kernel_rfl) (fun _ _ _ h => h) (Or.inl ⟨by rfl, ?_⟩) hS1 ?_
                rotate_left
                · (intro wS hSw; obtain ⟨_, _, _, _, _⟩ := hSw; go_simp; try with_reducible rfl)
                try simp only [Act.put, List.setIfInBounds_toArray, List.set_cons_zero, List.set_cons_succ]
                refine upto_take (i := 8) (d := some 26) (v := ?_) rfl rfl (by kernel_rfl) (by kernel_rfl) (by kernel_rfl) (by kernel_rfl) (fun _ _ _ h => h) (Or.inl ⟨by rfl, ?_⟩) hS1 ?_
                rotate_left
                · (intro wS hSw; obtain ⟨_, _, _, _, _⟩ := hSw; go_simp; try with_reducible rfl)
                try simp only [Act.put, List.setIfInBounds_toArray, List.set_cons_zero, List.set_cons_succ]
                refine upto_take (i := 9) (d := some 27) (v := ?_) rfl rfl (by kernel_rfl) (by kernel_rfl) (by kernel_rfl) (by kernel_rfl) (fun _ _ _ h => h) (Or.inl ⟨by rfl, ?_⟩) hS1 ?_
                rotate_left
                · (intro wS hSw; obtain ⟨_, _, _, _, _⟩ := hSw; go_simp; try with_reducible rfl)
                try simp only [Act.put, List.setIfInBounds_toArray, List.set_cons_zero, List.set_cons_succ]
                refine upto_take (i := 10) (d := some 28) (v := ?_) rfl rfl (by kernel_rfl) (by kernel_rfl) (by kernel_rfl) (by kernel_rfl) (fun _ _ _ h => h) (Or.inl ⟨by rfl, ?_⟩) hS1 ?_
                rotate_left
                · (intro wS hSw; obtain ⟨_, _, _, _, _⟩ := hSw; go_simp; try with_reducible rfl)
                try simp only [Act.put, List.setIfInBounds_toArray, List.set_cons_zero, List.set_cons_succ]
                refine upto_take (i := 11) (d := some 29) (v := ?_) rfl rfl (by kernel_rfl) (by kernel_rfl) (by kernel_rfl) (by kernel_rfl) (fun _ _ _ h => h) (Or.inl ⟨by rfl, ?_⟩) hS1 ?_
                rotate_left
                · (intro wS hSw; obtain ⟨_, _, _, _, _⟩ := hSw; go_simp; try with_reducible rfl)
                try simp only [Act.put, List.setIfInBounds_toArray, List.set_cons_zero, List.set_cons_succ]
                refine upto_take (i := 12) (d := some 30) (v := ?_) rfl rfl (by kernel_rfl) (by kernel_rfl) (by kernel_rfl) (by kernel_rfl) (fun _ _ _ h => h) (Or.inl ⟨by rfl, ?_⟩) hS1 ?_
                rotate_left
                · (intro wS hSw; obtain ⟨_, _, _, _, _⟩ := hSw; go_simp; try with_reducible rfl)
                try simp only [Act.put, List.setIfInBounds_toArray, List.set_cons_zero, List.set_cons_succ]
                refine upto_one (i := 13) (by kernel_rfl) rfl (fun K hK => ?_)
                go_simp
                refine (hasName_take B ls j (by omega) _ lcap ls[j] _ w1' (by omega) (HL.out.later (same_below (HB1.out.mono hB))) (InV.later (w := wr) (fun k (hk : k < B) => by rw [HB1.out.block k (by omega), HB.out.block k (by omega)]) _ _ HIN.out)).mono ?_
                rintro e w2 ⟨rfl, hb2⟩
                have hS2 : (fun W : World => FormBox W wr.heap.size ls[j] ga gcap ka kcap) w2 := FormBox.later hS1 hb2
                have hs2 : w1'.heap.size ≤ w2.heap.size := hb2.size
                have HB2 : Hid (Below w.heap.size w w2) := HB1.out.trans (hb2.mono (by omega))
                rw [HHS.out]
                refine hK.out _ _ (.inr hS2) ?_
                clear hK K hb2
                refine upto_take (i := 14) (d := some 32) (v := ?_) rfl rfl (by kernel_rfl) (by kernel_rfl) (by kernel_rfl) (by kernel_rfl) (fun _ _ _ h => h) (Or.inl ⟨by rfl, ?_⟩) hS2 ?_
                rotate_left
                · (intro wS hSw; obtain ⟨_, _, _, _, _⟩ := hSw; go_simp; try with_reducible rfl)
                try simp only [Act.put, List.setIfInBounds_toArray, List.set_cons_zero, List.set_cons_succ]
                clear hS0 hS1 hS2
                refine upto_done (by kernel_rfl) ?_ _
                have HN : Hid (distUp ls (j + 1) = true) := by unfold Hid; rw [HDU.out, HDT.out, HNM.out, HRS.out, ← inN_inF HNM.out, HHS.out]; rfl
                go_wp2_with fail
                go_roundw
                case rel => exact ⟨j + 1, by omega, by go_num, HN.out, HB2.out, by omega⟩
                case measure => simp [intOf]; omega
      · obtain rfl : j = ls.length := by omega
        have HF : Hid (distinctB ls most = true) := by unfold Hid distinctB; rw [HDT.out, decide_eq_true hgt]; rfl
        go_wp2_with fail
        go_ret
        exact ⟨ret_bool HF.out.symm, HB.out⟩
  · have hgt1 : (ls.length : Int) > (most : Int) := by omega
    have HF : Hid (distinctB ls most = false) := by unfold Hid distinctB; rw [decide_eq_false hgt]; rfl
    go_wp2_with fail
    go_ret
    exact ⟨ret_bool HF.out.symm, Below.refl _ _⟩
/-- forms, but for the first ones -/
theorem RowIn.drop {φ : Nat → Prop} {w : World} {b : Nat} : ∀ (i : Nat) {off : Nat} {ks : List Fm}, RowIn φ w b off ks → RowIn φ w b (off + i * 5) (ks.drop i)
  | 0, off, _, h => by simpa using h
  | i + 1, off, [], _ => by simp [RowIn]
  | i + 1, off, f :: r, h => by
    unfold RowIn at h
    rw [List.drop_succ_cons, show off + (i + 1) * 5 = off + 5 + i * 5 from by omega]
    exact RowIn.drop i h.2
theorem kidsOk_idx {ks : List Fm} {r : Int} (h : Idx dotsB ks r) : kidsOk ks = !(decide (r = 0) || (ks.drop (r + 1).toNat).any dotsB) := by
  have hf : ∀ l : List Fm, (l.any dotsB = false) → (l.filter dotsB).length = 0 := fun l hl => by
    rw [List.length_eq_zero_iff, List.filter_eq_nil_iff]
    intro x hx hd
    have := List.any_eq_true.2 ⟨x, hx, hd⟩
    rw [hl] at this
    cases this
  rcases h with ⟨rfl, h⟩ | ⟨j, hj, rfl, hd, hn⟩
  · have h1 : nextDots ks = false := by
      cases ks with
      | nil => rfl
      | cons x r => simp at h; simpa [nextDots] using h.1
    unfold kidsOk
    rw [h1, hf ks h]
    simp [h]
  · have e : ks = ks.take j ++ ks[j] :: ks.drop (j + 1) := by rw [← List.drop_eq_getElem_cons hj, List.take_append_drop]
    have hc : (ks.filter dotsB).length = 1 + ((ks.drop (j + 1)).filter dotsB).length := by
      conv => lhs; rw [e]
      rw [List.filter_append, List.length_append, hf _ hn, List.filter_cons, if_pos hd, List.length_cons]
      omega
    have hnx : nextDots ks = decide ((j : Int) = 0) := by
      rw [nextDots_at]
      cases j with
      | zero => rw [dotsAt_eq hj, hd]; rfl
      | succ j =>
        rw [dotsAt_eq (by omega : 0 < ks.length), decide_eq_false (by omega)]
        have h0 : ks[0] ∈ ks.take (j + 1) := by
          cases ks with
          | nil => simp at hj
          | cons x r => simp
        cases hz : dotsB ks[0] with
        | false => rfl
        | true =>
          have := List.any_eq_true.2 ⟨ks[0], h0, hz⟩
          rw [hn] at this
          cases this
    unfold kidsOk
    rw [hnx, hc, show ((j : Int) + 1).toNat = j + 1 from by omega]
    cases ha : (ks.drop (j + 1)).any dotsB with
    | false => rw [hf _ ha]; simp
    | true =>
      have : 1 ≤ ((ks.drop (j + 1)).filter dotsB).length := by
        obtain ⟨x, hx, hxd⟩ := List.any_eq_true.1 ha
        exact List.length_pos_of_mem (List.mem_filter.2 ⟨hx, hxd⟩)
      rw [decide_eq_false (show ¬ (1 + ((ks.drop (j + 1)).filter dotsB).length ≤ 1) by omega), Bool.and_false, Bool.or_true]
      rfl
theorem isDots_pred (B : Nat) (ks : List Fm) : PredF B 154 #[] dotsB ks (fun _ => True) := by
  refine ⟨enters_of Try.func154 (by kernel_rfl) rfl, fun _ _ _ _ => trivial, ?_⟩
  rintro g _ v W hBW hin _
  obtain ⟨ga, gcap, ka, kcap, rfl⟩ := hin.form
  exact isDots_any g ga gcap ka kcap W
end Go.Proofs.Ytbclgmabidjegaa
