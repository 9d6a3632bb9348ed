/- The contract of the model's draw of a form that need not be valid, its blocks whole. -/
import Derived.Test.YtbmpgfojhoganaaPSome
import Derived.Test.YtbmpgfojhoganaaPDress
import Derived.Test.YtbmpgfojhoganaaPMut
import Derived.Test.YtbmpgfojhoganaaOpenBy
import Derived.Test.YtbmpgfojhoganaaEndDag
namespace Go.Proofs.Ytbmpgfojhoganaa.P
open Go.RowKit
set_option linter.unusedVariables false
set_option linter.unusedSimpArgs false
/-- what a draw of a form leaves -/
def ValidPost (w : World) (e : Ending) (w' : World) : Prop :=
  ∃ f sa scap a cap, e = .returned (.agg #[.int .i64 f.kind, .string f.name, .int .i64 f.n, .slice sa f.scopes.length scap, .slice a f.kids.length cap]) ∧ InVP (fun k => w.heap.size ≤ k ∧ k < w'.heap.size) w' f (.agg #[.int .i64 f.kind, .string f.name, .int .i64 f.n, .slice sa f.scopes.length scap, .slice a f.kids.length cap]) ∧ Slim 121 13 5 f ∧ Below w.heap.size w w'
theorem InVP.ends {φ : Nat → Prop} {w : World} {f : Fm} {v : Value} (h : InVP φ w f v) (hφ : ∀ k, φ k → k < w.heap.size) (hc : f.count ≤ 4294967296) : EndlessAt v w :=
  endlessAt_in (InV.mono (fun k hk => ⟨hφ k hk.1, hk.2⟩) _ _ h) hc
theorem ValidPost.law {w w' : World} {e : Ending} (h : ValidPost w e w') : ∃ f sa scap a cap, e = .returned (.agg #[.int .i64 f.kind, .string f.name, .int .i64 f.n, .slice sa f.scopes.length scap, .slice a f.kids.length cap]) ∧ InV (· < w'.heap.size) w' f (.agg #[.int .i64 f.kind, .string f.name, .int .i64 f.n, .slice sa f.scopes.length scap, .slice a f.kids.length cap]) ∧ EndlessAt (.agg #[.int .i64 f.kind, .string f.name, .int .i64 f.n, .slice sa f.scopes.length scap, .slice a f.kids.length cap]) w' ∧ Slim 121 13 5 f ∧ Below w.heap.size w w' := by
  obtain ⟨f, sa, scap, a, cap, rfl, hin, hsl, hb⟩ := h
  exact ⟨f, sa, scap, a, cap, rfl, InV.mono (fun k hk => hk.2) _ _ hin.toIn, hin.ends (fun k hk => hk.2) (by have := hsl.1; omega), hsl, hb⟩
set_option maxRecDepth 100000 in
set_option maxHeartbeats 4000000 in
theorem drawFormValid_any (v : Value) (n : Nat) (w : World) (h : Bytes w v n) : Calls Try.prog 24 #[v] w (ValidPost w) := by
  obtain ⟨a, cap, rfl, hcap, hmax, hrow⟩ := h
  have hb0 := below_alloc w (.cells #[.int .i64 0, .string { data := #[] }, .int .i64 0, .slice none 0 0, .slice none 0 0] 26)
  have hz0 := heap_alloc_new w (.cells #[.int .i64 0, .string { data := #[] }, .int .i64 0, .slice none 0 0, .slice none 0 0] 26)
  have HB0 := Lib.hid hb0
  have HZ0 := Lib.hid hz0
  have hrow0 := hrow.later (same_below hb0) (ψ := (· < (w.alloc (.cells #[.int .i64 0, .string { data := #[] }, .int .i64 0, .slice none 0 0, .slice none 0 0] 26)).heap.size)) (fun k hk => by have := hb0.size; omega)
  have HROW0 := Lib.hid hrow0
  clear hrow hb0 hz0 hrow0
  go_enter Try.func24, Try.ntmps24
  go_wp2_with fail
  refine (open_any a n cap _ HROW0.out hcap hmax).mono ?_
  rintro e w1 ⟨b, rfl, hb, hrd, hbl⟩
  rw [size_alloc'] at hb hrd
  have hs1 : w.heap.size + 1 ≤ w1.heap.size := by have := hbl.size; simpa using this
  have HB1 : Hid (Below w.heap.size w w1) := HB0.out.trans (hbl.mono (by simp))
  have HZ1 := Lib.hid ((hbl.block _ (by simp)).trans HZ0.out)
  have hbw := hrd.lt
  have HBA := Lib.hid (below_alloc w1 (.cells (([3, 2, 4] : List Int).map (Value.int .i64)).toArray 3))
  have HRA := Lib.hid (hrd.later HBA.out)
  have HROW := Lib.hid ((row_new w1 3 ([3, 2, 4] : List Int) (by simp) (by decide)).mono (ψ := fun k => k < (w1.alloc (.cells (([3, 2, 4] : List Int).map (Value.int .i64)).toArray 3)).heap.size ∧ k ≠ b) (fun k (hk : k = w1.heap.size) => ⟨by rw [size_alloc']; omega, by omega⟩))
  clear hrd hbl
  go_wp2_with fail
  refine (num_any b 0 ([3, 2, 4] : List Int) _ _ HRA.out (by omega) HROW.out (by simp) (by simp)).mono ?_
  rintro e w2 ⟨d', hd, rfl, hr2, hk2⟩
  have hs2 : w1.heap.size + 1 ≤ w2.heap.size := by have := hk2.size; simpa using this
  have HK2 : Hid (Kept b 1 2 w1 w2) := (Kept.of_below HBA.out hbw).trans hk2
  have HR2 := Lib.hid hr2
  obtain ⟨d, hd2, hd4⟩ : ∃ d : Nat, d' = (d : Int) ∧ d ≤ 4 := by
    have h : ∀ y ∈ ([3, 2, 4] : List Int), 0 ≤ y ∧ y ≤ 4 := by decide
    have h1 := h d' hd
    exact ⟨d'.toNat, by omega, by omega⟩
  subst hd2
  clear hr2 hk2 hd HROW HBA HRA
  have hpk := pickS_four d hd4
  go_wp2_with fail
  refine (l1Some_any d d _ b (0 + 1) w2 rfl hd4 HR2.out (by omega)).mono ?_
  rintro e w3 ⟨f0, v0, p3, rfl, hin3, hsl3, hp3, hr3, hk3⟩
  have hs3 := hk3.size
  have HK3 : Hid (Kept b 1 2 w1 w3) := HK2.out.trans hk3
  have HR3 := Lib.hid hr3
  have HSL3 : Hid (Slim 121 13 3 f0) := hsl3.mono hpk.2 (Nat.le_refl _) (by omega)
  have hc0 : f0.count ≤ 121 := HSL3.out.1
  have HI3 : Hid (InV (· < w3.heap.size) w3 f0 v0) := InV.mono (fun k hk => hk.2) _ _ hin3.toIn
  obtain ⟨sa0, scap0, a0, cap0, rfl⟩ := hin3.form
  clear hr3 hk3 hin3 hsl3 HK2 HR2
  go_wp2_with fail
  refine (l1Dress_aux f0.count f0 _ _ b p3 w3 (Nat.le_refl _) HR3.out (by omega) HI3.out (by have := HSL3.out.sz; omega) HSL3.out.2).mono ?_
  rintro e w4 ⟨f, v4, p4, rfl, hin4, hdr, hp4, hr4, hk4⟩
  have hs4 := hk4.size
  have HK4 : Hid (Kept b 1 2 w1 w4) := HK3.out.trans hk4
  have HSL : Hid (Slim 121 13 3 f) := ⟨Nat.le_trans hdr.count hc0, hdr.slim⟩
  have hcf : f.count ≤ 121 := HSL.out.1
  have HR4 := Lib.hid hr4
  have HI4 : Hid (InV (· < w4.heap.size) w4 f v4) := InV.mono (fun k hk => hk.2) _ _ hin4.toIn
  obtain ⟨sa, scap, a1, cap1, rfl⟩ := hin4.form
  clear hr4 hk4 hin4 hdr HK3 HR3 HI3
  go_wp2_with fail
  refine (l1Mutate_any (k := 3) HR4.out (by omega) HI4.out (by have := HSL.out.sz; omega) HSL.out.2).mono ?_
  rintro e w7 ⟨f2, v2, p7, rfl, hin7, hmu7, hp7, hr7, hk7⟩
  have hs7 := hk7.size
  have HK7 : Hid (Kept b 1 2 w1 w7) := HK4.out.trans hk7
  have HM7 : Hid (Slim 121 13 4 f2) := ⟨Nat.le_trans hmu7.count hcf, hmu7.slim⟩
  have hc2 : f2.count ≤ 121 := HM7.out.1
  have HI7 : Hid (InV (· < w7.heap.size) w7 f2 v2) := InV.mono (fun k hk => hk.2) _ _ hin7.toIn
  have HR7 := Lib.hid hr7
  obtain ⟨sa2, scap2, a2, cap2, rfl⟩ := hin7.form
  clear hk7 hin7 hmu7 hr7 HK4 HR4 HI4
  go_wp2_with fail
  refine (l1Mutate_any (k := 4) HR7.out (by omega) HI7.out (by have := HM7.out.sz; omega) HM7.out.2).mono ?_
  rintro e w8 ⟨f3, v3, p8, rfl, hin8, hmu8, hp8, hr8, hk8⟩
  have hs8 := hk8.size
  have HK8 : Hid (Kept b 1 2 w1 w8) := HK7.out.trans hk8
  have HM8 : Hid (Slim 121 13 5 f3) := ⟨Nat.le_trans hmu8.count hc2, hmu8.slim⟩
  have HI8 := Lib.hid hin8
  obtain ⟨sb, sbcap, b1, bcap1, rfl⟩ := hin8.form
  have hz8 : w8.heap[w.heap.size]? = some (.cells #[.int .i64 0, .string { data := #[] }, .int .i64 0, .slice none 0 0, .slice none 0 0] 26 (0, 0)) := (HK8.out.block _ (by omega) (by omega)).trans HZ1.out
  obtain ⟨r0, r1, r2, r3, r4, t0, t1, t2, t3, t4⟩ := zeroFacts hz8
  have HTH := Lib.hid (zeroThere hz8)
  clear hz8 hk8 hin8 hmu8 hr8 HK7 HR7 HI7
  go_wp2_with fail
  obtain ⟨z0, z1, z2, z3, z4⟩ := set5_in w8 w.heap.size 0 (.int .i64 f3.kind) (.string f3.name) (.int .i64 f3.n) (.slice sb f3.scopes.length sbcap) (.slice b1 f3.kids.length bcap1) HTH.out
  have hz5 := set5_size w8 w.heap.size 0 (.int .i64 f3.kind) (.string f3.name) (.int .i64 f3.n) (.slice sb f3.scopes.length sbcap) (.slice b1 f3.kids.length bcap1)
  have hin5 : InVP (fun k => w7.heap.size ≤ k ∧ k < w8.heap.size) (set5 w8 w.heap.size 0 (.int .i64 f3.kind) (.string f3.name) (.int .i64 f3.n) (.slice sb f3.scopes.length sbcap) (.slice b1 f3.kids.length bcap1)) f3 (.agg #[.int .i64 f3.kind, .string f3.name, .int .i64 f3.n, .slice sb f3.scopes.length sbcap, .slice b1 f3.kids.length bcap1]) := InVP.later (fun k hk => set5_block _ _ _ _ _ _ _ _ (by omega)) _ _ HI8.out
  have hi5 : InVP (fun k => w.heap.size ≤ k ∧ k < (set5 w8 w.heap.size 0 (.int .i64 f3.kind) (.string f3.name) (.int .i64 f3.n) (.slice sb f3.scopes.length sbcap) (.slice b1 f3.kids.length bcap1)).heap.size) (set5 w8 w.heap.size 0 (.int .i64 f3.kind) (.string f3.name) (.int .i64 f3.n) (.slice sb f3.scopes.length sbcap) (.slice b1 f3.kids.length bcap1)) f3 (.agg #[.int .i64 f3.kind, .string f3.name, .int .i64 f3.n, .slice sb f3.scopes.length sbcap, .slice b1 f3.kids.length bcap1]) := InVP.mono (fun k hk => ⟨by omega, by rw [hz5]; exact hk.2⟩) _ _ hin5
  have hbe5 := set5_below (HB1.out.trans (HK8.out.below (by omega) (by omega))) (b := w.heap.size) (Nat.le_refl _) 0 (.int .i64 f3.kind) (.string f3.name) (.int .i64 f3.n) (.slice sb f3.scopes.length sbcap) (.slice b1 f3.kids.length bcap1)
  unfold set5 at z0 z1 z2 z3 z4 hi5 hbe5
  simp only [Nat.zero_add] at z0 z1 z2 z3 z4 hi5 hbe5
  refine bodyPost_ret (v := .agg #[.int .i64 f3.kind, .string f3.name, .int .i64 f3.n, .slice sb f3.scopes.length sbcap, .slice b1 f3.kids.length bcap1]) (by simp [results, Try.results24, go_sem, z0, z1, z2, z3, z4]) rfl ?_
  exact ⟨f3, sb, sbcap, b1, bcap1, rfl, hi5, HM8.out, hbe5⟩
end Go.Proofs.Ytbmpgfojhoganaa.P
