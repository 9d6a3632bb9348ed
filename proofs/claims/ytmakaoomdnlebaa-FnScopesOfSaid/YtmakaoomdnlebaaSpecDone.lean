/- The contracts of the model's AddScope, FlipScope and DropScope. -/
import Derived.Test.YtmakaoomdnlebaaSpecChange
import Derived.Test.YtmakaoomdnlebaaData
import Derived.Test.YtmakaoomdnlebaaValid
namespace Go.Proofs.Ytmakaoomdnlebaa
open Go.RowKit
set_option linter.unusedVariables false
set_option linter.unusedSimpArgs false
mutual
theorem chg_count {chg : Int → List Int → List Int} : ∀ f : Fm, (f.chg chg).count = f.count
  | .mk k nm n sc ks => by simp only [Fm.chg, Fm.count, chgAll_count ks]
theorem chgAll_count {chg : Int → List Int → List Int} : ∀ ks : List Fm, countAll (chgAll chg ks) = countAll ks
  | [] => by simp [chgAll]
  | f :: r => by simp only [chgAll, countAll, chg_count f, chgAll_count r]
end
/-- a form changed, if all is valid -/
def doneB (f g : Fm) (scope : Int) : Bool := formB f && (decide (1 ≤ scope ∧ scope ≤ 99) && formB g)
set_option maxRecDepth 100000 in
set_option maxHeartbeats 1000000 in
theorem specDone_any (B : Nat) (f : Fm) (v : Value) (scope way : Int) (w : World) (hB : B ≤ w.heap.size) (hv : InV (· < B) w f v) (hsz : f.sz ≤ 1048576) (hscope : -9223372036854775808 ≤ scope ∧ scope ≤ 9223372036854775807)
    (ok : Bool) (R : Fm) (hok : doneB f (f.chg (chgW way scope)) scope = ok) (hR : (if ok = true then f.chg (chgW way scope) else zeroForm) = R) :
    Calls Try.prog 58 #[v, .int .i64 scope, .int .i64 way] w fun e w' => ∃ v, e = .returned (.tuple #[v, .bool ok]) ∧
      InV (fun k => w.heap.size ≤ k ∧ k < w'.heap.size) w' R v ∧ Below w.heap.size w w' := by
  have HR := Lib.hid hR
  have HOK := Lib.hid hok
  clear hR hok
  obtain ⟨sa, scap, a, cap, rfl⟩ := hv.form
  have HV := Lib.hid hv
  have hLc := f.count_le
  clear hv
  go_enter Try.func58, Try.ntmps58
  go_wp2_with fail
  have hA0 : Below w.heap.size w ((w.alloc (.cells #[.int .i64 f.kind, .string f.name, .int .i64 f.n, .slice sa f.scopes.length scap, .slice a f.kids.length cap] 27)).alloc (.cells #[.int .i64 0, .string { data := #[] }, .int .i64 0, .slice none 0 0, .slice none 0 0] 27)) := (below_alloc w _).alloc (by simp) _
  refine (specFormValid_any B f _ _ (by simp; omega) (InV.later (same_below (hA0.mono hB)) _ _ HV.out) (by omega)).mono ?_
  rintro e w3 ⟨rfl, hb3⟩
  have hs3 : w.heap.size + 2 ≤ w3.heap.size := by have := hb3.size; simpa using this
  have HX : Hid (FormBox w3 w.heap.size f sa scap a cap) := ((FormBox.fresh w f sa a scap cap 27).later (below_alloc _ _)).later hb3
  have hz3 : w3.heap[w.heap.size + 1]? = some (.cells #[.int .i64 0, .string { data := #[] }, .int .i64 0, .slice none 0 0, .slice none 0 0] 27 (0, 0)) := by
    rw [hb3.block _ (by simp)]
    have := heap_alloc_new (w.alloc (.cells #[.int .i64 f.kind, .string f.name, .int .i64 f.n, .slice sa f.scopes.length scap, .slice a f.kids.length cap] 27)) (.cells #[.int .i64 0, .string { data := #[] }, .int .i64 0, .slice none 0 0, .slice none 0 0] 27)
    rw [size_alloc'] at this
    exact this
  have HB3 : Hid (Below w.heap.size w w3) := hA0.trans (hb3.mono (by simp; omega))
  have HZ3 := Lib.hid hz3
  have hlt3 : w.heap.size + 1 < w3.heap.size := by omega
  clear hb3 hA0
  cases hfb : formB f with
  | false =>
    obtain rfl : false = ok := by rw [← HOK.out]; unfold doneB; rw [hfb]; rfl
    obtain rfl : zeroForm = R := HR.out
    clear hfb
    obtain ⟨r0, r1, r2, r3, r4, t0, t1, t2, t3, t4⟩ := zeroFacts hz3
    have hth := Lib.hid (zeroThere hz3)
    clear hz3
    go_wp2_with fail
    obtain ⟨z0, z1, z2, z3, z4⟩ := set5_in w3 (w.heap.size + 1) 0 (.int .i64 0) (.string { data := #[] }) (.int .i64 0) (.slice none 0 0) (.slice none 0 0) hth.out
    have hbe5 := set5_below HB3.out (b := w.heap.size + 1) (by omega) 0 (.int .i64 0) (.string { data := #[] }) (.int .i64 0) (.slice none 0 0) (.slice none 0 0)
    have hin5 : InV (fun k => w.heap.size ≤ k ∧ k < (set5 w3 (w.heap.size + 1) 0 (.int .i64 0) (.string { data := #[] }) (.int .i64 0) (.slice none 0 0) (.slice none 0 0)).heap.size) (set5 w3 (w.heap.size + 1) 0 (.int .i64 0) (.string { data := #[] }) (.int .i64 0) (.slice none 0 0) (.slice none 0 0)) zeroForm (.agg #[.int .i64 0, .string { data := #[] }, .int .i64 0, .slice none 0 0, .slice none 0 0]) := zeroIn _ _
    unfold set5 at z0 z1 z2 z3 z4 hbe5 hin5
    simp only [Nat.zero_add] at z0 z1 z2 z3 z4 hbe5 hin5
    refine bodyPost_ret (v := .tuple #[.agg #[.int .i64 0, .string { data := #[] }, .int .i64 0, .slice none 0 0, .slice none 0 0], .bool false]) (by simp [results, Try.results58, go_sem, z0, z1, z2, z3, z4]) rfl ?_
    exact ⟨_, rfl, hin5, hbe5⟩
  | true =>
    by_cases h1 : scope < 1
    · obtain rfl : false = ok := by rw [← HOK.out]; unfold doneB; rw [hfb, decide_eq_false (by omega)]; rfl
      obtain rfl : zeroForm = R := HR.out
      clear hfb
      obtain ⟨r0, r1, r2, r3, r4, t0, t1, t2, t3, t4⟩ := zeroFacts hz3
      have hth := Lib.hid (zeroThere hz3)
      clear hz3
      go_wp2_with fail
      obtain ⟨z0, z1, z2, z3, z4⟩ := set5_in w3 (w.heap.size + 1) 0 (.int .i64 0) (.string { data := #[] }) (.int .i64 0) (.slice none 0 0) (.slice none 0 0) hth.out
      have hbe5 := set5_below HB3.out (b := w.heap.size + 1) (by omega) 0 (.int .i64 0) (.string { data := #[] }) (.int .i64 0) (.slice none 0 0) (.slice none 0 0)
      have hin5 : InV (fun k => w.heap.size ≤ k ∧ k < (set5 w3 (w.heap.size + 1) 0 (.int .i64 0) (.string { data := #[] }) (.int .i64 0) (.slice none 0 0) (.slice none 0 0)).heap.size) (set5 w3 (w.heap.size + 1) 0 (.int .i64 0) (.string { data := #[] }) (.int .i64 0) (.slice none 0 0) (.slice none 0 0)) zeroForm (.agg #[.int .i64 0, .string { data := #[] }, .int .i64 0, .slice none 0 0, .slice none 0 0]) := zeroIn _ _
      unfold set5 at z0 z1 z2 z3 z4 hbe5 hin5
      simp only [Nat.zero_add] at z0 z1 z2 z3 z4 hbe5 hin5
      refine bodyPost_ret (v := .tuple #[.agg #[.int .i64 0, .string { data := #[] }, .int .i64 0, .slice none 0 0, .slice none 0 0], .bool false]) (by simp [results, Try.results58, go_sem, z0, z1, z2, z3, z4]) rfl ?_
      exact ⟨_, rfl, hin5, hbe5⟩
    · by_cases h2 : scope > 99
      · obtain rfl : false = ok := by rw [← HOK.out]; unfold doneB; rw [hfb, decide_eq_false (by omega)]; rfl
        obtain rfl : zeroForm = R := HR.out
        clear hfb
        obtain ⟨r0, r1, r2, r3, r4, t0, t1, t2, t3, t4⟩ := zeroFacts hz3
        have hth := Lib.hid (zeroThere hz3)
        clear hz3
        go_wp2_with fail
        obtain ⟨z0, z1, z2, z3, z4⟩ := set5_in w3 (w.heap.size + 1) 0 (.int .i64 0) (.string { data := #[] }) (.int .i64 0) (.slice none 0 0) (.slice none 0 0) hth.out
        have hbe5 := set5_below HB3.out (b := w.heap.size + 1) (by omega) 0 (.int .i64 0) (.string { data := #[] }) (.int .i64 0) (.slice none 0 0) (.slice none 0 0)
        have hin5 : InV (fun k => w.heap.size ≤ k ∧ k < (set5 w3 (w.heap.size + 1) 0 (.int .i64 0) (.string { data := #[] }) (.int .i64 0) (.slice none 0 0) (.slice none 0 0)).heap.size) (set5 w3 (w.heap.size + 1) 0 (.int .i64 0) (.string { data := #[] }) (.int .i64 0) (.slice none 0 0) (.slice none 0 0)) zeroForm (.agg #[.int .i64 0, .string { data := #[] }, .int .i64 0, .slice none 0 0, .slice none 0 0]) := zeroIn _ _
        unfold set5 at z0 z1 z2 z3 z4 hbe5 hin5
        simp only [Nat.zero_add] at z0 z1 z2 z3 z4 hbe5 hin5
        refine bodyPost_ret (v := .tuple #[.agg #[.int .i64 0, .string { data := #[] }, .int .i64 0, .slice none 0 0, .slice none 0 0], .bool false]) (by simp [results, Try.results58, go_sem, z0, z1, z2, z3, z4]) rfl ?_
        exact ⟨_, rfl, hin5, hbe5⟩
      · have HOK2 : Hid (formB (f.chg (chgW way scope)) = ok) := by
          unfold Hid
          rw [← HOK.out]
          unfold doneB
          rw [hfb, decide_eq_true (show 1 ≤ scope ∧ scope ≤ 99 by omega)]
          rfl
        clear hfb hz3 HOK
        obtain ⟨x0, x1, x2, x3, x4⟩ := HX.out
        go_wp2_with fail
        refine (specChange_any B scope way hscope f _ w3 (by omega) (InV.later (same_below (HB3.out.mono hB)) _ _ HV.out) hsz).mono ?_
        rintro e w4 ⟨cv, rfl, hc, hb4⟩
        obtain ⟨G, hG⟩ : ∃ G, G = f.chg (chgW way scope) := ⟨_, rfl⟩
        rw [← hG] at hc HOK2 HR
        have hGc : G.count ≤ 4611686018427387904 := by rw [hG, chg_count]; omega
        clear hG
        obtain ⟨csa, cscap, ca, ccap, rfl⟩ := hc.form
        have hs4 := hb4.size
        have HB4 : Hid (Below w.heap.size w w4) := HB3.out.trans (hb4.mono (by omega))
        have HZ4 := Lib.hid ((hb4.block _ (by omega)).trans HZ3.out)
        have HC := Lib.hid hc
        clear hb4 hc x0 x1 x2 x3 x4 HX
        go_wp2_with fail
        have hb45 := below_alloc w4 (.cells #[.int .i64 G.kind, .string G.name, .int .i64 G.n, .slice csa G.scopes.length cscap, .slice ca G.kids.length ccap] 27)
        have HC5 := Lib.hid (InV.later (w' := w4.alloc (.cells #[.int .i64 G.kind, .string G.name, .int .i64 G.n, .slice csa G.scopes.length cscap, .slice ca G.kids.length ccap] 27)) (Same.of_below hb45 (fun k hk => hk.2)) _ _ HC.out)
        refine (specFormValid_any w4.heap.size G _ _ (by simp) (InV.mono (fun k hk => hk.2) _ _ HC5.out) (by omega)).mono ?_
        rintro e w6 ⟨rfl, hb6⟩
        rw [HOK2.out]
        obtain ⟨x0, x1, x2, x3, x4⟩ := (FormBox.fresh w4 G csa ca cscap ccap 27).later hb6
        have hb46 : Below w4.heap.size w4 w6 := hb45.trans (hb6.mono (by simp))
        have hs6 : w4.heap.size + 1 ≤ w6.heap.size := by have := hb6.size; simpa using this
        have HC6 : Hid (InV (fun k => w.heap.size ≤ k ∧ k < w6.heap.size ∧ k ≠ w.heap.size + 1) w6 G _) := InV.mono (fun k hk => ⟨by omega, by omega, by omega⟩) _ _ (InV.later (Same.of_below hb46 (fun k hk => hk.2)) _ _ HC.out)
        have hz6 := (hb46.block _ (by omega)).trans HZ4.out
        have HB6 : Hid (Below w.heap.size w w6) := HB4.out.trans (hb46.mono (by omega))
        clear hb6 hb45 hb46 HC5 HC
        cases ok with
        | false =>
          obtain rfl : zeroForm = R := HR.out
          obtain ⟨r0, r1, r2, r3, r4, t0, t1, t2, t3, t4⟩ := zeroFacts hz6
          have hth := Lib.hid (zeroThere hz6)
          clear hz6
          go_wp2_with fail
          obtain ⟨z0, z1, z2, z3, z4⟩ := set5_in w6 (w.heap.size + 1) 0 (.int .i64 0) (.string { data := #[] }) (.int .i64 0) (.slice none 0 0) (.slice none 0 0) hth.out
          have hbe5 := set5_below HB6.out (b := w.heap.size + 1) (by omega) 0 (.int .i64 0) (.string { data := #[] }) (.int .i64 0) (.slice none 0 0) (.slice none 0 0)
          have hin5 : InV (fun k => w.heap.size ≤ k ∧ k < (set5 w6 (w.heap.size + 1) 0 (.int .i64 0) (.string { data := #[] }) (.int .i64 0) (.slice none 0 0) (.slice none 0 0)).heap.size) (set5 w6 (w.heap.size + 1) 0 (.int .i64 0) (.string { data := #[] }) (.int .i64 0) (.slice none 0 0) (.slice none 0 0)) zeroForm (.agg #[.int .i64 0, .string { data := #[] }, .int .i64 0, .slice none 0 0, .slice none 0 0]) := zeroIn _ _
          unfold set5 at z0 z1 z2 z3 z4 hbe5 hin5
          simp only [Nat.zero_add] at z0 z1 z2 z3 z4 hbe5 hin5
          refine bodyPost_ret (v := .tuple #[.agg #[.int .i64 0, .string { data := #[] }, .int .i64 0, .slice none 0 0, .slice none 0 0], .bool false]) (by simp [results, Try.results58, go_sem, z0, z1, z2, z3, z4]) rfl ?_
          exact ⟨_, rfl, hin5, hbe5⟩
        | true =>
          obtain rfl : G = R := HR.out
          obtain ⟨r0, r1, r2, r3, r4, t0, t1, t2, t3, t4⟩ := zeroFacts hz6
          have hth := Lib.hid (zeroThere hz6)
          clear hz6
          go_wp2_with fail
          obtain ⟨z0, z1, z2, z3, z4⟩ := set5_in w6 (w.heap.size + 1) 0 (.int .i64 G.kind) (.string G.name) (.int .i64 G.n) (.slice csa G.scopes.length cscap) (.slice ca G.kids.length ccap) hth.out
          have hz5 := set5_size w6 (w.heap.size + 1) 0 (.int .i64 G.kind) (.string G.name) (.int .i64 G.n) (.slice csa G.scopes.length cscap) (.slice ca G.kids.length ccap)
          have hbe5 := set5_below HB6.out (b := w.heap.size + 1) (by omega) 0 (.int .i64 G.kind) (.string G.name) (.int .i64 G.n) (.slice csa G.scopes.length cscap) (.slice ca G.kids.length ccap)
          have hin5 : InV (fun k => w.heap.size ≤ k ∧ k < (set5 w6 (w.heap.size + 1) 0 (.int .i64 G.kind) (.string G.name) (.int .i64 G.n) (.slice csa G.scopes.length cscap) (.slice ca G.kids.length ccap)).heap.size) (set5 w6 (w.heap.size + 1) 0 (.int .i64 G.kind) (.string G.name) (.int .i64 G.n) (.slice csa G.scopes.length cscap) (.slice ca G.kids.length ccap)) G (.agg #[.int .i64 G.kind, .string G.name, .int .i64 G.n, .slice csa G.scopes.length cscap, .slice ca G.kids.length ccap]) := InV.mono (fun k hk => ⟨hk.1, by rw [hz5]; exact hk.2.1⟩) _ _ (InV.later (fun c hc => set5_block _ _ _ _ _ _ _ _ hc.2.2) _ _ HC6.out)
          unfold set5 at z0 z1 z2 z3 z4 hbe5 hin5
          simp only [Nat.zero_add] at z0 z1 z2 z3 z4 hbe5 hin5
          refine bodyPost_ret (v := .tuple #[.agg #[.int .i64 G.kind, .string G.name, .int .i64 G.n, .slice csa G.scopes.length cscap, .slice ca G.kids.length ccap], .bool true]) (by simp [results, Try.results58, go_sem, z0, z1, z2, z3, z4]) rfl ?_
          exact ⟨_, rfl, hin5, hbe5⟩
end Go.Proofs.Ytmakaoomdnlebaa
