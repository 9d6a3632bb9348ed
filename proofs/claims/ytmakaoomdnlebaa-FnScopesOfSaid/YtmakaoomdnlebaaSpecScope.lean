/- The contracts of the model's AddScope, FlipScope and DropScope. -/
import Derived.Test.YtmakaoomdnlebaaSpecDone
namespace Go.Proofs.Ytmakaoomdnlebaa
open Go.RowKit
set_option linter.unusedVariables false
set_option linter.unusedSimpArgs false
set_option maxRecDepth 100000 in
set_option maxHeartbeats 1000000 in
theorem specAddScope_any (B : Nat) (f : Fm) (v : Value) (scope : Int) (w : World) (hB : B ≤ w.heap.size) (hv : InV (· < B) w f v) (hsz : f.sz ≤ 1048576) (hscope : -9223372036854775808 ≤ scope ∧ scope ≤ 9223372036854775807)
    (ok : Bool) (R : Fm) (hok : doneB f (f.chg (chgW 0 scope)) scope = ok) (hR : (if ok = true then f.chg (chgW 0 scope) else zeroForm) = R) :
    Calls Try.prog 25 #[v, .int .i64 scope] w fun e w' => ∃ v, e = .returned (.tuple #[v, .bool ok]) ∧
      InV (fun k => w.heap.size ≤ k ∧ k < w'.heap.size) w' R v ∧ Below w.heap.size w w' := by
  have HR := Lib.hid hR
  have HOK := Lib.hid hok
  clear hR hok
  obtain ⟨sa, scap, a, cap, rfl⟩ := hv.form
  have HV := Lib.hid hv
  clear hv
  go_enter Try.func25, Try.ntmps25
  go_wp2_with fail
  have hA0 : Below w.heap.size w ((w.alloc (.cells #[.int .i64 f.kind, .string f.name, .int .i64 f.n, .slice sa f.scopes.length scap, .slice a f.kids.length cap] 27)).alloc (.cells #[.int .i64 0, .string { data := #[] }, .int .i64 0, .slice none 0 0, .slice none 0 0] 27)) := (below_alloc w _).alloc (by simp) _
  refine (specDone_any B f _ scope 0 _ (by simp; omega) (InV.later (same_below (hA0.mono hB)) _ _ HV.out) hsz hscope ok R HOK.out HR.out).mono ?_
  rintro e w3 ⟨cv, rfl, hc, hb3⟩
  obtain ⟨csa, cscap, ca, ccap, rfl⟩ := hc.form
  have hs3 : w.heap.size + 2 ≤ w3.heap.size := by have := hb3.size; simpa using this
  have hz3 : w3.heap[w.heap.size + 1]? = some (.cells #[.int .i64 0, .string { data := #[] }, .int .i64 0, .slice none 0 0, .slice none 0 0] 27 (0, 0)) := by
    rw [hb3.block _ (by simp)]
    have := heap_alloc_new (w.alloc (.cells #[.int .i64 f.kind, .string f.name, .int .i64 f.n, .slice sa f.scopes.length scap, .slice a f.kids.length cap] 27)) (.cells #[.int .i64 0, .string { data := #[] }, .int .i64 0, .slice none 0 0, .slice none 0 0] 27)
    rw [size_alloc'] at this
    exact this
  have HB3 : Hid (Below w.heap.size w w3) := hA0.trans (hb3.mono (by simp; omega))
  have HC : Hid (InV (fun k => w.heap.size ≤ k ∧ k < w3.heap.size ∧ k ≠ w.heap.size + 1) w3 R _) := InV.mono (fun k hk => by have h1 := hk.1; have h2 := hk.2; simp at h1; exact ⟨by omega, by omega, by omega⟩) _ _ hc
  have hlt3 : w.heap.size + 1 < w3.heap.size := by omega
  clear hb3 hA0 hc
  obtain ⟨r0, r1, r2, r3, r4, t0, t1, t2, t3, t4⟩ := zeroFacts hz3
  have hth := Lib.hid (zeroThere hz3)
  clear hz3
  go_wp2_with fail
  obtain ⟨z0, z1, z2, z3, z4⟩ := set5_in w3 (w.heap.size + 1) 0 (.int .i64 R.kind) (.string R.name) (.int .i64 R.n) (.slice csa R.scopes.length cscap) (.slice ca R.kids.length ccap) hth.out
  have hz5 := set5_size w3 (w.heap.size + 1) 0 (.int .i64 R.kind) (.string R.name) (.int .i64 R.n) (.slice csa R.scopes.length cscap) (.slice ca R.kids.length ccap)
  have hbe5 := set5_below HB3.out (b := w.heap.size + 1) (by omega) 0 (.int .i64 R.kind) (.string R.name) (.int .i64 R.n) (.slice csa R.scopes.length cscap) (.slice ca R.kids.length ccap)
  have hin5 : InV (fun k => w.heap.size ≤ k ∧ k < (set5 w3 (w.heap.size + 1) 0 (.int .i64 R.kind) (.string R.name) (.int .i64 R.n) (.slice csa R.scopes.length cscap) (.slice ca R.kids.length ccap)).heap.size) (set5 w3 (w.heap.size + 1) 0 (.int .i64 R.kind) (.string R.name) (.int .i64 R.n) (.slice csa R.scopes.length cscap) (.slice ca R.kids.length ccap)) R (.agg #[.int .i64 R.kind, .string R.name, .int .i64 R.n, .slice csa R.scopes.length cscap, .slice ca R.kids.length ccap]) := InV.mono (fun k hk => ⟨hk.1, by rw [hz5]; exact hk.2.1⟩) _ _ (InV.later (fun c hc => set5_block _ _ _ _ _ _ _ _ hc.2.2) _ _ HC.out)
  unfold set5 at z0 z1 z2 z3 z4 hbe5 hin5
  simp only [Nat.zero_add] at z0 z1 z2 z3 z4 hbe5 hin5
  refine bodyPost_ret (v := .tuple #[.agg #[.int .i64 R.kind, .string R.name, .int .i64 R.n, .slice csa R.scopes.length cscap, .slice ca R.kids.length ccap], .bool ok]) (by simp [results, Try.results25, go_sem, z0, z1, z2, z3, z4]) rfl ?_
  exact ⟨_, rfl, hin5, hbe5⟩
set_option maxRecDepth 100000 in
set_option maxHeartbeats 1000000 in
theorem specFlipScope_any (B : Nat) (f : Fm) (v : Value) (scope : Int) (w : World) (hB : B ≤ w.heap.size) (hv : InV (· < B) w f v) (hsz : f.sz ≤ 1048576) (hscope : -9223372036854775808 ≤ scope ∧ scope ≤ 9223372036854775807)
    (ok : Bool) (R : Fm) (hok : doneB f (f.chg (chgW 1 scope)) scope = ok) (hR : (if ok = true then f.chg (chgW 1 scope) else zeroForm) = R) :
    Calls Try.prog 21 #[v, .int .i64 scope] w fun e w' => ∃ v, e = .returned (.tuple #[v, .bool ok]) ∧
      InV (fun k => w.heap.size ≤ k ∧ k < w'.heap.size) w' R v ∧ Below w.heap.size w w' := by
  have HR := Lib.hid hR
  have HOK := Lib.hid hok
  clear hR hok
  obtain ⟨sa, scap, a, cap, rfl⟩ := hv.form
  have HV := Lib.hid hv
  clear hv
  go_enter Try.func21, Try.ntmps21
  go_wp2_with fail
  have hA0 : Below w.heap.size w ((w.alloc (.cells #[.int .i64 f.kind, .string f.name, .int .i64 f.n, .slice sa f.scopes.length scap, .slice a f.kids.length cap] 27)).alloc (.cells #[.int .i64 0, .string { data := #[] }, .int .i64 0, .slice none 0 0, .slice none 0 0] 27)) := (below_alloc w _).alloc (by simp) _
  refine (specDone_any B f _ scope 1 _ (by simp; omega) (InV.later (same_below (hA0.mono hB)) _ _ HV.out) hsz hscope ok R HOK.out HR.out).mono ?_
  rintro e w3 ⟨cv, rfl, hc, hb3⟩
  obtain ⟨csa, cscap, ca, ccap, rfl⟩ := hc.form
  have hs3 : w.heap.size + 2 ≤ w3.heap.size := by have := hb3.size; simpa using this
  have hz3 : w3.heap[w.heap.size + 1]? = some (.cells #[.int .i64 0, .string { data := #[] }, .int .i64 0, .slice none 0 0, .slice none 0 0] 27 (0, 0)) := by
    rw [hb3.block _ (by simp)]
    have := heap_alloc_new (w.alloc (.cells #[.int .i64 f.kind, .string f.name, .int .i64 f.n, .slice sa f.scopes.length scap, .slice a f.kids.length cap] 27)) (.cells #[.int .i64 0, .string { data := #[] }, .int .i64 0, .slice none 0 0, .slice none 0 0] 27)
    rw [size_alloc'] at this
    exact this
  have HB3 : Hid (Below w.heap.size w w3) := hA0.trans (hb3.mono (by simp; omega))
  have HC : Hid (InV (fun k => w.heap.size ≤ k ∧ k < w3.heap.size ∧ k ≠ w.heap.size + 1) w3 R _) := InV.mono (fun k hk => by have h1 := hk.1; have h2 := hk.2; simp at h1; exact ⟨by omega, by omega, by omega⟩) _ _ hc
  have hlt3 : w.heap.size + 1 < w3.heap.size := by omega
  clear hb3 hA0 hc
  obtain ⟨r0, r1, r2, r3, r4, t0, t1, t2, t3, t4⟩ := zeroFacts hz3
  have hth := Lib.hid (zeroThere hz3)
  clear hz3
  go_wp2_with fail
  obtain ⟨z0, z1, z2, z3, z4⟩ := set5_in w3 (w.heap.size + 1) 0 (.int .i64 R.kind) (.string R.name) (.int .i64 R.n) (.slice csa R.scopes.length cscap) (.slice ca R.kids.length ccap) hth.out
  have hz5 := set5_size w3 (w.heap.size + 1) 0 (.int .i64 R.kind) (.string R.name) (.int .i64 R.n) (.slice csa R.scopes.length cscap) (.slice ca R.kids.length ccap)
  have hbe5 := set5_below HB3.out (b := w.heap.size + 1) (by omega) 0 (.int .i64 R.kind) (.string R.name) (.int .i64 R.n) (.slice csa R.scopes.length cscap) (.slice ca R.kids.length ccap)
  have hin5 : InV (fun k => w.heap.size ≤ k ∧ k < (set5 w3 (w.heap.size + 1) 0 (.int .i64 R.kind) (.string R.name) (.int .i64 R.n) (.slice csa R.scopes.length cscap) (.slice ca R.kids.length ccap)).heap.size) (set5 w3 (w.heap.size + 1) 0 (.int .i64 R.kind) (.string R.name) (.int .i64 R.n) (.slice csa R.scopes.length cscap) (.slice ca R.kids.length ccap)) R (.agg #[.int .i64 R.kind, .string R.name, .int .i64 R.n, .slice csa R.scopes.length cscap, .slice ca R.kids.length ccap]) := InV.mono (fun k hk => ⟨hk.1, by rw [hz5]; exact hk.2.1⟩) _ _ (InV.later (fun c hc => set5_block _ _ _ _ _ _ _ _ hc.2.2) _ _ HC.out)
  unfold set5 at z0 z1 z2 z3 z4 hbe5 hin5
  simp only [Nat.zero_add] at z0 z1 z2 z3 z4 hbe5 hin5
  refine bodyPost_ret (v := .tuple #[.agg #[.int .i64 R.kind, .string R.name, .int .i64 R.n, .slice csa R.scopes.length cscap, .slice ca R.kids.length ccap], .bool ok]) (by simp [results, Try.results21, go_sem, z0, z1, z2, z3, z4]) rfl ?_
  exact ⟨_, rfl, hin5, hbe5⟩
set_option maxRecDepth 100000 in
set_option maxHeartbeats 1000000 in
theorem specDropScope_any (B : Nat) (f : Fm) (v : Value) (scope : Int) (w : World) (hB : B ≤ w.heap.size) (hv : InV (· < B) w f v) (hsz : f.sz ≤ 1048576) (hscope : -9223372036854775808 ≤ scope ∧ scope ≤ 9223372036854775807)
    (ok : Bool) (R : Fm) (hok : doneB f (f.chg (chgW 2 scope)) scope = ok) (hR : (if ok = true then f.chg (chgW 2 scope) else zeroForm) = R) :
    Calls Try.prog 31 #[v, .int .i64 scope] w fun e w' => ∃ v, e = .returned (.tuple #[v, .bool ok]) ∧
      InV (fun k => w.heap.size ≤ k ∧ k < w'.heap.size) w' R v ∧ Below w.heap.size w w' := by
  have HR := Lib.hid hR
  have HOK := Lib.hid hok
  clear hR hok
  obtain ⟨sa, scap, a, cap, rfl⟩ := hv.form
  have HV := Lib.hid hv
  clear hv
  go_enter Try.func31, Try.ntmps31
  go_wp2_with fail
  have hA0 : Below w.heap.size w ((w.alloc (.cells #[.int .i64 f.kind, .string f.name, .int .i64 f.n, .slice sa f.scopes.length scap, .slice a f.kids.length cap] 27)).alloc (.cells #[.int .i64 0, .string { data := #[] }, .int .i64 0, .slice none 0 0, .slice none 0 0] 27)) := (below_alloc w _).alloc (by simp) _
  refine (specDone_any B f _ scope 2 _ (by simp; omega) (InV.later (same_below (hA0.mono hB)) _ _ HV.out) hsz hscope ok R HOK.out HR.out).mono ?_
  rintro e w3 ⟨cv, rfl, hc, hb3⟩
  obtain ⟨csa, cscap, ca, ccap, rfl⟩ := hc.form
  have hs3 : w.heap.size + 2 ≤ w3.heap.size := by have := hb3.size; simpa using this
  have hz3 : w3.heap[w.heap.size + 1]? = some (.cells #[.int .i64 0, .string { data := #[] }, .int .i64 0, .slice none 0 0, .slice none 0 0] 27 (0, 0)) := by
    rw [hb3.block _ (by simp)]
    have := heap_alloc_new (w.alloc (.cells #[.int .i64 f.kind, .string f.name, .int .i64 f.n, .slice sa f.scopes.length scap, .slice a f.kids.length cap] 27)) (.cells #[.int .i64 0, .string { data := #[] }, .int .i64 0, .slice none 0 0, .slice none 0 0] 27)
    rw [size_alloc'] at this
    exact this
  have HB3 : Hid (Below w.heap.size w w3) := hA0.trans (hb3.mono (by simp; omega))
  have HC : Hid (InV (fun k => w.heap.size ≤ k ∧ k < w3.heap.size ∧ k ≠ w.heap.size + 1) w3 R _) := InV.mono (fun k hk => by have h1 := hk.1; have h2 := hk.2; simp at h1; exact ⟨by omega, by omega, by omega⟩) _ _ hc
  have hlt3 : w.heap.size + 1 < w3.heap.size := by omega
  clear hb3 hA0 hc
  obtain ⟨r0, r1, r2, r3, r4, t0, t1, t2, t3, t4⟩ := zeroFacts hz3
  have hth := Lib.hid (zeroThere hz3)
  clear hz3
  go_wp2_with fail
  obtain ⟨z0, z1, z2, z3, z4⟩ := set5_in w3 (w.heap.size + 1) 0 (.int .i64 R.kind) (.string R.name) (.int .i64 R.n) (.slice csa R.scopes.length cscap) (.slice ca R.kids.length ccap) hth.out
  have hz5 := set5_size w3 (w.heap.size + 1) 0 (.int .i64 R.kind) (.string R.name) (.int .i64 R.n) (.slice csa R.scopes.length cscap) (.slice ca R.kids.length ccap)
  have hbe5 := set5_below HB3.out (b := w.heap.size + 1) (by omega) 0 (.int .i64 R.kind) (.string R.name) (.int .i64 R.n) (.slice csa R.scopes.length cscap) (.slice ca R.kids.length ccap)
  have hin5 : InV (fun k => w.heap.size ≤ k ∧ k < (set5 w3 (w.heap.size + 1) 0 (.int .i64 R.kind) (.string R.name) (.int .i64 R.n) (.slice csa R.scopes.length cscap) (.slice ca R.kids.length ccap)).heap.size) (set5 w3 (w.heap.size + 1) 0 (.int .i64 R.kind) (.string R.name) (.int .i64 R.n) (.slice csa R.scopes.length cscap) (.slice ca R.kids.length ccap)) R (.agg #[.int .i64 R.kind, .string R.name, .int .i64 R.n, .slice csa R.scopes.length cscap, .slice ca R.kids.length ccap]) := InV.mono (fun k hk => ⟨hk.1, by rw [hz5]; exact hk.2.1⟩) _ _ (InV.later (fun c hc => set5_block _ _ _ _ _ _ _ _ hc.2.2) _ _ HC.out)
  unfold set5 at z0 z1 z2 z3 z4 hbe5 hin5
  simp only [Nat.zero_add] at z0 z1 z2 z3 z4 hbe5 hin5
  refine bodyPost_ret (v := .tuple #[.agg #[.int .i64 R.kind, .string R.name, .int .i64 R.n, .slice csa R.scopes.length cscap, .slice ca R.kids.length ccap], .bool ok]) (by simp [results, Try.results31, go_sem, z0, z1, z2, z3, z4]) rfl ?_
  exact ⟨_, rfl, hin5, hbe5⟩
end Go.Proofs.Ytmakaoomdnlebaa
