/- The contracts of the program's AddScope, FlipScope and DropScope. -/
import Derived.Test.YtmakaoomdnlebaaDressed
import Derived.Test.YtmakaoomdnlebaaSetFns2
import Derived.Test.YtmakaoomdnlebaaData
namespace Go.Proofs.Ytmakaoomdnlebaa
open Go.RowKit
set_option linter.unusedVariables false
set_option linter.unusedSimpArgs false
theorem combUnion (gs : List Int) : Comb (fun own given => uniqL (own ++ given)) 60 gs :=
  ⟨enters_of Try.func60 (by kernel_rfl) rfl, fun l hl hg n hn => by
    rcases List.mem_append.1 ((mem_uniqL _ n).1 hn) with h | h
    · exact scopes_bounds hl n h
    · exact hg n h, fun l pa pb ca cb W hl hg ha hb => union_any (· < W.heap.size) l gs pa pb ca cb W (fun k hk => hk) ha hb (by have := scopes_length hl; have := scopes_length hg; omega)⟩
theorem combDiff (gs : List Int) : Comb diffL 59 gs :=
  ⟨enters_of Try.func59 (by kernel_rfl) rfl, fun l hl hg n hn => scopes_bounds hl n ((mem_diffL l gs n).1 hn).1,
    fun l pa pb ca cb W hl hg ha hb => difference_any (· < W.heap.size) l gs pa pb ca cb W (fun k hk => hk) ha hb (by have := scopes_length hl; omega) (by have := scopes_length hg; omega) (ascL_of_scopesB hg).le⟩
theorem combSymm (gs : List Int) : Comb symL 57 gs :=
  ⟨enters_of Try.func57 (by kernel_rfl) rfl, fun l hl hg n hn => by
    unfold symL at hn
    rcases List.mem_append.1 ((mem_uniqL _ n).1 hn) with h | h
    · exact scopes_bounds hl n ((mem_diffL l gs n).1 h).1
    · exact hg n ((mem_diffL gs l n).1 h).1,
    fun l pa pb ca cb W hl hg ha hb => symm_any (· < W.heap.size) l gs pa pb ca cb W (fun k hk => hk) ha hb (by have := scopes_length hl; have := scopes_length hg; omega) (ascL_of_scopesB hl).le (ascL_of_scopesB hg).le⟩
set_option maxRecDepth 100000 in
set_option maxHeartbeats 1000000 in
theorem implAddScope_any (f : Fm) (v : Value) (scope : Int) (w : World) (hv : InV (· < w.heap.size) w f v) (hsz : f.sz ≤ 1048576) (hscope : -9223372036854775808 ≤ scope ∧ scope ≤ 9223372036854775807)
    (ok : Bool) (R : Fm) (hok : redB (fun own given => uniqL (own ++ given)) [scope] f = ok) (hR : (if ok = true then f.chg (dressF (fun own given => uniqL (own ++ given)) [scope]) else zeroForm) = R) :
    Calls Try.prog 23 #[v, .int .i64 scope] w (OwnPost R ok w) := by
  have HR := Lib.hid hR
  have HOK := Lib.hid hok
  clear hR hok
  obtain ⟨sa, scap, a, cap, rfl⟩ := hv.form
  have HV := Lib.hid hv
  clear hv
  obtain ⟨wA, hwA⟩ : ∃ wA, wA = (((w.alloc (.cells #[.int .i64 f.kind, .string f.name, .int .i64 f.n, .slice sa f.scopes.length scap, .slice a f.kids.length cap] 27)).alloc (.cells #[.int .i64 0, .string { data := #[] }, .int .i64 0, .slice none 0 0, .slice none 0 0] 27)).alloc (.cells #[.int .i64 scope] 3)) := ⟨_, rfl⟩
  have hsA : wA.heap.size = w.heap.size + 3 := by rw [hwA]; simp
  have hA0 : Below w.heap.size w wA := by rw [hwA]; exact (((Below.refl _ w).alloc (Nat.le_refl _) _).alloc (by simp) _).alloc (by simp; omega) _
  have hS : IntRow (· < wA.heap.size) wA (.slice (some ⟨w.heap.size + 1 + 1, 0, none⟩) [scope].length 1) [scope] := by
    refine ⟨_, 1, rfl, Nat.le_refl _, by unfold maxLen; omega, fun n hn => by rw [List.mem_singleton] at hn; subst hn; exact hscope, .inr ⟨_, 0, rfl, by omega, fun i hi => ?_⟩⟩
    obtain rfl : i = 0 := by simp at hi; exact hi
    rw [hwA]
    exact World.cell?_alloc_at _ _ _ _ (by simp)
  have hZ : wA.heap[w.heap.size + 1]? = some (.cells #[.int .i64 0, .string { data := #[] }, .int .i64 0, .slice none 0 0, .slice none 0 0] 27 (0, 0)) := by
    have := heap_alloc_new (w.alloc (.cells #[.int .i64 f.kind, .string f.name, .int .i64 f.n, .slice sa f.scopes.length scap, .slice a f.kids.length cap] 27)) (.cells #[.int .i64 0, .string { data := #[] }, .int .i64 0, .slice none 0 0, .slice none 0 0] 27)
    rw [size_alloc'] at this
    rw [hwA, (below_alloc _ _).block _ (by simp)]
    exact this
  have HWA := Lib.hid hwA
  have HA0 := Lib.hid hA0
  have HS := Lib.hid hS
  have HZ := Lib.hid hZ
  clear hwA hA0 hS hZ
  go_enter Try.func23, Try.ntmps23
  go_wp2_with fail
  have hwA := HWA.out
  rw [← hwA]
  clear hwA
  refine (redressed_any (fun own given => uniqL (own ++ given)) 60 [scope] (combUnion [scope]) f _ _ 1 wA (InV.mono (fun k (hk : k < w.heap.size) => (by omega : k < wA.heap.size)) _ _ (InV.later (same_below HA0.out) _ _ HV.out)) hsz HS.out ok R HOK.out HR.out).mono ?_
  rintro e w3 ⟨csa, cscap, ca, ccap, bs, rfl, hown, hnew, hpl, hb3⟩
  have hs3 := hb3.size
  have hz3 := (hb3.block _ (by omega)).trans HZ.out
  have HB3 : Hid (Below w.heap.size w w3) := HA0.out.trans (hb3.mono (by omega))
  have HOWN := Lib.hid hown
  have HNEW := Lib.hid hnew
  have HPL := Lib.hid hpl
  clear hb3 hown hnew hpl
  obtain ⟨r0, r1, r2, r3, r4, t0, t1, t2, t3, t4⟩ := zeroFacts hz3
  have hth := Lib.hid (zeroThere hz3)
  clear hz3
  go_wp2_with fail
  obtain ⟨z0, z1, z2, z3, z4⟩ := set5_in w3 (w.heap.size + 1) 0 (.int .i64 R.kind) (.string R.name) (.int .i64 R.n) (.slice csa R.scopes.length cscap) (.slice ca R.kids.length ccap) hth.out
  have hz5 := set5_size w3 (w.heap.size + 1) 0 (.int .i64 R.kind) (.string R.name) (.int .i64 R.n) (.slice csa R.scopes.length cscap) (.slice ca R.kids.length ccap)
  have hbe5 := set5_below HB3.out (b := w.heap.size + 1) (by omega) 0 (.int .i64 R.kind) (.string R.name) (.int .i64 R.n) (.slice csa R.scopes.length cscap) (.slice ca R.kids.length ccap)
  have hss : SameOn bs w3 (set5 w3 (w.heap.size + 1) 0 (.int .i64 R.kind) (.string R.name) (.int .i64 R.n) (.slice csa R.scopes.length cscap) (.slice ca R.kids.length ccap)) := fun c hc => set5_block _ _ _ _ _ _ _ _ (by have := (HNEW.out.2 c hc).1; omega)
  have hown5 := OwnV.later _ _ _ hss HOWN.out
  have hpl5 := HPL.out.same hss
  have hnew5 : NewBs bs w.heap.size (set5 w3 (w.heap.size + 1) 0 (.int .i64 R.kind) (.string R.name) (.int .i64 R.n) (.slice csa R.scopes.length cscap) (.slice ca R.kids.length ccap)).heap.size := by rw [hz5]; exact HNEW.out.mono (by omega) (Nat.le_refl _)
  unfold set5 at z0 z1 z2 z3 z4 hbe5 hown5 hpl5 hnew5
  simp only [Nat.zero_add] at z0 z1 z2 z3 z4 hbe5 hown5 hpl5 hnew5
  refine bodyPost_ret (v := .tuple #[.agg #[.int .i64 R.kind, .string R.name, .int .i64 R.n, .slice csa R.scopes.length cscap, .slice ca R.kids.length ccap], .bool ok]) (by simp [results, Try.results23, go_sem, z0, z1, z2, z3, z4]) rfl ?_
  exact ⟨csa, cscap, ca, ccap, bs, rfl, hown5, hnew5, hpl5, hbe5⟩
set_option maxRecDepth 100000 in
set_option maxHeartbeats 1000000 in
theorem implFlipScope_any (f : Fm) (v : Value) (scope : Int) (w : World) (hv : InV (· < w.heap.size) w f v) (hsz : f.sz ≤ 1048576) (hscope : -9223372036854775808 ≤ scope ∧ scope ≤ 9223372036854775807)
    (ok : Bool) (R : Fm) (hok : redB symL [scope] f = ok) (hR : (if ok = true then f.chg (dressF symL [scope]) else zeroForm) = R) :
    Calls Try.prog 20 #[v, .int .i64 scope] w (OwnPost R ok w) := by
  have HR := Lib.hid hR
  have HOK := Lib.hid hok
  clear hR hok
  obtain ⟨sa, scap, a, cap, rfl⟩ := hv.form
  have HV := Lib.hid hv
  clear hv
  obtain ⟨wA, hwA⟩ : ∃ wA, wA = (((w.alloc (.cells #[.int .i64 f.kind, .string f.name, .int .i64 f.n, .slice sa f.scopes.length scap, .slice a f.kids.length cap] 27)).alloc (.cells #[.int .i64 0, .string { data := #[] }, .int .i64 0, .slice none 0 0, .slice none 0 0] 27)).alloc (.cells #[.int .i64 scope] 3)) := ⟨_, rfl⟩
  have hsA : wA.heap.size = w.heap.size + 3 := by rw [hwA]; simp
  have hA0 : Below w.heap.size w wA := by rw [hwA]; exact (((Below.refl _ w).alloc (Nat.le_refl _) _).alloc (by simp) _).alloc (by simp; omega) _
  have hS : IntRow (· < wA.heap.size) wA (.slice (some ⟨w.heap.size + 1 + 1, 0, none⟩) [scope].length 1) [scope] := by
    refine ⟨_, 1, rfl, Nat.le_refl _, by unfold maxLen; omega, fun n hn => by rw [List.mem_singleton] at hn; subst hn; exact hscope, .inr ⟨_, 0, rfl, by omega, fun i hi => ?_⟩⟩
    obtain rfl : i = 0 := by simp at hi; exact hi
    rw [hwA]
    exact World.cell?_alloc_at _ _ _ _ (by simp)
  have hZ : wA.heap[w.heap.size + 1]? = some (.cells #[.int .i64 0, .string { data := #[] }, .int .i64 0, .slice none 0 0, .slice none 0 0] 27 (0, 0)) := by
    have := heap_alloc_new (w.alloc (.cells #[.int .i64 f.kind, .string f.name, .int .i64 f.n, .slice sa f.scopes.length scap, .slice a f.kids.length cap] 27)) (.cells #[.int .i64 0, .string { data := #[] }, .int .i64 0, .slice none 0 0, .slice none 0 0] 27)
    rw [size_alloc'] at this
    rw [hwA, (below_alloc _ _).block _ (by simp)]
    exact this
  have HWA := Lib.hid hwA
  have HA0 := Lib.hid hA0
  have HS := Lib.hid hS
  have HZ := Lib.hid hZ
  clear hwA hA0 hS hZ
  go_enter Try.func20, Try.ntmps20
  go_wp2_with fail
  have hwA := HWA.out
  rw [← hwA]
  clear hwA
  refine (redressed_any symL 57 [scope] (combSymm [scope]) f _ _ 1 wA (InV.mono (fun k (hk : k < w.heap.size) => (by omega : k < wA.heap.size)) _ _ (InV.later (same_below HA0.out) _ _ HV.out)) hsz HS.out ok R HOK.out HR.out).mono ?_
  rintro e w3 ⟨csa, cscap, ca, ccap, bs, rfl, hown, hnew, hpl, hb3⟩
  have hs3 := hb3.size
  have hz3 := (hb3.block _ (by omega)).trans HZ.out
  have HB3 : Hid (Below w.heap.size w w3) := HA0.out.trans (hb3.mono (by omega))
  have HOWN := Lib.hid hown
  have HNEW := Lib.hid hnew
  have HPL := Lib.hid hpl
  clear hb3 hown hnew hpl
  obtain ⟨r0, r1, r2, r3, r4, t0, t1, t2, t3, t4⟩ := zeroFacts hz3
  have hth := Lib.hid (zeroThere hz3)
  clear hz3
  go_wp2_with fail
  obtain ⟨z0, z1, z2, z3, z4⟩ := set5_in w3 (w.heap.size + 1) 0 (.int .i64 R.kind) (.string R.name) (.int .i64 R.n) (.slice csa R.scopes.length cscap) (.slice ca R.kids.length ccap) hth.out
  have hz5 := set5_size w3 (w.heap.size + 1) 0 (.int .i64 R.kind) (.string R.name) (.int .i64 R.n) (.slice csa R.scopes.length cscap) (.slice ca R.kids.length ccap)
  have hbe5 := set5_below HB3.out (b := w.heap.size + 1) (by omega) 0 (.int .i64 R.kind) (.string R.name) (.int .i64 R.n) (.slice csa R.scopes.length cscap) (.slice ca R.kids.length ccap)
  have hss : SameOn bs w3 (set5 w3 (w.heap.size + 1) 0 (.int .i64 R.kind) (.string R.name) (.int .i64 R.n) (.slice csa R.scopes.length cscap) (.slice ca R.kids.length ccap)) := fun c hc => set5_block _ _ _ _ _ _ _ _ (by have := (HNEW.out.2 c hc).1; omega)
  have hown5 := OwnV.later _ _ _ hss HOWN.out
  have hpl5 := HPL.out.same hss
  have hnew5 : NewBs bs w.heap.size (set5 w3 (w.heap.size + 1) 0 (.int .i64 R.kind) (.string R.name) (.int .i64 R.n) (.slice csa R.scopes.length cscap) (.slice ca R.kids.length ccap)).heap.size := by rw [hz5]; exact HNEW.out.mono (by omega) (Nat.le_refl _)
  unfold set5 at z0 z1 z2 z3 z4 hbe5 hown5 hpl5 hnew5
  simp only [Nat.zero_add] at z0 z1 z2 z3 z4 hbe5 hown5 hpl5 hnew5
  refine bodyPost_ret (v := .tuple #[.agg #[.int .i64 R.kind, .string R.name, .int .i64 R.n, .slice csa R.scopes.length cscap, .slice ca R.kids.length ccap], .bool ok]) (by simp [results, Try.results20, go_sem, z0, z1, z2, z3, z4]) rfl ?_
  exact ⟨csa, cscap, ca, ccap, bs, rfl, hown5, hnew5, hpl5, hbe5⟩
set_option maxRecDepth 100000 in
set_option maxHeartbeats 1000000 in
theorem implDropScope_any (f : Fm) (v : Value) (scope : Int) (w : World) (hv : InV (· < w.heap.size) w f v) (hsz : f.sz ≤ 1048576) (hscope : -9223372036854775808 ≤ scope ∧ scope ≤ 9223372036854775807)
    (ok : Bool) (R : Fm) (hok : redB diffL [scope] f = ok) (hR : (if ok = true then f.chg (dressF diffL [scope]) else zeroForm) = R) :
    Calls Try.prog 22 #[v, .int .i64 scope] w (OwnPost R ok w) := by
  have HR := Lib.hid hR
  have HOK := Lib.hid hok
  clear hR hok
  obtain ⟨sa, scap, a, cap, rfl⟩ := hv.form
  have HV := Lib.hid hv
  clear hv
  obtain ⟨wA, hwA⟩ : ∃ wA, wA = (((w.alloc (.cells #[.int .i64 f.kind, .string f.name, .int .i64 f.n, .slice sa f.scopes.length scap, .slice a f.kids.length cap] 27)).alloc (.cells #[.int .i64 0, .string { data := #[] }, .int .i64 0, .slice none 0 0, .slice none 0 0] 27)).alloc (.cells #[.int .i64 scope] 3)) := ⟨_, rfl⟩
  have hsA : wA.heap.size = w.heap.size + 3 := by rw [hwA]; simp
  have hA0 : Below w.heap.size w wA := by rw [hwA]; exact (((Below.refl _ w).alloc (Nat.le_refl _) _).alloc (by simp) _).alloc (by simp; omega) _
  have hS : IntRow (· < wA.heap.size) wA (.slice (some ⟨w.heap.size + 1 + 1, 0, none⟩) [scope].length 1) [scope] := by
    refine ⟨_, 1, rfl, Nat.le_refl _, by unfold maxLen; omega, fun n hn => by rw [List.mem_singleton] at hn; subst hn; exact hscope, .inr ⟨_, 0, rfl, by omega, fun i hi => ?_⟩⟩
    obtain rfl : i = 0 := by simp at hi; exact hi
    rw [hwA]
    exact World.cell?_alloc_at _ _ _ _ (by simp)
  have hZ : wA.heap[w.heap.size + 1]? = some (.cells #[.int .i64 0, .string { data := #[] }, .int .i64 0, .slice none 0 0, .slice none 0 0] 27 (0, 0)) := by
    have := heap_alloc_new (w.alloc (.cells #[.int .i64 f.kind, .string f.name, .int .i64 f.n, .slice sa f.scopes.length scap, .slice a f.kids.length cap] 27)) (.cells #[.int .i64 0, .string { data := #[] }, .int .i64 0, .slice none 0 0, .slice none 0 0] 27)
    rw [size_alloc'] at this
    rw [hwA, (below_alloc _ _).block _ (by simp)]
    exact this
  have HWA := Lib.hid hwA
  have HA0 := Lib.hid hA0
  have HS := Lib.hid hS
  have HZ := Lib.hid hZ
  clear hwA hA0 hS hZ
  go_enter Try.func22, Try.ntmps22
  go_wp2_with fail
  have hwA := HWA.out
  rw [← hwA]
  clear hwA
  refine (redressed_any diffL 59 [scope] (combDiff [scope]) f _ _ 1 wA (InV.mono (fun k (hk : k < w.heap.size) => (by omega : k < wA.heap.size)) _ _ (InV.later (same_below HA0.out) _ _ HV.out)) hsz HS.out ok R HOK.out HR.out).mono ?_
  rintro e w3 ⟨csa, cscap, ca, ccap, bs, rfl, hown, hnew, hpl, hb3⟩
  have hs3 := hb3.size
  have hz3 := (hb3.block _ (by omega)).trans HZ.out
  have HB3 : Hid (Below w.heap.size w w3) := HA0.out.trans (hb3.mono (by omega))
  have HOWN := Lib.hid hown
  have HNEW := Lib.hid hnew
  have HPL := Lib.hid hpl
  clear hb3 hown hnew hpl
  obtain ⟨r0, r1, r2, r3, r4, t0, t1, t2, t3, t4⟩ := zeroFacts hz3
  have hth := Lib.hid (zeroThere hz3)
  clear hz3
  go_wp2_with fail
  obtain ⟨z0, z1, z2, z3, z4⟩ := set5_in w3 (w.heap.size + 1) 0 (.int .i64 R.kind) (.string R.name) (.int .i64 R.n) (.slice csa R.scopes.length cscap) (.slice ca R.kids.length ccap) hth.out
  have hz5 := set5_size w3 (w.heap.size + 1) 0 (.int .i64 R.kind) (.string R.name) (.int .i64 R.n) (.slice csa R.scopes.length cscap) (.slice ca R.kids.length ccap)
  have hbe5 := set5_below HB3.out (b := w.heap.size + 1) (by omega) 0 (.int .i64 R.kind) (.string R.name) (.int .i64 R.n) (.slice csa R.scopes.length cscap) (.slice ca R.kids.length ccap)
  have hss : SameOn bs w3 (set5 w3 (w.heap.size + 1) 0 (.int .i64 R.kind) (.string R.name) (.int .i64 R.n) (.slice csa R.scopes.length cscap) (.slice ca R.kids.length ccap)) := fun c hc => set5_block _ _ _ _ _ _ _ _ (by have := (HNEW.out.2 c hc).1; omega)
  have hown5 := OwnV.later _ _ _ hss HOWN.out
  have hpl5 := HPL.out.same hss
  have hnew5 : NewBs bs w.heap.size (set5 w3 (w.heap.size + 1) 0 (.int .i64 R.kind) (.string R.name) (.int .i64 R.n) (.slice csa R.scopes.length cscap) (.slice ca R.kids.length ccap)).heap.size := by rw [hz5]; exact HNEW.out.mono (by omega) (Nat.le_refl _)
  unfold set5 at z0 z1 z2 z3 z4 hbe5 hown5 hpl5 hnew5
  simp only [Nat.zero_add] at z0 z1 z2 z3 z4 hbe5 hown5 hpl5 hnew5
  refine bodyPost_ret (v := .tuple #[.agg #[.int .i64 R.kind, .string R.name, .int .i64 R.n, .slice csa R.scopes.length cscap, .slice ca R.kids.length ccap], .bool ok]) (by simp [results, Try.results22, go_sem, z0, z1, z2, z3, z4]) rfl ?_
  exact ⟨csa, cscap, ca, ccap, bs, rfl, hown5, hnew5, hpl5, hbe5⟩
end Go.Proofs.Ytmakaoomdnlebaa
