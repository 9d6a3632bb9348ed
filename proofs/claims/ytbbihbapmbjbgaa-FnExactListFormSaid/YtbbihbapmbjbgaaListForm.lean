/- The contracts of ListForm, the model's and the program's. -/
import Derived.Test.YtbbihbapmbjbgaaData
import Derived.Test.YtbbihbapmbjbgaaSpecCopy
import Derived.Test.YtbbihbapmbjbgaaCopyForm
import Derived.Test.YtbbihbapmbjbgaaValid
namespace Go.Proofs.Ytbbihbapmbjbgaa
open Go.RowKit
set_option linter.unusedVariables false
set_option linter.unusedSimpArgs false
set_option maxRecDepth 100000 in
theorem l1List_any (n cap : Nat) (a : Option Addr) (w : World) :
    Calls Try.prog 98 #[.slice a n cap] w fun e w' => e = .returned (.agg #[.int .i64 3, .string { data := #[] }, .int .i64 0, .slice none 0 0, .slice a n cap]) ∧ Below w.heap.size w w' := by
  go_enter Try.func98, Try.ntmps98
  go_wp2_with fail
  refine bodyPost_ret (v := .agg #[.int .i64 3, .string { data := #[] }, .int .i64 0, .slice none 0 0, .slice a n cap]) (by simp [results, Try.results98, go_sem]) rfl ?_
  exact ⟨rfl, (Below.refl _ w).alloc (Nat.le_refl _) _⟩
set_option maxRecDepth 100000 in
set_option maxHeartbeats 1000000 in
theorem specListForm_any (B : Nat) (ks : List Fm) (a : Option Addr) (cap : Nat) (w : World) (hB : B ≤ w.heap.size) (hv : FormsIn (· < B) w a cap ks) (hsz : szAll ks ≤ 1048576) (ok : Bool) (R : Fm) (hok : formB (listFm ks) = ok) (hR : (if ok = true then listFm ks else zeroForm) = R) :
    Calls Try.prog 59 #[.slice a ks.length cap] w fun e w' => ∃ v, e = .returned (.tuple #[v, .bool ok]) ∧
      InV (fun k => w.heap.size ≤ k ∧ k < w'.heap.size) w' R v ∧ Below w.heap.size w w' := by
  have HR := Lib.hid hR
  have HOK := Lib.hid hok
  clear hR hok
  have HV := Lib.hid hv.form
  have hLsz : (listFm ks).sz ≤ 1048576 := by unfold listFm Fm.sz; rw [show ({ data := #[] } : ByteArray).size = 0 from rfl]; simp; exact hsz
  have hLc := (listFm ks).count_le
  clear hv
  go_enter Try.func59, Try.ntmps59
  go_wp2_with fail
  refine (l1List_any ks.length cap a _).mono ?_
  rintro e w1 ⟨rfl, hb1⟩
  have hs1 : w.heap.size + 1 ≤ w1.heap.size := by have := hb1.size; simpa using this
  have hz1 : w1.heap[w.heap.size]? = some (.cells #[.int .i64 0, .string { data := #[] }, .int .i64 0, .slice none 0 0, .slice none 0 0] 31 (0, 0)) := by rw [hb1.block _ (by simp)]; exact heap_alloc_new w _
  have HB1 : Hid (Below w.heap.size w w1) := (below_alloc w _).trans (hb1.mono (by simp))
  have HZ1 := Lib.hid hz1
  have hlt1 : w.heap.size < w1.heap.size := by omega
  clear hb1 hz1
  go_wp2_with fail
  have hb12 := below_alloc w1 (.cells #[.int .i64 3, .string { data := #[] }, .int .i64 0, .slice none 0 0, .slice a ks.length cap] 31)
  have HV2 : Hid (InV (· < B) (w1.alloc (.cells #[.int .i64 3, .string { data := #[] }, .int .i64 0, .slice none 0 0, .slice a ks.length cap] 31)) (listFm ks) (.agg #[.int .i64 3, .string { data := #[] }, .int .i64 0, .slice none 0 0, .slice a ks.length cap])) := InV.later (same_below ((HB1.out.trans (hb12.mono (by omega))).mono hB)) _ _ HV.out
  refine (specFormValid_any B (listFm ks) _ _ (by simp; omega) HV2.out (by omega)).mono ?_
  rintro e w3 ⟨rfl, hb3⟩
  rw [HOK.out]
  have hb13 : Below w1.heap.size w1 w3 := hb12.trans (hb3.mono (by simp))
  have hs3 : w1.heap.size + 1 ≤ w3.heap.size := by have := hb3.size; simpa using this
  have y0 : w3.cell? ⟨w1.heap.size, 0, none⟩ = some (.int .i64 3) := cell_later' hb3 (World.cell?_alloc_at _ _ _ _ rfl)
  have y1 : w3.cell? ⟨w1.heap.size, 1, none⟩ = some (.string { data := #[] }) := cell_later' hb3 (World.cell?_alloc_at _ _ _ _ rfl)
  have y2 : w3.cell? ⟨w1.heap.size, 2, none⟩ = some (.int .i64 0) := cell_later' hb3 (World.cell?_alloc_at _ _ _ _ rfl)
  have y3 : w3.cell? ⟨w1.heap.size, 3, none⟩ = some (.slice none 0 0) := cell_later' hb3 (World.cell?_alloc_at _ _ _ _ rfl)
  have y4 : w3.cell? ⟨w1.heap.size, 4, none⟩ = some (.slice a ks.length cap) := cell_later' hb3 (World.cell?_alloc_at _ _ _ _ rfl)
  have hz3 := (hb13.block _ hlt1).trans HZ1.out
  have HB3 : Hid (Below w.heap.size w w3) := HB1.out.trans (hb13.mono (by omega))
  have HV3 := Lib.hid (InV.later (same_below (hb3.mono (by simp; omega))) _ _ HV2.out)
  have HZ3 := Lib.hid hz3
  clear hb3 hb12 hb13 HV2
  cases ok with
  | false =>
    obtain ⟨r0, r1, r2, r3, r4, t0, t1, t2, t3, t4⟩ := zeroFacts hz3
    have hth := Lib.hid (zeroThere hz3)
    clear hz3
    go_wp2_with fail
    obtain rfl : zeroForm = R := HR.out
    obtain ⟨z0, z1, z2, z3, z4⟩ := set5_in w3 w.heap.size 0 (.int .i64 0) (.string { data := #[] }) (.int .i64 0) (.slice none 0 0) (.slice none 0 0) hth.out
    have hz5 := set5_size w3 w.heap.size 0 (.int .i64 0) (.string { data := #[] }) (.int .i64 0) (.slice none 0 0) (.slice none 0 0)
    have hbe5 := set5_below HB3.out (b := w.heap.size) (Nat.le_refl _) 0 (.int .i64 0) (.string { data := #[] }) (.int .i64 0) (.slice none 0 0) (.slice none 0 0)
    have hin5 : InV (fun k => w.heap.size ≤ k ∧ k < (set5 w3 w.heap.size 0 (.int .i64 0) (.string { data := #[] }) (.int .i64 0) (.slice none 0 0) (.slice none 0 0)).heap.size) (set5 w3 w.heap.size 0 (.int .i64 0) (.string { data := #[] }) (.int .i64 0) (.slice none 0 0) (.slice none 0 0)) zeroForm (.agg #[.int .i64 0, .string { data := #[] }, .int .i64 0, .slice none 0 0, .slice none 0 0]) := zeroIn _ _
    unfold set5 at z0 z1 z2 z3 z4 hbe5 hin5
    simp only [Nat.zero_add] at z0 z1 z2 z3 z4 hbe5 hin5
    refine bodyPost_ret (v := .tuple #[.agg #[.int .i64 0, .string { data := #[] }, .int .i64 0, .slice none 0 0, .slice none 0 0], .bool false]) (by simp [results, Try.results59, go_sem, z0, z1, z2, z3, z4]) rfl ?_
    exact ⟨_, rfl, hin5, hbe5⟩
  | true =>
    clear hz3
    go_wp2_with fail
    refine (specCopy_any B (listFm ks) _ w3 (by omega) HV3.out hLsz).mono ?_
    rintro e w4 ⟨cv, rfl, hc, hb4⟩
    have hRG : listFm ks = R := HR.out
    rw [hRG] at hc
    obtain ⟨csa, cscap, ca, ccap, rfl⟩ := hc.form
    have hz4 := (hb4.block _ (by omega)).trans HZ3.out
    obtain ⟨r0, r1, r2, r3, r4, t0, t1, t2, t3, t4⟩ := zeroFacts hz4
    have hth := Lib.hid (zeroThere hz4)
    have hs4 := hb4.size
    have HB4 : Hid (Below w.heap.size w w4) := HB3.out.trans (hb4.mono (by omega))
    have HC := Lib.hid hc
    clear hb4 hc hz4 y0 y1 y2 y3 y4
    go_wp2_with fail
    obtain ⟨z0, z1, z2, z3, z4⟩ := set5_in w4 w.heap.size 0 (.int .i64 R.kind) (.string R.name) (.int .i64 R.n) (.slice csa R.scopes.length cscap) (.slice ca R.kids.length ccap) hth.out
    have hz5 := set5_size w4 w.heap.size 0 (.int .i64 R.kind) (.string R.name) (.int .i64 R.n) (.slice csa R.scopes.length cscap) (.slice ca R.kids.length ccap)
    have hbe5 := set5_below HB4.out (b := w.heap.size) (Nat.le_refl _) 0 (.int .i64 R.kind) (.string R.name) (.int .i64 R.n) (.slice csa R.scopes.length cscap) (.slice ca R.kids.length ccap)
    have hin5 : InV (fun k => w.heap.size ≤ k ∧ k < (set5 w4 w.heap.size 0 (.int .i64 R.kind) (.string R.name) (.int .i64 R.n) (.slice csa R.scopes.length cscap) (.slice ca R.kids.length ccap)).heap.size) (set5 w4 w.heap.size 0 (.int .i64 R.kind) (.string R.name) (.int .i64 R.n) (.slice csa R.scopes.length cscap) (.slice ca R.kids.length ccap)) R (.agg #[.int .i64 R.kind, .string R.name, .int .i64 R.n, .slice csa R.scopes.length cscap, .slice ca R.kids.length ccap]) := InV.mono (fun k (hk : w3.heap.size ≤ k ∧ k < w4.heap.size) => ⟨by omega, by rw [hz5]; exact hk.2⟩) _ _ (InV.later (fun k (hk : w3.heap.size ≤ k ∧ k < w4.heap.size) => set5_block _ _ _ _ _ _ _ _ (by omega)) _ _ HC.out)
    unfold set5 at z0 z1 z2 z3 z4 hbe5 hin5
    simp only [Nat.zero_add] at z0 z1 z2 z3 z4 hbe5 hin5
    refine bodyPost_ret (v := .tuple #[.agg #[.int .i64 R.kind, .string R.name, .int .i64 R.n, .slice csa R.scopes.length cscap, .slice ca R.kids.length ccap], .bool true]) (by simp [results, Try.results59, go_sem, z0, z1, z2, z3, z4]) rfl ?_
    exact ⟨_, rfl, hin5, hbe5⟩
set_option maxRecDepth 100000 in
set_option maxHeartbeats 1000000 in
theorem implListForm_any (B : Nat) (ks : List Fm) (a : Option Addr) (cap : Nat) (w : World) (hB : B ≤ w.heap.size) (hv : FormsIn (· < B) w a cap ks) (hsz : szAll ks ≤ 1048576) (ok : Bool) (R : Fm) (hok : formB (listFm ks) = ok) (hR : (if ok = true then listFm ks else zeroForm) = R) :
    Calls Try.prog 60 #[.slice a ks.length cap] w fun e w' => ∃ sa scap a cap bs, e = .returned (.tuple #[.agg #[.int .i64 R.kind, .string R.name, .int .i64 R.n, .slice sa R.scopes.length scap, .slice a R.kids.length cap], .bool ok]) ∧
      OwnV w' R (.agg #[.int .i64 R.kind, .string R.name, .int .i64 R.n, .slice sa R.scopes.length scap, .slice a R.kids.length cap]) bs ∧ NewBs bs w.heap.size w'.heap.size ∧ AllPlain w' bs ∧ Below w.heap.size w w' := by
  have HR := Lib.hid hR
  have HOK := Lib.hid hok
  clear hR hok
  have HV := Lib.hid hv.form
  have hLsz : (listFm ks).sz ≤ 1048576 := by unfold listFm Fm.sz; rw [show ({ data := #[] } : ByteArray).size = 0 from rfl]; simp; exact hsz
  clear hv
  go_enter Try.func60, Try.ntmps60
  go_wp2_with fail
  have hA0 : Below w.heap.size w ((w.alloc (.cells #[.int .i64 0, .string { data := #[] }, .int .i64 0, .slice none 0 0, .slice none 0 0] 31)).alloc (.cells #[.int .i64 3, .string { data := #[] }, .int .i64 0, .slice none 0 0, .slice a ks.length cap] 31)) := (below_alloc w _).alloc (by simp) _
  have HV2 : Hid (InV (· < B) ((w.alloc (.cells #[.int .i64 0, .string { data := #[] }, .int .i64 0, .slice none 0 0, .slice none 0 0] 31)).alloc (.cells #[.int .i64 3, .string { data := #[] }, .int .i64 0, .slice none 0 0, .slice a ks.length cap] 31)) (listFm ks) (.agg #[.int .i64 3, .string { data := #[] }, .int .i64 0, .slice none 0 0, .slice a ks.length cap])) := InV.later (same_below (hA0.mono hB)) _ _ HV.out
  refine (implFormValid_any B (listFm ks) _ _ (by simp; omega) HV2.out).mono ?_
  rintro e w3 ⟨rfl, hb3⟩
  have hs3 : w.heap.size + 2 ≤ w3.heap.size := by have := hb3.size; simpa using this
  have ya : ∀ i, w3.cell? ⟨w.heap.size + 1, i, none⟩ = (#[.int .i64 3, .string { data := #[] }, .int .i64 0, .slice none 0 0, .slice a ks.length cap] : Array Value)[i]? := fun i =>
    (hb3.cell (p := ⟨w.heap.size + 1, i, none⟩) (by simp)).trans (World.cell?_alloc_at _ _ _ _ (by simp))
  have y0 : w3.cell? ⟨w.heap.size + 1, 0, none⟩ = some (.int .i64 3) := ya 0
  have y1 : w3.cell? ⟨w.heap.size + 1, 1, none⟩ = some (.string { data := #[] }) := ya 1
  have y2 : w3.cell? ⟨w.heap.size + 1, 2, none⟩ = some (.int .i64 0) := ya 2
  have y3 : w3.cell? ⟨w.heap.size + 1, 3, none⟩ = some (.slice none 0 0) := ya 3
  have y4 : w3.cell? ⟨w.heap.size + 1, 4, none⟩ = some (.slice a ks.length cap) := ya 4
  have hz3 : w3.heap[w.heap.size]? = some (.cells #[.int .i64 0, .string { data := #[] }, .int .i64 0, .slice none 0 0, .slice none 0 0] 31 (0, 0)) := by
    rw [hb3.block _ (by simp; omega), (below_alloc _ _).block _ (by simp)]
    exact heap_alloc_new w _
  have HB3 : Hid (Below w.heap.size w w3) := hA0.trans (hb3.mono (by simp; omega))
  have HV3 := Lib.hid (InV.later (same_below (hb3.mono (by simp; omega))) _ _ HV2.out)
  have HZ3 := Lib.hid hz3
  clear hb3 hA0 HV2 ya
  rw [HOK.out]
  cases ok with
  | false =>
    obtain ⟨r0, r1, r2, r3, r4, t0, t1, t2, t3, t4⟩ := zeroFacts hz3
    have hth := Lib.hid (zeroThere hz3)
    clear hz3
    go_wp2_with fail
    obtain rfl : zeroForm = R := HR.out
    obtain ⟨z0, z1, z2, z3, z4⟩ := set5_in w3 w.heap.size 0 (.int .i64 0) (.string { data := #[] }) (.int .i64 0) (.slice none 0 0) (.slice none 0 0) hth.out
    have hz5 := set5_size w3 w.heap.size 0 (.int .i64 0) (.string { data := #[] }) (.int .i64 0) (.slice none 0 0) (.slice none 0 0)
    have hbe5 := set5_below HB3.out (b := w.heap.size) (Nat.le_refl _) 0 (.int .i64 0) (.string { data := #[] }) (.int .i64 0) (.slice none 0 0) (.slice none 0 0)
    unfold set5 at z0 z1 z2 z3 z4 hbe5
    simp only [Nat.zero_add] at z0 z1 z2 z3 z4 hbe5
    refine bodyPost_ret (v := .tuple #[.agg #[.int .i64 0, .string { data := #[] }, .int .i64 0, .slice none 0 0, .slice none 0 0], .bool false]) (by simp [results, Try.results60, go_sem, z0, z1, z2, z3, z4]) rfl ?_
    exact ⟨none, 0, none, 0, [], rfl, zeroOwn _, NewBs.nil _ _, AllPlain.nil _, hbe5⟩
  | true =>
    clear hz3
    go_wp2_with fail
    refine (copyForm_any (listFm ks) _ w3 (InV.mono (fun k (hk : k < B) => (by omega : k < w3.heap.size)) _ _ HV3.out) hLsz).mono ?_
    rintro e w4 hp
    have hRG : listFm ks = R := HR.out
    rw [hRG] at hp
    obtain ⟨csa, cscap, ca, ccap, bs, rfl, hown, hnew, hpl, hb4⟩ := hp
    have hz4 := (hb4.block _ (by omega)).trans HZ3.out
    obtain ⟨r0, r1, r2, r3, r4, t0, t1, t2, t3, t4⟩ := zeroFacts hz4
    have hth := Lib.hid (zeroThere hz4)
    have hs4 := hb4.size
    have HB4 : Hid (Below w.heap.size w w4) := HB3.out.trans (hb4.mono (by omega))
    have HOWN := Lib.hid hown
    have HNEW := Lib.hid hnew
    have HPL := Lib.hid hpl
    clear hb4 hown hnew hpl hz4 y0 y1 y2 y3 y4
    go_wp2_with fail
    obtain ⟨z0, z1, z2, z3, z4⟩ := set5_in w4 w.heap.size 0 (.int .i64 R.kind) (.string R.name) (.int .i64 R.n) (.slice csa R.scopes.length cscap) (.slice ca R.kids.length ccap) hth.out
    have hz5 := set5_size w4 w.heap.size 0 (.int .i64 R.kind) (.string R.name) (.int .i64 R.n) (.slice csa R.scopes.length cscap) (.slice ca R.kids.length ccap)
    have hbe5 := set5_below HB4.out (b := w.heap.size) (Nat.le_refl _) 0 (.int .i64 R.kind) (.string R.name) (.int .i64 R.n) (.slice csa R.scopes.length cscap) (.slice ca R.kids.length ccap)
    have hss : SameOn bs w4 (set5 w4 w.heap.size 0 (.int .i64 R.kind) (.string R.name) (.int .i64 R.n) (.slice csa R.scopes.length cscap) (.slice ca R.kids.length ccap)) := fun c hc => set5_block _ _ _ _ _ _ _ _ (by have := (HNEW.out.2 c hc).1; omega)
    have hown5 := OwnV.later _ _ _ hss HOWN.out
    have hpl5 := HPL.out.same hss
    have hnew5 : NewBs bs w.heap.size (set5 w4 w.heap.size 0 (.int .i64 R.kind) (.string R.name) (.int .i64 R.n) (.slice csa R.scopes.length cscap) (.slice ca R.kids.length ccap)).heap.size := by rw [hz5]; exact HNEW.out.mono (by omega) (Nat.le_refl _)
    unfold set5 at z0 z1 z2 z3 z4 hbe5 hown5 hpl5 hnew5
    simp only [Nat.zero_add] at z0 z1 z2 z3 z4 hbe5 hown5 hpl5 hnew5
    refine bodyPost_ret (v := .tuple #[.agg #[.int .i64 R.kind, .string R.name, .int .i64 R.n, .slice csa R.scopes.length cscap, .slice ca R.kids.length ccap], .bool true]) (by simp [results, Try.results60, go_sem, z0, z1, z2, z3, z4]) rfl ?_
    exact ⟨csa, cscap, ca, ccap, bs, rfl, hown5, hnew5, hpl5, hbe5⟩
end Go.Proofs.Ytbbihbapmbjbgaa
