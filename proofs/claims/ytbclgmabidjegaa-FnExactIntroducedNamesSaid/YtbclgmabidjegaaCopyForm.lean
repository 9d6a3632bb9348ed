/- The contract of the program's copy of a form. -/
import Derived.Test.YtbclgmabidjegaaChangedCopy
namespace Go.Proofs.Ytbclgmabidjegaa
open Go.RowKit
set_option linter.unusedVariables false
set_option linter.unusedSimpArgs false
mutual
theorem chg_copy : ∀ f : Fm, f.chg chgCopy.chF = f
  | .mk k nm n sc ks => by rw [Fm.chg, chgAll_copy ks]; rfl
theorem chgAll_copy : ∀ ks : List Fm, chgAll chgCopy.chF ks = ks
  | [] => rfl
  | f :: r => by rw [chgAll, chg_copy f, chgAll_copy r]
end
set_option maxRecDepth 100000 in
set_option maxHeartbeats 1000000 in
theorem copyForm_any (f : Fm) (v : Value) (w : World) (hv : InV (· < w.heap.size) w f v) (hsz : f.sz ≤ 1048576) :
    Calls Try.prog 127 #[v] w (ToPost f w) := by
  have hcg := chgCopy.changed_any f
  rw [chg_copy] at hcg
  have HCG := Lib.hid hcg
  clear hcg
  have HV := Lib.hid hv
  obtain ⟨sa, scap, a, cap, rfl⟩ := hv.form
  clear hv
  go_enter Try.func127, Try.ntmps127
  go_wp2_with fail
  have hA0 : Below w.heap.size w ((w.alloc (.cells #[.int .i64 f.kind, .string f.name, .int .i64 f.n, .slice sa f.scopes.length scap, .slice a f.kids.length cap] 33)).alloc (.cells #[.int .i64 0, .string { data := #[] }, .int .i64 0, .slice none 0 0, .slice none 0 0] 33)) := (below_alloc w _).alloc (by simp) _
  have hz1 : ((w.alloc (.cells #[.int .i64 f.kind, .string f.name, .int .i64 f.n, .slice sa f.scopes.length scap, .slice a f.kids.length cap] 33)).alloc (.cells #[.int .i64 0, .string { data := #[] }, .int .i64 0, .slice none 0 0, .slice none 0 0] 33)).heap[w.heap.size + 1]? = some (.cells #[.int .i64 0, .string { data := #[] }, .int .i64 0, .slice none 0 0, .slice none 0 0] 33 (0, 0)) := by
    have := heap_alloc_new (w.alloc (.cells #[.int .i64 f.kind, .string f.name, .int .i64 f.n, .slice sa f.scopes.length scap, .slice a f.kids.length cap] 33)) (.cells #[.int .i64 0, .string { data := #[] }, .int .i64 0, .slice none 0 0, .slice none 0 0] 33)
    rw [size_alloc'] at this
    exact this
  have hs1 : w.heap.size + 2 ≤ ((w.alloc (.cells #[.int .i64 f.kind, .string f.name, .int .i64 f.n, .slice sa f.scopes.length scap, .slice a f.kids.length cap] 33)).alloc (.cells #[.int .i64 0, .string { data := #[] }, .int .i64 0, .slice none 0 0, .slice none 0 0] 33)).heap.size := by simp
  generalize ((w.alloc (.cells #[.int .i64 f.kind, .string f.name, .int .i64 f.n, .slice sa f.scopes.length scap, .slice a f.kids.length cap] 33)).alloc (.cells #[.int .i64 0, .string { data := #[] }, .int .i64 0, .slice none 0 0, .slice none 0 0] 33)) = w1 at hA0 hz1 hs1 ⊢
  have HZ1 := Lib.hid hz1
  have HB1 := Lib.hid hA0
  clear hA0 hz1
  refine (HCG.out _ w1 (InV.mono (fun k hk => (by omega : k < w1.heap.size)) _ _ (InV.later (same_below HB1.out) _ _ HV.out)) hsz).mono ?_
  rintro e w2 ⟨rsa, rscap, ra, rcap, bs, rfl, hown, hnew, hpl, hb2⟩
  have hro1 := (hb2.block (w.heap.size + 1) (by omega)).trans HZ1.out
  have r0 : w2.cell? ⟨w.heap.size + 1, 0, none⟩ = some (.int .i64 0) := by rw [cell_of_row w2 _ 0 _ _ _ hro1]; rfl
  have r1 : w2.cell? ⟨w.heap.size + 1, 1, none⟩ = some (.string { data := #[] }) := by rw [cell_of_row w2 _ 1 _ _ _ hro1]; rfl
  have r2 : w2.cell? ⟨w.heap.size + 1, 2, none⟩ = some (.int .i64 0) := by rw [cell_of_row w2 _ 2 _ _ _ hro1]; rfl
  have r3 : w2.cell? ⟨w.heap.size + 1, 3, none⟩ = some (.slice none 0 0) := by rw [cell_of_row w2 _ 3 _ _ _ hro1]; rfl
  have r4 : w2.cell? ⟨w.heap.size + 1, 4, none⟩ = some (.slice none 0 0) := by rw [cell_of_row w2 _ 4 _ _ _ hro1]; rfl
  have hplr : Plain w2 (w.heap.size + 1) := ⟨_, _, hro1⟩
  have t0 := hplr.frozen 0
  have t1 := hplr.frozen 1
  have t2 := hplr.frozen 2
  have t3 := hplr.frozen 3
  have t4 := hplr.frozen 4
  have hs2 := hb2.size
  have HOWN := Lib.hid hown
  have HNEW := Lib.hid hnew
  have HPL := Lib.hid hpl
  have HB2 : Hid (Below w.heap.size w w2) := HB1.out.trans (hb2.mono (by omega))
  clear hro1 hplr hown hnew hpl hb2
  go_wp2_with fail
  have hth : ∀ j, j < 5 → ∃ v, w2.cell? ⟨w.heap.size + 1, 0 + j, none⟩ = some v := fun j hj => by
    rw [Nat.zero_add]
    match j, hj with
    | 0, _ => exact ⟨_, r0⟩
    | 1, _ => exact ⟨_, r1⟩
    | 2, _ => exact ⟨_, r2⟩
    | 3, _ => exact ⟨_, r3⟩
    | 4, _ => exact ⟨_, r4⟩
  obtain ⟨z0, z1, z2, z3, z4⟩ := set5_in w2 (w.heap.size + 1) 0 (.int .i64 f.kind) (.string f.name) (.int .i64 f.n) (.slice rsa f.scopes.length rscap) (.slice ra f.kids.length rcap) hth
  have hss : SameOn bs w2 (set5 w2 (w.heap.size + 1) 0 (.int .i64 f.kind) (.string f.name) (.int .i64 f.n) (.slice rsa f.scopes.length rscap) (.slice ra f.kids.length rcap)) :=
    fun c hc => set5_block _ _ _ _ _ _ _ _ (by have := (HNEW.out.2 c hc).1; omega)
  have hown5 := OwnV.later _ _ _ hss HOWN.out
  have hpl5 := HPL.out.same hss
  have hz5 := set5_size w2 (w.heap.size + 1) 0 (.int .i64 f.kind) (.string f.name) (.int .i64 f.n) (.slice rsa f.scopes.length rscap) (.slice ra f.kids.length rcap)
  have hbe5 := set5_below HB2.out (b := w.heap.size + 1) (by omega) 0 (.int .i64 f.kind) (.string f.name) (.int .i64 f.n) (.slice rsa f.scopes.length rscap) (.slice ra f.kids.length rcap)
  have hnew5 : NewBs bs w.heap.size (set5 w2 (w.heap.size + 1) 0 (.int .i64 f.kind) (.string f.name) (.int .i64 f.n) (.slice rsa f.scopes.length rscap) (.slice ra f.kids.length rcap)).heap.size := by rw [hz5]; exact HNEW.out.mono (by omega) (Nat.le_refl _)
  unfold set5 at z0 z1 z2 z3 z4 hown5 hpl5 hbe5 hnew5
  simp only [Nat.zero_add] at z0 z1 z2 z3 z4 hown5 hpl5 hbe5 hnew5
  refine bodyPost_ret (v := .agg #[.int .i64 f.kind, .string f.name, .int .i64 f.n, .slice rsa f.scopes.length rscap, .slice ra f.kids.length rcap]) (by simp [results, Try.results127, go_sem, z0, z1, z2, z3, z4]) rfl ?_
  exact ⟨rsa, rscap, ra, rcap, bs, rfl, hown5, hnew5, hpl5, hbe5⟩
end Go.Proofs.Ytbclgmabidjegaa
