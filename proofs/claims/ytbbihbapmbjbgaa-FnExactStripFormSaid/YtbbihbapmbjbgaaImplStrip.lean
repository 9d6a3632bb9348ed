/- The contract of the program's form without scopes. -/
import Derived.Test.YtbbihbapmbjbgaaStripped
import Derived.Test.YtbbihbapmbjbgaaImplSame
namespace Go.Proofs.Ytbbihbapmbjbgaa
open Go.RowKit
set_option linter.unusedVariables false
set_option linter.unusedSimpArgs false
set_option maxRecDepth 100000 in
set_option maxHeartbeats 1000000 in
theorem implStrip_any (f : Fm) (v : Value) (w : World) (hv : InV (· < w.heap.size) w f v) (hsz : f.sz ≤ 1048576) (hend : EndlessAt v w) :
    Calls Try.prog 63 #[v] w (ToPost (f.chg fun _ _ => []) w) := by
  have hcg := chgStrip.changed_any f
  show Calls Try.prog 63 #[v] w (ToPost (f.chg chgStrip.chF) w)
  generalize f.chg chgStrip.chF = G at hcg ⊢
  have HCG := Lib.hid hcg
  clear hcg
  have HV := Lib.hid hv
  have HEND := Lib.hid hend
  obtain ⟨sa, scap, a, cap, rfl⟩ := hv.form
  clear hv hend
  go_enter Try.func63, Try.ntmps63
  go_wp2_with fail
  have hA0 : Below w.heap.size w ((w.alloc (.cells #[.int .i64 f.kind, .string f.name, .int .i64 f.n, .slice sa f.scopes.length scap, .slice a f.kids.length cap] 31)).alloc (.cells #[.int .i64 0, .string { data := #[] }, .int .i64 0, .slice none 0 0, .slice none 0 0] 31)) := (below_alloc w _).alloc (by simp) _
  have HA0 := Lib.hid hA0
  refine (HEND.out _ hA0).mono ?_
  rintro e w1 ⟨rfl, hb1⟩
  have hs1 : w.heap.size + 2 ≤ w1.heap.size := by have := hb1.size; simpa using this
  obtain ⟨x0, x1, x2, x3, x4⟩ := ((FormBox.fresh w f sa a scap cap 31).later (below_alloc _ _)).later hb1
  have hz1 : w1.heap[w.heap.size + 1]? = some (.cells #[.int .i64 0, .string { data := #[] }, .int .i64 0, .slice none 0 0, .slice none 0 0] 31 (0, 0)) := by
    have := heap_alloc_new (w.alloc (.cells #[.int .i64 f.kind, .string f.name, .int .i64 f.n, .slice sa f.scopes.length scap, .slice a f.kids.length cap] 31)) (.cells #[.int .i64 0, .string { data := #[] }, .int .i64 0, .slice none 0 0, .slice none 0 0] 31)
    rw [size_alloc'] at this
    rw [hb1.block _ (by simp), this]
  have HZ1 := Lib.hid hz1
  have HB1 : Hid (Below w.heap.size w w1) := HA0.out.trans (hb1.mono (by simp; omega))
  clear hb1 hA0 hz1
  go_wp2_with fail
  refine (HCG.out _ w1 (InV.mono (fun k hk => (by omega : k < w1.heap.size)) _ _ (InV.later (same_below HB1.out) _ _ HV.out)) hsz).mono ?_
  rintro e w2 ⟨rsa, rscap, ra, rcap, bs, rfl, hown, hnew, hpl, hb2⟩
  have hro1 := (hb2.block (w.heap.size + 1) (by omega)).trans HZ1.out
  have r0 : w2.cell? ⟨w.heap.size + 1, 0, none⟩ = some (.int .i64 0) := by rw [cell_of_row w2 _ 0 _ _ _ hro1]; rfl
  have r1 : w2.cell? ⟨w.heap.size + 1, 1, none⟩ = some (.string { data := #[] }) := by rw [cell_of_row w2 _ 1 _ _ _ hro1]; rfl
  have r2 : w2.cell? ⟨w.heap.size + 1, 2, none⟩ = some (.int .i64 0) := by rw [cell_of_row w2 _ 2 _ _ _ hro1]; rfl
  have r3 : w2.cell? ⟨w.heap.size + 1, 3, none⟩ = some (.slice none 0 0) := by rw [cell_of_row w2 _ 3 _ _ _ hro1]; rfl
  have r4 : w2.cell? ⟨w.heap.size + 1, 4, none⟩ = some (.slice none 0 0) := by rw [cell_of_row w2 _ 4 _ _ _ hro1]; rfl
  have hplr : Plain w2 (w.heap.size + 1) := ⟨_, _, hro1⟩
  have t0 := hplr.frozen 0
  have t1 := hplr.frozen 1
  have t2 := hplr.frozen 2
  have t3 := hplr.frozen 3
  have t4 := hplr.frozen 4
  have hs2 := hb2.size
  have HOWN := Lib.hid hown
  have HNEW := Lib.hid hnew
  have HPL := Lib.hid hpl
  have HB2 : Hid (Below w.heap.size w w2) := HB1.out.trans (hb2.mono (by omega))
  clear hro1 hplr hown hnew hpl hb2
  go_wp2_with fail
  have hth : ∀ j, j < 5 → ∃ v, w2.cell? ⟨w.heap.size + 1, 0 + j, none⟩ = some v := fun j hj => by
    rw [Nat.zero_add]
    match j, hj with
    | 0, _ => exact ⟨_, r0⟩
    | 1, _ => exact ⟨_, r1⟩
    | 2, _ => exact ⟨_, r2⟩
    | 3, _ => exact ⟨_, r3⟩
    | 4, _ => exact ⟨_, r4⟩
  obtain ⟨z0, z1, z2, z3, z4⟩ := set5_in w2 (w.heap.size + 1) 0 (.int .i64 G.kind) (.string G.name) (.int .i64 G.n) (.slice rsa G.scopes.length rscap) (.slice ra G.kids.length rcap) hth
  have hss : SameOn bs w2 (set5 w2 (w.heap.size + 1) 0 (.int .i64 G.kind) (.string G.name) (.int .i64 G.n) (.slice rsa G.scopes.length rscap) (.slice ra G.kids.length rcap)) :=
    fun c hc => set5_block _ _ _ _ _ _ _ _ (by have := (HNEW.out.2 c hc).1; omega)
  have hown5 := OwnV.later _ _ _ hss HOWN.out
  have hpl5 := HPL.out.same hss
  have hz5 := set5_size w2 (w.heap.size + 1) 0 (.int .i64 G.kind) (.string G.name) (.int .i64 G.n) (.slice rsa G.scopes.length rscap) (.slice ra G.kids.length rcap)
  have hbe5 := set5_below HB2.out (b := w.heap.size + 1) (by omega) 0 (.int .i64 G.kind) (.string G.name) (.int .i64 G.n) (.slice rsa G.scopes.length rscap) (.slice ra G.kids.length rcap)
  have hnew5 : NewBs bs w.heap.size (set5 w2 (w.heap.size + 1) 0 (.int .i64 G.kind) (.string G.name) (.int .i64 G.n) (.slice rsa G.scopes.length rscap) (.slice ra G.kids.length rcap)).heap.size := by rw [hz5]; exact HNEW.out.mono (by omega) (Nat.le_refl _)
  unfold set5 at z0 z1 z2 z3 z4 hown5 hpl5 hbe5 hnew5
  simp only [Nat.zero_add] at z0 z1 z2 z3 z4 hown5 hpl5 hbe5 hnew5
  refine bodyPost_ret (v := .agg #[.int .i64 G.kind, .string G.name, .int .i64 G.n, .slice rsa G.scopes.length rscap, .slice ra G.kids.length rcap]) (by simp [results, Try.results63, go_sem, z0, z1, z2, z3, z4]) rfl ?_
  exact ⟨rsa, rscap, ra, rcap, bs, rfl, hown5, hnew5, hpl5, hbe5⟩
end Go.Proofs.Ytbbihbapmbjbgaa
