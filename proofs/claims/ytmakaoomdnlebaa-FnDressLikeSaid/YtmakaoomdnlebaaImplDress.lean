/- The contract of the program's DressLike. -/
import Derived.Test.YtmakaoomdnlebaaScopeLaw
import Derived.Test.YtmakaoomdnlebaaImplScope
import Derived.Test.YtmakaoomdnlebaaNameIs
namespace Go.Proofs.Ytmakaoomdnlebaa
open Go.RowKit
set_option linter.unusedVariables false
set_option linter.unusedSimpArgs false
set_option maxRecDepth 100000 in
set_option maxHeartbeats 1000000 in
theorem implDress_any (f g : Fm) (v v2 : Value) (w : World) (hv : InV (· < w.heap.size) w f v) (hv2 : InV (· < w.heap.size) w g v2) (hsz : f.sz ≤ 1048576)
    (ok : Bool) (R : Fm) (hok : (isNameB g && redB (fun own given => uniqL (own ++ given)) g.scopes f) = ok) (hR : (if ok = true then f.chg (dressF (fun own given => uniqL (own ++ given)) g.scopes) else zeroForm) = R) :
    Calls Try.prog 36 #[v, v2] w (OwnPost R ok w) := by
  have HR := Lib.hid hR
  have HOK := Lib.hid hok
  clear hR hok
  obtain ⟨sa, scap, a, cap, rfl⟩ := hv.form
  obtain ⟨sb, sbcap, b, bcap, rfl⟩ := hv2.form
  have HV := Lib.hid hv
  have HV2 := Lib.hid hv2
  clear hv hv2
  go_enter Try.func36, Try.ntmps36
  go_wp2_with fail
  have hA1 : Below w.heap.size w ((w.alloc (.cells #[.int .i64 f.kind, .string f.name, .int .i64 f.n, .slice sa f.scopes.length scap, .slice a f.kids.length cap] 27)).alloc (.cells #[.int .i64 g.kind, .string g.name, .int .i64 g.n, .slice sb g.scopes.length sbcap, .slice b g.kids.length bcap] 27)) := (below_alloc w _).alloc (by simp) _
  have hA0 : Below w.heap.size w (((w.alloc (.cells #[.int .i64 f.kind, .string f.name, .int .i64 f.n, .slice sa f.scopes.length scap, .slice a f.kids.length cap] 27)).alloc (.cells #[.int .i64 g.kind, .string g.name, .int .i64 g.n, .slice sb g.scopes.length sbcap, .slice b g.kids.length bcap] 27)).alloc (.cells #[.int .i64 0, .string { data := #[] }, .int .i64 0, .slice none 0 0, .slice none 0 0] 27)) := hA1.alloc (by simp <;> omega) _
  refine (isName_any w.heap.size g _ _ (by simp <;> omega) (InV.later (same_below hA0) _ _ HV2.out)).mono ?_
  rintro e w3 ⟨rfl, hb3⟩
  have hs3 : w.heap.size + 3 ≤ w3.heap.size := by have := hb3.size; simp at this; omega
  have hz3 : w3.heap[w.heap.size + 2]? = some (.cells #[.int .i64 0, .string { data := #[] }, .int .i64 0, .slice none 0 0, .slice none 0 0] 27 (0, 0)) := by
    rw [hb3.block _ (by simp <;> omega)]
    have := heap_alloc_new ((w.alloc (.cells #[.int .i64 f.kind, .string f.name, .int .i64 f.n, .slice sa f.scopes.length scap, .slice a f.kids.length cap] 27)).alloc (.cells #[.int .i64 g.kind, .string g.name, .int .i64 g.n, .slice sb g.scopes.length sbcap, .slice b g.kids.length bcap] 27)) (.cells #[.int .i64 0, .string { data := #[] }, .int .i64 0, .slice none 0 0, .slice none 0 0] 27)
    rw [size_alloc', size_alloc'] at this
    exact this
  have HX : Hid (FormBox w3 w.heap.size f sa scap a cap) := (((FormBox.fresh w f sa a scap cap 27).later (below_alloc _ _)).later (below_alloc _ _)).later hb3
  have HY : Hid (FormBox w3 (w.heap.size + 1) g sb sbcap b bcap) := by
    have h0 := FormBox.fresh (w.alloc (.cells #[.int .i64 f.kind, .string f.name, .int .i64 f.n, .slice sa f.scopes.length scap, .slice a f.kids.length cap] 27)) g sb b sbcap bcap 27
    rw [size_alloc'] at h0
    exact (h0.later (below_alloc _ _)).later hb3
  have HB3 : Hid (Below w.heap.size w w3) := hA0.trans (hb3.mono (by simp <;> omega))
  have HZ3 := Lib.hid hz3
  have hlt3 : w.heap.size + 2 < w3.heap.size := by omega
  clear hb3 hA0 hA1
  cases hgb : isNameB g with
  | false =>
    obtain rfl : false = ok := by rw [← HOK.out, hgb]; rfl
    obtain rfl : zeroForm = R := HR.out
    clear hgb
    obtain ⟨r0, r1, r2, r3, r4, t0, t1, t2, t3, t4⟩ := zeroFacts hz3
    have hth := Lib.hid (zeroThere hz3)
    clear hz3
    go_wp2_with fail
    obtain ⟨z0, z1, z2, z3, z4⟩ := set5_in w3 (w.heap.size + 2) 0 (.int .i64 0) (.string { data := #[] }) (.int .i64 0) (.slice none 0 0) (.slice none 0 0) hth.out
    have hbe5 := set5_below HB3.out (b := w.heap.size + 2) (by omega) 0 (.int .i64 0) (.string { data := #[] }) (.int .i64 0) (.slice none 0 0) (.slice none 0 0)
    unfold set5 at z0 z1 z2 z3 z4 hbe5
    simp only [Nat.zero_add] at z0 z1 z2 z3 z4 hbe5
    refine bodyPost_ret (v := .tuple #[.agg #[.int .i64 0, .string { data := #[] }, .int .i64 0, .slice none 0 0, .slice none 0 0], .bool false]) (by simp [results, Try.results36, go_sem, z0, z1, z2, z3, z4]) rfl ?_
    exact ⟨none, 0, none, 0, [], rfl, zeroOwn _, NewBs.nil _ _, AllPlain.nil _, hbe5⟩
  | true =>
    have HG : Hid (redB (fun own given => uniqL (own ++ given)) g.scopes f = ok) := by unfold Hid; rw [← HOK.out, hgb]; rfl
    clear hgb hz3 HOK
    obtain ⟨x0, x1, x2, x3, x4⟩ := HX.out
    obtain ⟨y0, y1, y2, y3, y4⟩ := HY.out
    clear y0 y1 y2 y4
    have HS : Hid (IntRow (· < w3.heap.size) w3 (.slice sb g.scopes.length sbcap) g.scopes) := (InV.row3 (InV.later (same_below HB3.out) _ _ HV2.out)).mono fun k (hk : k < w.heap.size) => (by omega : k < w3.heap.size)
    go_wp2_with fail
    refine (redressed_any (fun own given => uniqL (own ++ given)) 60 g.scopes (combUnion g.scopes) f _ _ _ w3 (InV.mono (fun k (hk : k < w.heap.size) => (by omega : k < w3.heap.size)) _ _ (InV.later (same_below HB3.out) _ _ HV.out)) hsz HS.out ok R HG.out HR.out).mono ?_
    rintro e w4 ⟨csa, cscap, ca, ccap, bs, rfl, hown, hnew, hpl, hb4⟩
    have hs4 := hb4.size
    have hz4 := (hb4.block _ (by omega)).trans HZ3.out
    have HB4 : Hid (Below w.heap.size w w4) := HB3.out.trans (hb4.mono (by omega))
    have HOWN := Lib.hid hown
    have HNEW := Lib.hid hnew
    have HPL := Lib.hid hpl
    clear hb4 hown hnew hpl x0 x1 x2 x3 x4 y3
    obtain ⟨r0, r1, r2, r3, r4, t0, t1, t2, t3, t4⟩ := zeroFacts hz4
    have hth := Lib.hid (zeroThere hz4)
    clear hz4
    go_wp2_with fail
    obtain ⟨z0, z1, z2, z3, z4⟩ := set5_in w4 (w.heap.size + 2) 0 (.int .i64 R.kind) (.string R.name) (.int .i64 R.n) (.slice csa R.scopes.length cscap) (.slice ca R.kids.length ccap) hth.out
    have hz5 := set5_size w4 (w.heap.size + 2) 0 (.int .i64 R.kind) (.string R.name) (.int .i64 R.n) (.slice csa R.scopes.length cscap) (.slice ca R.kids.length ccap)
    have hbe5 := set5_below HB4.out (b := w.heap.size + 2) (by omega) 0 (.int .i64 R.kind) (.string R.name) (.int .i64 R.n) (.slice csa R.scopes.length cscap) (.slice ca R.kids.length ccap)
    have hss : SameOn bs w4 (set5 w4 (w.heap.size + 2) 0 (.int .i64 R.kind) (.string R.name) (.int .i64 R.n) (.slice csa R.scopes.length cscap) (.slice ca R.kids.length ccap)) := fun c hc => set5_block _ _ _ _ _ _ _ _ (by have := (HNEW.out.2 c hc).1; omega)
    have hown5 := OwnV.later _ _ _ hss HOWN.out
    have hpl5 := HPL.out.same hss
    have hnew5 : NewBs bs w.heap.size (set5 w4 (w.heap.size + 2) 0 (.int .i64 R.kind) (.string R.name) (.int .i64 R.n) (.slice csa R.scopes.length cscap) (.slice ca R.kids.length ccap)).heap.size := by rw [hz5]; exact HNEW.out.mono (by omega) (Nat.le_refl _)
    unfold set5 at z0 z1 z2 z3 z4 hbe5 hown5 hpl5 hnew5
    simp only [Nat.zero_add] at z0 z1 z2 z3 z4 hbe5 hown5 hpl5 hnew5
    refine bodyPost_ret (v := .tuple #[.agg #[.int .i64 R.kind, .string R.name, .int .i64 R.n, .slice csa R.scopes.length cscap, .slice ca R.kids.length ccap], .bool ok]) (by simp [results, Try.results36, go_sem, z0, z1, z2, z3, z4]) rfl ?_
    exact ⟨csa, cscap, ca, ccap, bs, rfl, hown5, hnew5, hpl5, hbe5⟩
end Go.Proofs.Ytmakaoomdnlebaa

