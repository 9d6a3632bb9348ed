/- The contract of the model's DressLike. -/
import Derived.Test.YtmakaoomdnlebaaScopeLaw
import Derived.Test.YtmakaoomdnlebaaSpecCopy
import Derived.Test.YtmakaoomdnlebaaSpecAll
namespace Go.Proofs.Ytmakaoomdnlebaa
open Go.RowKit
set_option linter.unusedVariables false
set_option linter.unusedSimpArgs false
/-- a form dressed like a name -/
def dressB (f g : Fm) : Bool := formB f && (formB g && (g.kind == 1 && formB (f.chg (dressW g.scopes))))
theorem FormBox.there {w : World} {b : Nat} {f : Fm} {sa a : Option Addr} {scap cap : Nat} (h : FormBox w b f sa scap a cap) : ∀ j, j < 5 → ∃ v, w.cell? ⟨b, 0 + j, none⟩ = some v := by
  intro j hj
  obtain ⟨r0, r1, r2, r3, r4⟩ := h
  rw [Nat.zero_add]
  match j, hj with
  | 0, _ => exact ⟨_, r0⟩
  | 1, _ => exact ⟨_, r1⟩
  | 2, _ => exact ⟨_, r2⟩
  | 3, _ => exact ⟨_, r3⟩
  | 4, _ => exact ⟨_, r4⟩
theorem name_scopes {g : Fm} (h : formB g = true) : scopesB g.scopes = true := by
  have h1 := formB_isB h
  obtain ⟨k, nm, n, sc, ks⟩ := g
  exact (isB_node h1).1
set_option maxRecDepth 100000 in
set_option maxHeartbeats 2000000 in
theorem specDress_any (B : Nat) (f g : Fm) (v v2 : Value) (w : World) (hB : B ≤ w.heap.size) (hv : InV (· < B) w f v) (hv2 : InV (· < B) w g v2) (hsz : f.sz ≤ 1048576) (hsz2 : g.sz ≤ 1048576)
    (ok : Bool) (R : Fm) (hok : dressB f g = ok) (hR : (if ok = true then f.chg (dressW g.scopes) else zeroForm) = R) :
    Calls Try.prog 37 #[v, v2] w fun e w' => ∃ v, e = .returned (.tuple #[v, .bool ok]) ∧
      InV (fun k => w.heap.size ≤ k ∧ k < w'.heap.size) w' R v ∧ Below w.heap.size w w' := by
  have HR := Lib.hid hR
  have HOK := Lib.hid hok
  clear hR hok
  obtain ⟨sa, scap, a, cap, rfl⟩ := hv.form
  obtain ⟨sb, sbcap, b, bcap, rfl⟩ := hv2.form
  have HV := Lib.hid hv
  have HV2 := Lib.hid hv2
  have hLc := f.count_le
  have hLc2 := g.count_le
  clear hv hv2
  go_enter Try.func37, Try.ntmps37
  go_wp2_with fail
  have hA1 : Below w.heap.size w ((w.alloc (.cells #[.int .i64 f.kind, .string f.name, .int .i64 f.n, .slice sa f.scopes.length scap, .slice a f.kids.length cap] 27)).alloc (.cells #[.int .i64 g.kind, .string g.name, .int .i64 g.n, .slice sb g.scopes.length sbcap, .slice b g.kids.length bcap] 27)) := (below_alloc w _).alloc (by simp) _
  have hA0 : Below w.heap.size w (((w.alloc (.cells #[.int .i64 f.kind, .string f.name, .int .i64 f.n, .slice sa f.scopes.length scap, .slice a f.kids.length cap] 27)).alloc (.cells #[.int .i64 g.kind, .string g.name, .int .i64 g.n, .slice sb g.scopes.length sbcap, .slice b g.kids.length bcap] 27)).alloc (.cells #[.int .i64 0, .string { data := #[] }, .int .i64 0, .slice none 0 0, .slice none 0 0] 27)) := hA1.alloc (by simp <;> omega) _
  refine (specFormValid_any B f _ _ (by simp <;> omega) (InV.later (same_below (hA0.mono hB)) _ _ HV.out) (by omega)).mono ?_
  rintro e w3 ⟨rfl, hb3⟩
  have hs3 : w.heap.size + 3 ≤ w3.heap.size := by have := hb3.size; simp at this; omega
  have hz3 : w3.heap[w.heap.size + 2]? = some (.cells #[.int .i64 0, .string { data := #[] }, .int .i64 0, .slice none 0 0, .slice none 0 0] 27 (0, 0)) := by
    rw [hb3.block _ (by simp <;> omega)]
    have := heap_alloc_new ((w.alloc (.cells #[.int .i64 f.kind, .string f.name, .int .i64 f.n, .slice sa f.scopes.length scap, .slice a f.kids.length cap] 27)).alloc (.cells #[.int .i64 g.kind, .string g.name, .int .i64 g.n, .slice sb g.scopes.length sbcap, .slice b g.kids.length bcap] 27)) (.cells #[.int .i64 0, .string { data := #[] }, .int .i64 0, .slice none 0 0, .slice none 0 0] 27)
    rw [size_alloc', size_alloc'] at this
    exact this
  have HX : Hid (FormBox w3 w.heap.size f sa scap a cap) := (((FormBox.fresh w f sa a scap cap 27).later (below_alloc _ _)).later (below_alloc _ _)).later hb3
  have HY : Hid (FormBox w3 (w.heap.size + 1) g sb sbcap b bcap) := by
    have h0 := FormBox.fresh (w.alloc (.cells #[.int .i64 f.kind, .string f.name, .int .i64 f.n, .slice sa f.scopes.length scap, .slice a f.kids.length cap] 27)) g sb b sbcap bcap 27
    rw [size_alloc'] at h0
    exact (h0.later (below_alloc _ _)).later hb3
  have HB3 : Hid (Below w.heap.size w w3) := hA0.trans (hb3.mono (by simp <;> omega))
  have HZ3 := Lib.hid hz3
  have hlt3 : w.heap.size + 2 < w3.heap.size := by omega
  clear hb3 hA0 hA1
  cases hfb : formB f with
  | false =>
    obtain rfl : false = ok := by rw [← HOK.out]; unfold dressB; rw [hfb]; rfl
    obtain rfl : zeroForm = R := HR.out
    clear hfb
    obtain ⟨r0, r1, r2, r3, r4, t0, t1, t2, t3, t4⟩ := zeroFacts hz3
    have hth := Lib.hid (zeroThere hz3)
    clear hz3
    go_wp2_with fail
    obtain ⟨z0, z1, z2, z3, z4⟩ := set5_in w3 (w.heap.size + 2) 0 (.int .i64 0) (.string { data := #[] }) (.int .i64 0) (.slice none 0 0) (.slice none 0 0) hth.out
    have hbe5 := set5_below HB3.out (b := w.heap.size + 2) (by omega) 0 (.int .i64 0) (.string { data := #[] }) (.int .i64 0) (.slice none 0 0) (.slice none 0 0)
    have hin5 : InV (fun k => w.heap.size ≤ k ∧ k < (set5 w3 (w.heap.size + 2) 0 (.int .i64 0) (.string { data := #[] }) (.int .i64 0) (.slice none 0 0) (.slice none 0 0)).heap.size) (set5 w3 (w.heap.size + 2) 0 (.int .i64 0) (.string { data := #[] }) (.int .i64 0) (.slice none 0 0) (.slice none 0 0)) zeroForm (.agg #[.int .i64 0, .string { data := #[] }, .int .i64 0, .slice none 0 0, .slice none 0 0]) := zeroIn _ _
    unfold set5 at z0 z1 z2 z3 z4 hbe5 hin5
    simp only [Nat.zero_add] at z0 z1 z2 z3 z4 hbe5 hin5
    refine bodyPost_ret (v := .tuple #[.agg #[.int .i64 0, .string { data := #[] }, .int .i64 0, .slice none 0 0, .slice none 0 0], .bool false]) (by simp [results, Try.results37, go_sem, z0, z1, z2, z3, z4]) rfl ?_
    exact ⟨_, rfl, hin5, hbe5⟩
  | true =>
    have HFB := Lib.hid hfb
    clear hz3 hfb
    obtain ⟨y0, y1, y2, y3, y4⟩ := HY.out
    go_wp2_with fail
    refine (specFormValid_any B g _ w3 (by omega) (InV.later (same_below (HB3.out.mono hB)) _ _ HV2.out) (by omega)).mono ?_
    rintro e w4 ⟨rfl, hb4⟩
    have hs4 := hb4.size
    have HX4 : Hid (FormBox w4 w.heap.size f sa scap a cap) := HX.out.later hb4
    have HY4 : Hid (FormBox w4 (w.heap.size + 1) g sb sbcap b bcap) := HY.out.later hb4
    have hz4 := (hb4.block _ (by omega)).trans HZ3.out
    have HB4 : Hid (Below w.heap.size w w4) := HB3.out.trans (hb4.mono (by omega))
    have HZ4 := Lib.hid hz4
    have hlt4 : w.heap.size + 2 < w4.heap.size := by omega
    clear hb4 y0 y1 y2 y3 y4 HX HY HZ3 HB3 hlt3 hs3
    cases hgb : formB g with
    | false =>
      obtain rfl : false = ok := by rw [← HOK.out]; unfold dressB; rw [HFB.out, hgb]; rfl
      obtain rfl : zeroForm = R := HR.out
      clear hgb
      obtain ⟨r0, r1, r2, r3, r4, t0, t1, t2, t3, t4⟩ := zeroFacts hz4
      have hth := Lib.hid (zeroThere hz4)
      clear hz4
      go_wp2_with fail
      obtain ⟨z0, z1, z2, z3, z4⟩ := set5_in w4 (w.heap.size + 2) 0 (.int .i64 0) (.string { data := #[] }) (.int .i64 0) (.slice none 0 0) (.slice none 0 0) hth.out
      have hbe5 := set5_below HB4.out (b := w.heap.size + 2) (by omega) 0 (.int .i64 0) (.string { data := #[] }) (.int .i64 0) (.slice none 0 0) (.slice none 0 0)
      have hin5 : InV (fun k => w.heap.size ≤ k ∧ k < (set5 w4 (w.heap.size + 2) 0 (.int .i64 0) (.string { data := #[] }) (.int .i64 0) (.slice none 0 0) (.slice none 0 0)).heap.size) (set5 w4 (w.heap.size + 2) 0 (.int .i64 0) (.string { data := #[] }) (.int .i64 0) (.slice none 0 0) (.slice none 0 0)) zeroForm (.agg #[.int .i64 0, .string { data := #[] }, .int .i64 0, .slice none 0 0, .slice none 0 0]) := zeroIn _ _
      unfold set5 at z0 z1 z2 z3 z4 hbe5 hin5
      simp only [Nat.zero_add] at z0 z1 z2 z3 z4 hbe5 hin5
      refine bodyPost_ret (v := .tuple #[.agg #[.int .i64 0, .string { data := #[] }, .int .i64 0, .slice none 0 0, .slice none 0 0], .bool false]) (by simp [results, Try.results37, go_sem, z0, z1, z2, z3, z4]) rfl ?_
      exact ⟨_, rfl, hin5, hbe5⟩
    | true =>
      have HGB := Lib.hid hgb
      clear hgb
      obtain ⟨y0, y1, y2, y3, y4⟩ := HY4.out
      by_cases hk : g.kind = 1
      · have HG : Hid (formB (f.chg (dressW g.scopes)) = ok) := by
          unfold Hid
          rw [← HOK.out]
          unfold dressB
          rw [HFB.out, HGB.out, hk]
          rfl
        have HSZ : Hid (∀ j, (f.chg (dressW (g.scopes.take j))).sz ≤ 1048576) := dress_szT (name_scopes HGB.out) f HFB.out
        have HNS : Hid (∀ n ∈ g.scopes, -9223372036854775808 ≤ n ∧ n ≤ 9223372036854775807) := (goodS_of (name_scopes HGB.out)).bounds
        have hgl := (goodS_of (name_scopes HGB.out)).length
        clear hz4 HOK y1 y2 y3 y4
        obtain ⟨x0, x1, x2, x3, x4⟩ := HX4.out
        go_wp2_with fail
        refine (specCopy_any B f _ w4 (by omega) (InV.later (same_below (HB4.out.mono hB)) _ _ HV.out) hsz).mono ?_
        rintro e w5 ⟨cv, rfl, hc, hb5⟩
        obtain ⟨csa, cscap, ca, ccap, rfl⟩ := hc.form
        have HC := Lib.hid hc
        have hs5 := hb5.size
        have HB5 : Hid (Below w.heap.size w w5) := HB4.out.trans (hb5.mono (by omega))
        have HZ5 := Lib.hid ((hb5.block _ (by omega)).trans HZ4.out)
        have hy3 : w5.cell? ⟨w.heap.size + 1, 3, none⟩ = some (.slice sb g.scopes.length sbcap) := (HY4.out.later hb5).2.2.2.1
        clear hb5 hc x0 x1 x2 x3 x4 y0 HX4
        go_wp2_with fail
        have hW6 : Below w5.heap.size w5 (w5.alloc (.cells #[.int .i64 f.kind, .string f.name, .int .i64 f.n, .slice csa f.scopes.length cscap, .slice ca f.kids.length ccap] 27)) := below_alloc w5 _
        go_loopw [7] (fun i wr => ∃ (j : Nat) (F : Fm) (dsa : Option Addr) (dscap : Nat) (da : Option Addr) (dcap : Nat), j ≤ g.scopes.length ∧ i = .int .i64 j ∧ f.chg (dressW (g.scopes.take j)) = F ∧
            FormBox wr w5.heap.size F dsa dscap da dcap ∧ Plain wr w5.heap.size ∧
            InV (fun k => w.heap.size ≤ k ∧ k < wr.heap.size ∧ k ≠ w.heap.size + 2 ∧ k ≠ w5.heap.size) wr F (.agg #[.int .i64 F.kind, .string F.name, .int .i64 F.n, .slice dsa F.scopes.length dscap, .slice da F.kids.length dcap]) ∧
            Below w.heap.size w wr ∧ wr.heap[w.heap.size + 2]? = some (.cells #[.int .i64 0, .string { data := #[] }, .int .i64 0, .slice none 0 0, .slice none 0 0] 27 (0, 0)) ∧ w5.heap.size < wr.heap.size ∧
            wr.cell? ⟨w.heap.size + 1, 3, none⟩ = some (.slice sb g.scopes.length sbcap)) (fun i _ => g.scopes.length - (intOf i).toNat)
        case atStart =>
          exact ⟨0, f, csa, cscap, ca, ccap, Nat.zero_le _, rfl, dress_start f, FormBox.fresh w5 f csa ca cscap ccap 27, Plain.fresh w5 _ _,
            InV.mono (fun k hk => ⟨by omega, by simp; omega, by omega, by omega⟩) _ _ (InV.later (Same.of_below hW6 (fun k hk => hk.2)) _ _ HC.out), HB5.out.alloc (by omega) _, (hW6.block _ (by omega)).trans HZ5.out, by simp, cell_later' hW6 hy3⟩
        case round =>
          obtain ⟨j, F, dsa, dscap, da, dcap, hj, rfl, hF, hbox, hpl, hin, hb, hz, hsz5, hy⟩ := hrel
          have HF := Lib.hid hF
          have HBX := Lib.hid hbox
          have HPL := Lib.hid hpl
          have HIN := Lib.hid hin
          have HB := Lib.hid hb
          have HZ := Lib.hid hz
          have HSF : Hid (F.sz ≤ 1048576) := by have := HSZ.out j; rw [hF] at this; exact this
          have hlr := hb.size
          clear hF hbox hpl hin hb hz hy3 hW6 HC
          by_cases hlt : j < g.scopes.length
          · obtain ⟨_, b2, off, rfl, hbb, hcj⟩ := intRow_at (InV.row3 (InV.later (same_below (HB.out.mono hB)) _ _ HV2.out)) j hlt
            have HNJ := Lib.hid (HNS.out g.scopes[j] (List.getElem_mem hlt))
            have HSUC : Hid (f.chg (dressW (g.scopes.take (j + 1))) = F.chg (chgW 0 g.scopes[j])) := by unfold Hid; rw [← HF.out]; exact (dress_succ g.scopes j hlt f).symm
            obtain ⟨x0, x1, x2, x3, x4⟩ := HBX.out
            go_wp2_with fail
            go_still_tail 6, (by kernel_rfl)
            change wpList _ _ _ _ _ wr.drew
            go_wp2_with fail
            refine (specChange_any wr.heap.size g.scopes[j] 0 HNJ.out F _ wr.drew (Nat.le_refl _) (InV.later (w := wr) (w' := wr.drew) (fun _ _ => rfl) _ _ (InV.mono (fun k hk => hk.2.1) _ _ HIN.out)) HSF.out).mono ?_
            rintro e w6 ⟨cv, rfl, hc6, hb6⟩
            obtain ⟨G, hG⟩ : ∃ G, F.chg (chgW 0 g.scopes[j]) = G := ⟨_, rfl⟩
            rw [hG] at hc6
            have HSUC2 : Hid (f.chg (dressW (g.scopes.take (j + 1))) = G) := HSUC.out.trans hG
            obtain ⟨dsa', dscap', da', dcap', rfl⟩ := hc6.form
            have hb6' := below_drew hb6
            have hs6 := hb6'.size
            have HC6 := Lib.hid hc6
            have HB6 : Hid (Below w.heap.size w w6) := HB.out.trans (hb6'.mono (by omega))
            have HP6 : Hid (Plain w6 w5.heap.size) := HPL.out.later hb6'
            have HBX6 : Hid (FormBox w6 w5.heap.size F dsa dscap da dcap) := HBX.out.later hb6'
            have HZ6 := Lib.hid ((hb6'.block _ (by omega)).trans HZ.out)
            have hy6 := cell_later' hb6' hy
            have t0 := HP6.out.frozen 0
            have t1 := HP6.out.frozen 1
            have t2 := HP6.out.frozen 2
            have t3 := HP6.out.frozen 3
            have t4 := HP6.out.frozen 4
            clear hG hc6 hb6 hb6' x0 x1 x2 x3 x4 hy hcj
            obtain ⟨x0, x1, x2, x3, x4⟩ := HBX6.out
            go_wp2_with fail
            go_roundw
            case rel =>
              exact ⟨j + 1, G, dsa', dscap', da', dcap', by omega, by go_num, HSUC2.out, set5_in w6 w5.heap.size 0 (.int .i64 G.kind) (.string G.name) (.int .i64 G.n) (.slice dsa' G.scopes.length dscap') (.slice da' G.kids.length dcap') (FormBox.there HBX6.out), HP6.out.set5 _ _ _ _ _ _ _,
                InV.mono (fun k hk => by have h1 : wr.heap.size ≤ k := hk.1; have h2 : k < w6.heap.size := hk.2; have h3 := set5_size w6 w5.heap.size 0 (.int .i64 G.kind) (.string G.name) (.int .i64 G.n) (.slice dsa' G.scopes.length dscap') (.slice da' G.kids.length dcap'); exact ⟨by omega, lt_of_lt_of_eq h2 h3.symm, by omega, by omega⟩) _ _ (InV.later (w' := (set5 w6 w5.heap.size 0 (.int .i64 G.kind) (.string G.name) (.int .i64 G.n) (.slice dsa' G.scopes.length dscap') (.slice da' G.kids.length dcap'))) (fun k hk => by have h1 : wr.heap.size ≤ k := hk.1; exact set5_block _ _ _ _ _ _ _ _ (by omega)) _ _ HC6.out),
                set5_below HB6.out (b := w5.heap.size) (by omega) 0 (.int .i64 G.kind) (.string G.name) (.int .i64 G.n) (.slice dsa' G.scopes.length dscap') (.slice da' G.kids.length dcap'), (set5_block w6 w5.heap.size 0 (.int .i64 G.kind) (.string G.name) (.int .i64 G.n) (.slice dsa' G.scopes.length dscap') (.slice da' G.kids.length dcap') (by omega)).trans HZ6.out, by have h3 := set5_size w6 w5.heap.size 0 (.int .i64 G.kind) (.string G.name) (.int .i64 G.n) (.slice dsa' G.scopes.length dscap') (.slice da' G.kids.length dcap'); exact lt_of_lt_of_eq (by omega) h3.symm, (World.cell?_of_block (a := ⟨w.heap.size + 1, 3, none⟩) (set5_block w6 w5.heap.size 0 (.int .i64 G.kind) (.string G.name) (.int .i64 G.n) (.slice dsa' G.scopes.length dscap') (.slice da' G.kids.length dcap') (show w.heap.size + 1 ≠ w5.heap.size by omega))).trans hy6⟩
            case measure => simp [intOf]; omega
          · obtain rfl : j = g.scopes.length := by omega
            have HG2 : Hid (formB F = ok) := by have := HF.out; rw [List.take_length] at this; rw [← this]; exact HG.out
            have HR2 : Hid ((if ok = true then F else zeroForm) = R) := by have := HF.out; rw [List.take_length] at this; rw [← this]; exact HR.out
            have hFc := F.count_le
            have hFs := HSF.out
            obtain ⟨x0, x1, x2, x3, x4⟩ := HBX.out
            go_wp2_with fail
            refine (specFormValid_any wr.heap.size F _ wr (Nat.le_refl _) (InV.mono (fun k hk => hk.2.1) _ _ HIN.out) (by omega)).mono ?_
            rintro e w6 ⟨rfl, hb6⟩
            rw [HG2.out]
            have hs6 := hb6.size
            have HC6 : Hid (InV (fun k => w.heap.size ≤ k ∧ k < w6.heap.size ∧ k ≠ w.heap.size + 2) w6 F _) := InV.mono (fun k hk => ⟨by omega, by omega, by omega⟩) _ _ (InV.later (Same.of_below hb6 (fun k hk => hk.2.1)) _ _ HIN.out)
            have hz6 := (hb6.block _ (by omega)).trans HZ.out
            have HB6 : Hid (Below w.heap.size w w6) := HB.out.trans (hb6.mono (by omega))
            have HBX6 : Hid (FormBox w6 w5.heap.size F dsa dscap da dcap) := HBX.out.later hb6
            clear hb6 x0 x1 x2 x3 x4 hy hlr
            cases ok with
            | false =>
              obtain rfl : zeroForm = R := HR2.out
              obtain ⟨r0, r1, r2, r3, r4, t0, t1, t2, t3, t4⟩ := zeroFacts hz6
              have hth := Lib.hid (zeroThere hz6)
              clear hz6
              go_wp2_with fail
              obtain ⟨z0, z1, z2, z3, z4⟩ := set5_in w6 (w.heap.size + 2) 0 (.int .i64 0) (.string { data := #[] }) (.int .i64 0) (.slice none 0 0) (.slice none 0 0) hth.out
              have hbe5 := set5_below HB6.out (b := w.heap.size + 2) (by omega) 0 (.int .i64 0) (.string { data := #[] }) (.int .i64 0) (.slice none 0 0) (.slice none 0 0)
              have hin5 : InV (fun k => w.heap.size ≤ k ∧ k < (set5 w6 (w.heap.size + 2) 0 (.int .i64 0) (.string { data := #[] }) (.int .i64 0) (.slice none 0 0) (.slice none 0 0)).heap.size) (set5 w6 (w.heap.size + 2) 0 (.int .i64 0) (.string { data := #[] }) (.int .i64 0) (.slice none 0 0) (.slice none 0 0)) zeroForm (.agg #[.int .i64 0, .string { data := #[] }, .int .i64 0, .slice none 0 0, .slice none 0 0]) := zeroIn _ _
              unfold set5 at z0 z1 z2 z3 z4 hbe5 hin5
              simp only [Nat.zero_add] at z0 z1 z2 z3 z4 hbe5 hin5
              refine bodyPost_ret (v := .tuple #[.agg #[.int .i64 0, .string { data := #[] }, .int .i64 0, .slice none 0 0, .slice none 0 0], .bool false]) (by simp [results, Try.results37, go_sem, z0, z1, z2, z3, z4]) rfl ?_
              exact ⟨_, rfl, hin5, hbe5⟩
            | true =>
              obtain rfl : F = R := HR2.out
              obtain ⟨x0, x1, x2, x3, x4⟩ := HBX6.out
              obtain ⟨r0, r1, r2, r3, r4, t0, t1, t2, t3, t4⟩ := zeroFacts hz6
              have hth := Lib.hid (zeroThere hz6)
              clear hz6
              go_wp2_with fail
              obtain ⟨z0, z1, z2, z3, z4⟩ := set5_in w6 (w.heap.size + 2) 0 (.int .i64 F.kind) (.string F.name) (.int .i64 F.n) (.slice dsa F.scopes.length dscap) (.slice da F.kids.length dcap) hth.out
              have hz5 := set5_size w6 (w.heap.size + 2) 0 (.int .i64 F.kind) (.string F.name) (.int .i64 F.n) (.slice dsa F.scopes.length dscap) (.slice da F.kids.length dcap)
              have hbe5 := set5_below HB6.out (b := w.heap.size + 2) (by omega) 0 (.int .i64 F.kind) (.string F.name) (.int .i64 F.n) (.slice dsa F.scopes.length dscap) (.slice da F.kids.length dcap)
              have hin5 : InV (fun k => w.heap.size ≤ k ∧ k < (set5 w6 (w.heap.size + 2) 0 (.int .i64 F.kind) (.string F.name) (.int .i64 F.n) (.slice dsa F.scopes.length dscap) (.slice da F.kids.length dcap)).heap.size) (set5 w6 (w.heap.size + 2) 0 (.int .i64 F.kind) (.string F.name) (.int .i64 F.n) (.slice dsa F.scopes.length dscap) (.slice da F.kids.length dcap)) F (.agg #[.int .i64 F.kind, .string F.name, .int .i64 F.n, .slice dsa F.scopes.length dscap, .slice da F.kids.length dcap]) := InV.mono (fun k hk => ⟨hk.1, by rw [hz5]; exact hk.2.1⟩) _ _ (InV.later (fun c hc => set5_block _ _ _ _ _ _ _ _ hc.2.2) _ _ HC6.out)
              unfold set5 at z0 z1 z2 z3 z4 hbe5 hin5
              simp only [Nat.zero_add] at z0 z1 z2 z3 z4 hbe5 hin5
              refine bodyPost_ret (v := .tuple #[.agg #[.int .i64 F.kind, .string F.name, .int .i64 F.n, .slice dsa F.scopes.length dscap, .slice da F.kids.length dcap], .bool true]) (by simp [results, Try.results37, go_sem, z0, z1, z2, z3, z4]) rfl ?_
              exact ⟨_, rfl, hin5, hbe5⟩
      · have hkb : (g.kind != 1) = true := by rw [bne_iff_ne]; exact hk
        obtain rfl : false = ok := by rw [← HOK.out]; unfold dressB; rw [HFB.out, HGB.out, beq_eq_false_iff_ne.2 hk]; rfl
        obtain rfl : zeroForm = R := HR.out
        obtain ⟨r0, r1, r2, r3, r4, t0, t1, t2, t3, t4⟩ := zeroFacts hz4
        have hth := Lib.hid (zeroThere hz4)
        clear hz4
        go_wp2_with fail
        obtain ⟨z0, z1, z2, z3, z4⟩ := set5_in w4 (w.heap.size + 2) 0 (.int .i64 0) (.string { data := #[] }) (.int .i64 0) (.slice none 0 0) (.slice none 0 0) hth.out
        have hbe5 := set5_below HB4.out (b := w.heap.size + 2) (by omega) 0 (.int .i64 0) (.string { data := #[] }) (.int .i64 0) (.slice none 0 0) (.slice none 0 0)
        have hin5 : InV (fun k => w.heap.size ≤ k ∧ k < (set5 w4 (w.heap.size + 2) 0 (.int .i64 0) (.string { data := #[] }) (.int .i64 0) (.slice none 0 0) (.slice none 0 0)).heap.size) (set5 w4 (w.heap.size + 2) 0 (.int .i64 0) (.string { data := #[] }) (.int .i64 0) (.slice none 0 0) (.slice none 0 0)) zeroForm (.agg #[.int .i64 0, .string { data := #[] }, .int .i64 0, .slice none 0 0, .slice none 0 0]) := zeroIn _ _
        unfold set5 at z0 z1 z2 z3 z4 hbe5 hin5
        simp only [Nat.zero_add] at z0 z1 z2 z3 z4 hbe5 hin5
        refine bodyPost_ret (v := .tuple #[.agg #[.int .i64 0, .string { data := #[] }, .int .i64 0, .slice none 0 0, .slice none 0 0], .bool false]) (by simp [results, Try.results37, go_sem, z0, z1, z2, z3, z4]) rfl ?_
        exact ⟨_, rfl, hin5, hbe5⟩
end Go.Proofs.Ytmakaoomdnlebaa

