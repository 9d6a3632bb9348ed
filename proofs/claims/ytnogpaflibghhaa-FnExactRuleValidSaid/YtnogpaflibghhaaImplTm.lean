/- The contracts of the program's test of templates. -/
import Derived.Test.YtnogpaflibghhaaSpecTm
import Derived.Test.YtnogpaflibghhaaFindA
import Derived.Test.YtnogpaflibghhaaImplHV
import Derived.Test.YtnogpaflibghhaaImplPat
import Derived.Test.YtnogpaflibghhaaSlim
import Derived.Test.YtnogpaflibghhaaFindHF
import Derived.Test.YtnogpaflibghhaaVisits
import Derived.Test.YtnogpaflibghhaaSame
import Derived.Test.YtnogpaflibghhaaTmplData
import Derived.Laws.IdiomCopy
import Derived.Test.YtnogpaflibghhaaUptoMany
namespace Go.Proofs.Ytnogpaflibghhaa
section
open Go.RowKit
set_option linter.unusedVariables false
set_option linter.unusedSimpArgs false
theorem isB_mono : ∀ (d : Nat) (f : Fm), isB d f = true → isB (d + 1) f = true
  | 0, f, h => by simp [isB] at h
  | d + 1, .mk k nm n sc ks, h => by
    unfold isB at h ⊢
    split at h
    · rename_i h1; rw [if_pos h1]; exact h
    · rename_i h1
      rw [if_neg h1]
      split at h
      · rename_i h2; rw [if_pos h2]; exact h
      · rename_i h2
        rw [if_neg h2]
        simp only [Bool.and_eq_true, List.all_eq_true] at h ⊢
        exact ⟨h.1, fun g hg => isB_mono d g (h.2 g hg)⟩
theorem isB_up {f : Fm} : ∀ (n d : Nat), isB d f = true → isB (d + n) f = true
  | 0, d, h => h
  | n + 1, d, h => isB_mono (d + n) f (isB_up n d h)
theorem formB_kidT {f g : Fm} {d : Nat} (h : isB (d + 1) f = true) (hd : d + 1 ≤ 40) (hc : f.count ≤ 400) (hg : g ∈ f.kids) : isB d g = true ∧ g.count ≤ 400 ∧ formB g = true := by
  cases f with
  | mk k nm n sc ks =>
    have h1 := isB_kidT h g hg
    have h2 : g.count ≤ (Fm.mk k nm n sc ks).count := by
      have := count_mem (ks := ks) hg
      simp only [Fm.count]
      omega
    have h3 : isB 40 g = true := by have := isB_up (40 - d) d h1; rw [show d + (40 - d) = 40 from by omega] at this; exact this
    exact ⟨h1, by omega, by unfold formB; rw [h3, decide_eq_true (by omega)]; rfl⟩
/-- what is asked of the look below -/
def BelowSaid (l : List Ht) : Prop := ∀ (g : Fm) (r : Nat) (a : Option Addr) (cap : Nat) (v : Value) (w : World), formB g = true → r ≤ 1000 → HitsIn (Pl w.heap.size w) w a cap l → InV (· < w.heap.size) w g v →
  Calls Try.prog 143 #[v, .slice a l.length cap, .int .i64 r] w fun e w' => e = .returned (.bool (belowB g l r)) ∧ Below w.heap.size w w'
theorem nextDotsT_drop2 (ks : List Fm) (j : Nat) : nextDotsT (ks.drop j) = dotsAt ks j := by
  by_cases h : j < ks.length
  · rw [List.drop_eq_getElem_cons h, dotsAt_eq h]; rfl
  · rw [List.drop_eq_nil_of_le (by omega), dotsAt_end (by omega)]; rfl
theorem fitAll_at {ks : List Fm} {j : Nat} (h : j < ks.length) (fst : Bool) (l : List Ht) (r : Nat) : fitAll (ks.drop j) fst l r = if dotsAt ks (j + 1) = true then (belowB ks[j] l r && fitB ks[j] l (r + 1)) && fitAll (ks.drop (j + 1)) false l r
      else if (!fst && dotsB ks[j]) = true then fitAll (ks.drop (j + 1)) false l r else fitB ks[j] l r && fitAll (ks.drop (j + 1)) false l r := by
  rw [List.drop_eq_getElem_cons h, fitAll, nextDotsT_drop2]
set_option maxRecDepth 100000 in
set_option maxHeartbeats 16000000 in
theorem fitsHits_any (l : List Ht) (hnm : ∀ x ∈ l, isNameB x.name = true) (hbl : BelowSaid l) (f : Fm) : ∀ (d r : Nat) (a : Option Addr) (cap : Nat) (v : Value) (w : World), isB d f = true → d ≤ 40 → f.count ≤ 400 → r + d ≤ 1000 → HitsIn (Pl w.heap.size w) w a cap l → InV (· < w.heap.size) w f v →
    Calls Try.prog 72 #[v, .slice a l.length cap, .int .i64 r] w fun e w' => e = .returned (.bool (fitB f l r)) ∧ Below w.heap.size w w' := by
  induction f using Fm.ind with
  | h k nm n sc ks ih =>
  intro d r a cap v w hv0 hd40 hcnt hrd hl hv
  obtain ⟨d, rfl⟩ : ∃ d', d = d' + 1 := by
    cases d with
    | zero => simp [isB] at hv0
    | succ d => exact ⟨d, rfl⟩
  obtain ⟨f, hf⟩ : ∃ f, f = Fm.mk k nm n sc ks := ⟨_, rfl⟩
  rw [← hf] at hv hv0 hcnt ⊢
  have hks : f.kids = ks := by rw [hf]; rfl
  have HIH : Hid (∀ g ∈ f.kids, ∀ (d r : Nat) (a : Option Addr) (cap : Nat) (v : Value) (w : World), isB d g = true → d ≤ 40 → g.count ≤ 400 → r + d ≤ 1000 → HitsIn (Pl w.heap.size w) w a cap l → InV (· < w.heap.size) w g v →
    Calls Try.prog 72 #[v, .slice a l.length cap, .int .i64 r] w fun e w' => e = .returned (.bool (fitB g l r)) ∧ Below w.heap.size w w') := by rw [hks]; exact ih
  have HKD : Hid (∀ g ∈ f.kids, isB d g = true ∧ g.count ≤ 400 ∧ formB g = true) := fun g hg => formB_kidT hv0 hd40 hcnt hg
  have HBL := Lib.hid hbl
  have HNM := Lib.hid hnm
  clear hks hf ih hv0 hcnt hbl hnm
  have HL := Lib.hid hl
  have HV := Lib.hid hv
  obtain ⟨fs, ft, fa, fc, rfl⟩ := hv.form
  have HKI := Lib.hid hv.kidsIn
  obtain ⟨hkl, hmax, hrow⟩ := HKI.out
  unfold maxLen at hmax
  have HROW := Lib.hid hrow
  have HTE := Lib.hid (fitB_eq f l r)
  obtain ⟨w0, hw0⟩ : ∃ w0, w0 = w.alloc (.cells #[.int .i64 f.kind, .string f.name, .int .i64 f.n, .slice fs f.scopes.length ft, .slice fa f.kids.length fc] 33) := ⟨_, rfl⟩
  have HB0 : Hid (Below w.heap.size w w0) := by rw [hw0]; exact below_alloc w _
  have hs0 : w.heap.size < w0.heap.size := by rw [hw0]; simp
  have HF0 : Hid (FormBox w0 w.heap.size f fs ft fa fc) := by unfold Hid; rw [hw0]; exact FormBox.fresh w f fs fa ft fc _
  have HW0 := Lib.hid hw0
  clear hv hl hrow hw0
  go_enter Try.func72, Try.ntmps72
  go_wp2_with fail
  rw [← HW0.out]
  clear HW0
  refine (HO.hitOf_any l f a cap _ w0 (HO.hitsPl HB0.out HL.out) (InV.lift HB0.out HV.out) HNM.out).mono ?_
  rintro e w1 ⟨R, ok, e0, e1, e2, e3, e4, e5, e6, e7, e8, e9, rfl, _, hcase, hb1⟩
  have hs1 : w0.heap.size ≤ w1.heap.size := hb1.size
  have HC := Lib.hid hcase
  have hba := below_alloc w1 (.cells #[.int .i64 R.name.kind, .string R.name.name, .int .i64 R.name.n, .slice e0 R.name.scopes.length e1, .slice e2 R.name.kids.length e3, .int .i64 R.depth, .int .i64 R.one.kind, .string R.one.name, .int .i64 R.one.n, .slice e4 R.one.scopes.length e5, .slice e6 R.one.kids.length e7, .slice e8 R.many.length e9] 60)
  obtain ⟨x0, x1, x2, x3, x4⟩ := (HF0.out.later hb1).later hba
  have HB1 : Hid (Below w.heap.size w w1) := HB0.out.trans (hb1.mono (by omega))
  have HF1 := Lib.hid (HF0.out.later hb1)
  clear hba hb1 hcase HF0 HB0
  go_wp2_with fail
  obtain ⟨w2, hw2⟩ : ∃ w2, w2 = w1.alloc (.cells #[.int .i64 R.name.kind, .string R.name.name, .int .i64 R.name.n, .slice e0 R.name.scopes.length e1, .slice e2 R.name.kids.length e3, .int .i64 R.depth, .int .i64 R.one.kind, .string R.one.name, .int .i64 R.one.n, .slice e4 R.one.scopes.length e5, .slice e6 R.one.kids.length e7, .slice e8 R.many.length e9] 60) := ⟨_, rfl⟩
  rw [← hw2]
  have hb2 : Below w1.heap.size w1 w2 := by rw [hw2]; exact below_alloc _ _
  have hs2 : w1.heap.size < w2.heap.size := by rw [hw2]; simp
  have y5 : w2.cell? ⟨w1.heap.size, 5, none⟩ = some (.int .i64 R.depth) := by rw [hw2]; exact World.cell?_alloc_at _ _ _ _ rfl
  have HB2 : Hid (Below w.heap.size w w2) := HB1.out.trans (hb2.mono (by omega))
  have HF2 := Lib.hid (HF1.out.later hb2)
  clear hw2 hb2 x0 x1 x2 x3 x4 HF1 HB1
  refine (isDots_any f fs ft fa fc w2).mono ?_
  rintro e w3 ⟨rfl, hb3⟩
  have hs3 : w2.heap.size ≤ w3.heap.size := hb3.size
  have y5 := cell_later' hb3 y5
  have HB3 : Hid (Below w.heap.size w w3) := HB2.out.trans (hb3.mono (by omega))
  have HF3 := Lib.hid (HF2.out.later hb3)
  clear hb3 HF2 HB2
  cases hdt : dotsB f with
  | true =>
    have HE : Hid (fitB f l r = false) := by unfold Hid; rw [HTE.out, hdt]; rfl
    go_wp2_with fail
    go_ret
    exact ⟨ret_bool HE.out.symm, HB3.out⟩
  | false =>
  have HOV : Hid (overB l f r = (ok && decide (R.depth > (r : Int)))) := by
    unfold Hid overB
    rcases HC.out with ⟨rfl, h⟩ | ⟨rfl, h, _⟩
    · rw [h]; rfl
    · rw [h]; rfl
  have hs4 : w.heap.size < w3.heap.size := by omega
  obtain ⟨x0, x1, x2, x3, x4⟩ := HF3.out
  have hend : ∀ b : Bool, b = (ok && decide (R.depth > (r : Int))) → overB l f r = b := fun b h => by rw [h]; exact HOV.out
  have HEND := Lib.hid hend
  clear hs0 hs1 hs2 hs3 HC HOV hend
  by_cases hov : (ok && decide (R.depth > (r : Int))) = true
  · have HE : Hid (fitB f l r = false) := by unfold Hid; rw [HTE.out, hdt, HEND.out true hov.symm]; rfl
    rw [Bool.and_eq_true] at hov
    obtain ⟨rfl, hdp⟩ := hov
    go_wp2_with fail
    go_ret
    exact ⟨ret_bool HE.out.symm, HB3.out⟩
  have hov : (ok && decide (R.depth > (r : Int))) = false := by simpa using hov
  have HTF : Hid (fitB f l r = fitAll f.kids true l r) := by unfold Hid; rw [HTE.out, hdt, HEND.out false hov.symm]; rfl
  have hov2 : ok = false ∨ decide (R.depth > (r : Int)) = false := Bool.and_eq_false_iff.1 hov
  clear hov HEND HTE
  rcases hov2 with rfl | hdp
  · clear y5
    go_wp2_with fail
    go_loopw [32, 9, 10, 11] (fun i ii bx nn wr => ∃ j : Nat, j ≤ f.kids.length ∧ i = .int .i64 j ∧ fitAll (f.kids.drop j) (decide (j = 0)) l r = fitAll f.kids true l r ∧ Below w.heap.size w wr ∧ w.heap.size < wr.heap.size ∧ FormBox wr w.heap.size f fs ft fa fc) (fun i _ _ _ _ => f.kids.length - (intOf i).toNat)
    case atStart => exact ⟨0, Nat.zero_le _, rfl, rfl, HB3.out, hs4, HF3.out⟩
    case round =>
      obtain ⟨j, hj, rfl, hrl, hb, hsz, hfb⟩ := hrel
      have HRL := Lib.hid hrl
      have HFB := Lib.hid hfb
      have HB := Lib.hid hb
      clear hrl hb
      by_cases hlt : j < f.kids.length
      · rcases HROW.out with h0 | ⟨b, off, hfa, hbB, hr⟩
        · exfalso; rw [h0] at hlt; simp at hlt
        subst hfa
        have hbB' : b < w.heap.size := hbB
        obtain ⟨s1, t1, k1, l1, c0, c1, c2, c3, c4, hin⟩ := (hr.later (same_below HB.out) b hbB).at' j hlt
        have HIN := Lib.hid (InV.mono (ψ := (· < wr.heap.size)) (fun k (hk : k < w.heap.size) => by show k < wr.heap.size; omega) _ _ hin)
        have HTA := Lib.hid (fitAll_at hlt (decide (j = 0)) l r)
        have hj0 : (0 : Int) ≤ (j : Int) := by omega
        have hj1 : (j : Int) < (f.kids.length : Int) := by omega
        have hba := below_alloc wr (.cells #[.int .i64 f.kids[j].kind, .string f.kids[j].name, .int .i64 f.kids[j].n, .slice s1 f.kids[j].scopes.length t1, .slice k1 f.kids[j].kids.length l1] 33)
        obtain ⟨x0, x1, x2, x3, x4⟩ := hfb.later hba
        clear hin hr hbB hba
        go_wp2_with fail
        obtain ⟨w4, hw4⟩ : ∃ w4, w4 = wr.alloc (.cells #[.int .i64 f.kids[j].kind, .string f.kids[j].name, .int .i64 f.kids[j].n, .slice s1 f.kids[j].scopes.length t1, .slice k1 f.kids[j].kids.length l1] 33) := ⟨_, rfl⟩
        rw [← hw4]
        have hb4 : Below wr.heap.size wr w4 := by rw [hw4]; exact below_alloc _ _
        have hs5 : wr.heap.size < w4.heap.size := by rw [hw4]; simp
        have HZ4 : Hid (FormBox w4 wr.heap.size f.kids[j] s1 t1 k1 l1) := by unfold Hid; rw [hw4]; exact FormBox.fresh wr f.kids[j] s1 k1 t1 l1 _
        have HB4 : Hid (Below w.heap.size w w4) := HB.out.trans (hb4.mono (by omega))
        have HF4 := Lib.hid (HFB.out.later hb4)
        have HIN4 := Lib.hid (InV.lift hb4 HIN.out)
        clear hw4 hb4 x0 x1 x2 x3 x4 c0 c1 c2 c3 c4 HFB HB HIN
        refine (isRow_any w.heap.size f.kids (some ⟨b, off, none⟩) fc j w4 (by omega) (HKI.out.later (same_below HB4.out)) hlt).mono ?_
        rintro e w5 ⟨rfl, hb5⟩
        have hs6 : w4.heap.size ≤ w5.heap.size := hb5.size
        have HB5 : Hid (Below w.heap.size w w5) := HB4.out.trans (hb5.mono (by omega))
        have HF5 := Lib.hid (HF4.out.later hb5)
        have HZ5 := Lib.hid (HZ4.out.later hb5)
        have HIN5 := Lib.hid (InV.lift hb5 HIN4.out)
        clear hb5 HB4 HF4 HZ4 HIN4
        obtain ⟨z0, z1, z2, z3, z4⟩ := HZ5.out
        cases hdn : dotsAt f.kids (j + 1) with
        | true =>
          have HT1 : Hid (((belowB f.kids[j] l r && fitB f.kids[j] l (r + 1)) && fitAll (f.kids.drop (j + 1)) false l r) = fitAll f.kids true l r) := by unfold Hid; rw [← HRL.out, HTA.out, hdn]; rfl
          go_wp2_with fail
          refine (HBL.out f.kids[j] r a cap _ w5 (HKD.out _ (List.getElem_mem hlt)).2.2 (by omega) (HO.hitsPl HB5.out HL.out) HIN5.out).mono ?_
          rintro e w6 ⟨rfl, hb6⟩
          have hs7 : w5.heap.size ≤ w6.heap.size := hb6.size
          have HB6 : Hid (Below w.heap.size w w6) := HB5.out.trans (hb6.mono (by omega))
          have HF6 := Lib.hid (HF5.out.later hb6)
          have HZ6 := Lib.hid (HZ5.out.later hb6)
          have HIN6 := Lib.hid (InV.lift hb6 HIN5.out)
          clear hb6 HB5 HF5 HZ5 HIN5 z0 z1 z2 z3 z4
          obtain ⟨z0, z1, z2, z3, z4⟩ := HZ6.out
          cases hbw : belowB f.kids[j] l r with
          | false =>
            have HE : Hid (fitB f l r = false) := by unfold Hid; rw [HTF.out, ← HT1.out, hbw]; rfl
            go_wp2_with fail
            go_ret
            exact ⟨ret_bool HE.out.symm, HB6.out⟩
          | true =>
            have HT2 : Hid ((fitB f.kids[j] l (r + 1) && fitAll (f.kids.drop (j + 1)) false l r) = fitAll f.kids true l r) := by unfold Hid; rw [← HT1.out, hbw]; rfl
            have hr0 : (0 : Int) ≤ (r : Int) := by omega
            have hr1 : (r : Int) ≤ 1000 := by omega
            have hr2 : IntKind.i64.wrap ((r : Int) + 1) = (r : Int) + 1 := by rw [IntKind.wrap_i64]; omega
            go_wp2_with fail
            refine (HIH.out f.kids[j] (List.getElem_mem hlt) d (r + 1) a cap _ w6 (HKD.out _ (List.getElem_mem hlt)).1 (by omega) (HKD.out _ (List.getElem_mem hlt)).2.1 (by omega) (HO.hitsPl HB6.out HL.out) HIN6.out).mono ?_
            rintro e w7 ⟨rfl, hbn⟩
            have hsn := hbn.size
            have HGN := Lib.hid (HF6.out.later hbn)
            have HBN : Hid (Below w.heap.size w w7) := HB6.out.trans (hbn.mono (by omega))
            clear hbn z0 z1 z2 z3 z4
            cases ht : fitB f.kids[j] l (r + 1) with
            | false =>
              have HE : Hid (fitB f l r = false) := by unfold Hid; rw [HTF.out, ← HT2.out]; simp [ht]
              go_wp2_with fail
              go_ret
              exact ⟨ret_bool HE.out.symm, HBN.out⟩
            | true =>
              have HN : Hid (fitAll (f.kids.drop (j + 1)) (decide (j + 1 = 0)) l r = fitAll f.kids true l r) := by unfold Hid; rw [← HT2.out]; simp [ht]
              go_wp2_with fail
              go_roundw
              case rel => exact ⟨j + 1, by omega, by go_num, HN.out, HBN.out, by omega, HGN.out⟩
              case measure => simp [intOf]; omega
        | false =>
          by_cases hz : j = 0
          · have hgz : ¬ ((j : Int) > 0) := by omega
            have HT2 : Hid ((fitB f.kids[j] l r && fitAll (f.kids.drop (j + 1)) false l r) = fitAll f.kids true l r) := by unfold Hid; rw [← HRL.out, HTA.out, hdn, decide_eq_true hz]; rfl
            clear hz
            go_wp2_with fail
            refine (HIH.out f.kids[j] (List.getElem_mem hlt) d (r) a cap _ w5 (HKD.out _ (List.getElem_mem hlt)).1 (by omega) (HKD.out _ (List.getElem_mem hlt)).2.1 (by omega) (HO.hitsPl HB5.out HL.out) HIN5.out).mono ?_
            rintro e w7 ⟨rfl, hbn⟩
            have hsn := hbn.size
            have HGN := Lib.hid (HF5.out.later hbn)
            have HBN : Hid (Below w.heap.size w w7) := HB5.out.trans (hbn.mono (by omega))
            clear hbn z0 z1 z2 z3 z4
            cases ht : fitB f.kids[j] l (r) with
            | false =>
              have HE : Hid (fitB f l r = false) := by unfold Hid; rw [HTF.out, ← HT2.out]; simp [ht]
              go_wp2_with fail
              go_ret
              exact ⟨ret_bool HE.out.symm, HBN.out⟩
            | true =>
              have HN : Hid (fitAll (f.kids.drop (j + 1)) (decide (j + 1 = 0)) l r = fitAll f.kids true l r) := by unfold Hid; rw [← HT2.out]; simp [ht]
              go_wp2_with fail
              go_roundw
              case rel => exact ⟨j + 1, by omega, by go_num, HN.out, HBN.out, by omega, HGN.out⟩
              case measure => simp [intOf]; omega
          · have hgz : (j : Int) > 0 := by omega
            have HT3 : Hid ((if dotsB f.kids[j] = true then fitAll (f.kids.drop (j + 1)) false l r else fitB f.kids[j] l r && fitAll (f.kids.drop (j + 1)) false l r) = fitAll f.kids true l r) := by unfold Hid; rw [← HRL.out, HTA.out, hdn, decide_eq_false hz]; rfl
            clear hz
            go_wp2_with fail
            refine (isDots_any f.kids[j] s1 t1 k1 l1 w5).mono ?_
            rintro e w6 ⟨rfl, hb6⟩
            have hs7 : w5.heap.size ≤ w6.heap.size := hb6.size
            have HB6 : Hid (Below w.heap.size w w6) := HB5.out.trans (hb6.mono (by omega))
            have HF6 := Lib.hid (HF5.out.later hb6)
            have HZ6 := Lib.hid (HZ5.out.later hb6)
            have HIN6 := Lib.hid (InV.lift hb6 HIN5.out)
            clear hb6 HB5 HF5 HZ5 HIN5 z0 z1 z2 z3 z4
            obtain ⟨z0, z1, z2, z3, z4⟩ := HZ6.out
            cases hdg : dotsB f.kids[j] with
            | true =>
              have HN : Hid (fitAll (f.kids.drop (j + 1)) (decide (j + 1 = 0)) l r = fitAll f.kids true l r) := by unfold Hid; rw [← HT3.out, hdg]; rfl
              clear z0 z1 z2 z3 z4
              go_wp2_with fail
              go_roundw
              case rel => exact ⟨j + 1, by omega, by go_num, HN.out, HB6.out, by omega, HF6.out⟩
              case measure => simp [intOf]; omega
            | false =>
              have HT2 : Hid ((fitB f.kids[j] l r && fitAll (f.kids.drop (j + 1)) false l r) = fitAll f.kids true l r) := by unfold Hid; rw [← HT3.out, hdg]; rfl
              go_wp2_with fail
              refine (HIH.out f.kids[j] (List.getElem_mem hlt) d (r) a cap _ w6 (HKD.out _ (List.getElem_mem hlt)).1 (by omega) (HKD.out _ (List.getElem_mem hlt)).2.1 (by omega) (HO.hitsPl HB6.out HL.out) HIN6.out).mono ?_
              rintro e w7 ⟨rfl, hbn⟩
              have hsn := hbn.size
              have HGN := Lib.hid (HF6.out.later hbn)
              have HBN : Hid (Below w.heap.size w w7) := HB6.out.trans (hbn.mono (by omega))
              clear hbn z0 z1 z2 z3 z4
              cases ht : fitB f.kids[j] l (r) with
              | false =>
                have HE : Hid (fitB f l r = false) := by unfold Hid; rw [HTF.out, ← HT2.out]; simp [ht]
                go_wp2_with fail
                go_ret
                exact ⟨ret_bool HE.out.symm, HBN.out⟩
              | true =>
                have HN : Hid (fitAll (f.kids.drop (j + 1)) (decide (j + 1 = 0)) l r = fitAll f.kids true l r) := by unfold Hid; rw [← HT2.out]; simp [ht]
                go_wp2_with fail
                go_roundw
                case rel => exact ⟨j + 1, by omega, by go_num, HN.out, HBN.out, by omega, HGN.out⟩
                case measure => simp [intOf]; omega
      · obtain rfl : j = f.kids.length := by omega
        have HE : Hid (fitB f l r = true) := by unfold Hid; rw [HTF.out, ← HRL.out, List.drop_length]; simp [fitAll]
        go_wp2_with fail
        go_ret
        exact ⟨ret_bool HE.out.symm, HB.out⟩
  · cases ok with
    | false =>
      clear y5
      go_wp2_with fail
      go_loopw [32, 9, 10, 11] (fun i ii bx nn wr => ∃ j : Nat, j ≤ f.kids.length ∧ i = .int .i64 j ∧ fitAll (f.kids.drop j) (decide (j = 0)) l r = fitAll f.kids true l r ∧ Below w.heap.size w wr ∧ w.heap.size < wr.heap.size ∧ FormBox wr w.heap.size f fs ft fa fc) (fun i _ _ _ _ => f.kids.length - (intOf i).toNat)
      case atStart => exact ⟨0, Nat.zero_le _, rfl, rfl, HB3.out, hs4, HF3.out⟩
      case round =>
        obtain ⟨j, hj, rfl, hrl, hb, hsz, hfb⟩ := hrel
        have HRL := Lib.hid hrl
        have HFB := Lib.hid hfb
        have HB := Lib.hid hb
        clear hrl hb
        by_cases hlt : j < f.kids.length
        · rcases HROW.out with h0 | ⟨b, off, hfa, hbB, hr⟩
          · exfalso; rw [h0] at hlt; simp at hlt
          subst hfa
          have hbB' : b < w.heap.size := hbB
          obtain ⟨s1, t1, k1, l1, c0, c1, c2, c3, c4, hin⟩ := (hr.later (same_below HB.out) b hbB).at' j hlt
          have HIN := Lib.hid (InV.mono (ψ := (· < wr.heap.size)) (fun k (hk : k < w.heap.size) => by show k < wr.heap.size; omega) _ _ hin)
          have HTA := Lib.hid (fitAll_at hlt (decide (j = 0)) l r)
          have hj0 : (0 : Int) ≤ (j : Int) := by omega
          have hj1 : (j : Int) < (f.kids.length : Int) := by omega
          have hba := below_alloc wr (.cells #[.int .i64 f.kids[j].kind, .string f.kids[j].name, .int .i64 f.kids[j].n, .slice s1 f.kids[j].scopes.length t1, .slice k1 f.kids[j].kids.length l1] 33)
          obtain ⟨x0, x1, x2, x3, x4⟩ := hfb.later hba
          clear hin hr hbB hba
          go_wp2_with fail
          obtain ⟨w4, hw4⟩ : ∃ w4, w4 = wr.alloc (.cells #[.int .i64 f.kids[j].kind, .string f.kids[j].name, .int .i64 f.kids[j].n, .slice s1 f.kids[j].scopes.length t1, .slice k1 f.kids[j].kids.length l1] 33) := ⟨_, rfl⟩
          rw [← hw4]
          have hb4 : Below wr.heap.size wr w4 := by rw [hw4]; exact below_alloc _ _
          have hs5 : wr.heap.size < w4.heap.size := by rw [hw4]; simp
          have HZ4 : Hid (FormBox w4 wr.heap.size f.kids[j] s1 t1 k1 l1) := by unfold Hid; rw [hw4]; exact FormBox.fresh wr f.kids[j] s1 k1 t1 l1 _
          have HB4 : Hid (Below w.heap.size w w4) := HB.out.trans (hb4.mono (by omega))
          have HF4 := Lib.hid (HFB.out.later hb4)
          have HIN4 := Lib.hid (InV.lift hb4 HIN.out)
          clear hw4 hb4 x0 x1 x2 x3 x4 c0 c1 c2 c3 c4 HFB HB HIN
          refine (isRow_any w.heap.size f.kids (some ⟨b, off, none⟩) fc j w4 (by omega) (HKI.out.later (same_below HB4.out)) hlt).mono ?_
          rintro e w5 ⟨rfl, hb5⟩
          have hs6 : w4.heap.size ≤ w5.heap.size := hb5.size
          have HB5 : Hid (Below w.heap.size w w5) := HB4.out.trans (hb5.mono (by omega))
          have HF5 := Lib.hid (HF4.out.later hb5)
          have HZ5 := Lib.hid (HZ4.out.later hb5)
          have HIN5 := Lib.hid (InV.lift hb5 HIN4.out)
          clear hb5 HB4 HF4 HZ4 HIN4
          obtain ⟨z0, z1, z2, z3, z4⟩ := HZ5.out
          cases hdn : dotsAt f.kids (j + 1) with
          | true =>
            have HT1 : Hid (((belowB f.kids[j] l r && fitB f.kids[j] l (r + 1)) && fitAll (f.kids.drop (j + 1)) false l r) = fitAll f.kids true l r) := by unfold Hid; rw [← HRL.out, HTA.out, hdn]; rfl
            go_wp2_with fail
            refine (HBL.out f.kids[j] r a cap _ w5 (HKD.out _ (List.getElem_mem hlt)).2.2 (by omega) (HO.hitsPl HB5.out HL.out) HIN5.out).mono ?_
            rintro e w6 ⟨rfl, hb6⟩
            have hs7 : w5.heap.size ≤ w6.heap.size := hb6.size
            have HB6 : Hid (Below w.heap.size w w6) := HB5.out.trans (hb6.mono (by omega))
            have HF6 := Lib.hid (HF5.out.later hb6)
            have HZ6 := Lib.hid (HZ5.out.later hb6)
            have HIN6 := Lib.hid (InV.lift hb6 HIN5.out)
            clear hb6 HB5 HF5 HZ5 HIN5 z0 z1 z2 z3 z4
            obtain ⟨z0, z1, z2, z3, z4⟩ := HZ6.out
            cases hbw : belowB f.kids[j] l r with
            | false =>
              have HE : Hid (fitB f l r = false) := by unfold Hid; rw [HTF.out, ← HT1.out, hbw]; rfl
              go_wp2_with fail
              go_ret
              exact ⟨ret_bool HE.out.symm, HB6.out⟩
            | true =>
              have HT2 : Hid ((fitB f.kids[j] l (r + 1) && fitAll (f.kids.drop (j + 1)) false l r) = fitAll f.kids true l r) := by unfold Hid; rw [← HT1.out, hbw]; rfl
              have hr0 : (0 : Int) ≤ (r : Int) := by omega
              have hr1 : (r : Int) ≤ 1000 := by omega
              have hr2 : IntKind.i64.wrap ((r : Int) + 1) = (r : Int) + 1 := by rw [IntKind.wrap_i64]; omega
              go_wp2_with fail
              refine (HIH.out f.kids[j] (List.getElem_mem hlt) d (r + 1) a cap _ w6 (HKD.out _ (List.getElem_mem hlt)).1 (by omega) (HKD.out _ (List.getElem_mem hlt)).2.1 (by omega) (HO.hitsPl HB6.out HL.out) HIN6.out).mono ?_
              rintro e w7 ⟨rfl, hbn⟩
              have hsn := hbn.size
              have HGN := Lib.hid (HF6.out.later hbn)
              have HBN : Hid (Below w.heap.size w w7) := HB6.out.trans (hbn.mono (by omega))
              clear hbn z0 z1 z2 z3 z4
              cases ht : fitB f.kids[j] l (r + 1) with
              | false =>
                have HE : Hid (fitB f l r = false) := by unfold Hid; rw [HTF.out, ← HT2.out]; simp [ht]
                go_wp2_with fail
                go_ret
                exact ⟨ret_bool HE.out.symm, HBN.out⟩
              | true =>
                have HN : Hid (fitAll (f.kids.drop (j + 1)) (decide (j + 1 = 0)) l r = fitAll f.kids true l r) := by unfold Hid; rw [← HT2.out]; simp [ht]
                go_wp2_with fail
                go_roundw
                case rel => exact ⟨j + 1, by omega, by go_num, HN.out, HBN.out, by omega, HGN.out⟩
                case measure => simp [intOf]; omega
          | false =>
            by_cases hz : j = 0
            · have hgz : ¬ ((j : Int) > 0) := by omega
              have HT2 : Hid ((fitB f.kids[j] l r && fitAll (f.kids.drop (j + 1)) false l r) = fitAll f.kids true l r) := by unfold Hid; rw [← HRL.out, HTA.out, hdn, decide_eq_true hz]; rfl
              clear hz
              go_wp2_with fail
              refine (HIH.out f.kids[j] (List.getElem_mem hlt) d (r) a cap _ w5 (HKD.out _ (List.getElem_mem hlt)).1 (by omega) (HKD.out _ (List.getElem_mem hlt)).2.1 (by omega) (HO.hitsPl HB5.out HL.out) HIN5.out).mono ?_
              rintro e w7 ⟨rfl, hbn⟩
              have hsn := hbn.size
              have HGN := Lib.hid (HF5.out.later hbn)
              have HBN : Hid (Below w.heap.size w w7) := HB5.out.trans (hbn.mono (by omega))
              clear hbn z0 z1 z2 z3 z4
              cases ht : fitB f.kids[j] l (r) with
              | false =>
                have HE : Hid (fitB f l r = false) := by unfold Hid; rw [HTF.out, ← HT2.out]; simp [ht]
                go_wp2_with fail
                go_ret
                exact ⟨ret_bool HE.out.symm, HBN.out⟩
              | true =>
                have HN : Hid (fitAll (f.kids.drop (j + 1)) (decide (j + 1 = 0)) l r = fitAll f.kids true l r) := by unfold Hid; rw [← HT2.out]; simp [ht]
                go_wp2_with fail
                go_roundw
                case rel => exact ⟨j + 1, by omega, by go_num, HN.out, HBN.out, by omega, HGN.out⟩
                case measure => simp [intOf]; omega
            · have hgz : (j : Int) > 0 := by omega
              have HT3 : Hid ((if dotsB f.kids[j] = true then fitAll (f.kids.drop (j + 1)) false l r else fitB f.kids[j] l r && fitAll (f.kids.drop (j + 1)) false l r) = fitAll f.kids true l r) := by unfold Hid; rw [← HRL.out, HTA.out, hdn, decide_eq_false hz]; rfl
              clear hz
              go_wp2_with fail
              refine (isDots_any f.kids[j] s1 t1 k1 l1 w5).mono ?_
              rintro e w6 ⟨rfl, hb6⟩
              have hs7 : w5.heap.size ≤ w6.heap.size := hb6.size
              have HB6 : Hid (Below w.heap.size w w6) := HB5.out.trans (hb6.mono (by omega))
              have HF6 := Lib.hid (HF5.out.later hb6)
              have HZ6 := Lib.hid (HZ5.out.later hb6)
              have HIN6 := Lib.hid (InV.lift hb6 HIN5.out)
              clear hb6 HB5 HF5 HZ5 HIN5 z0 z1 z2 z3 z4
              obtain ⟨z0, z1, z2, z3, z4⟩ := HZ6.out
              cases hdg : dotsB f.kids[j] with
              | true =>
                have HN : Hid (fitAll (f.kids.drop (j + 1)) (decide (j + 1 = 0)) l r = fitAll f.kids true l r) := by unfold Hid; rw [← HT3.out, hdg]; rfl
                clear z0 z1 z2 z3 z4
                go_wp2_with fail
                go_roundw
                case rel => exact ⟨j + 1, by omega, by go_num, HN.out, HB6.out, by omega, HF6.out⟩
                case measure => simp [intOf]; omega
              | false =>
                have HT2 : Hid ((fitB f.kids[j] l r && fitAll (f.kids.drop (j + 1)) false l r) = fitAll f.kids true l r) := by unfold Hid; rw [← HT3.out, hdg]; rfl
                go_wp2_with fail
                refine (HIH.out f.kids[j] (List.getElem_mem hlt) d (r) a cap _ w6 (HKD.out _ (List.getElem_mem hlt)).1 (by omega) (HKD.out _ (List.getElem_mem hlt)).2.1 (by omega) (HO.hitsPl HB6.out HL.out) HIN6.out).mono ?_
                rintro e w7 ⟨rfl, hbn⟩
                have hsn := hbn.size
                have HGN := Lib.hid (HF6.out.later hbn)
                have HBN : Hid (Below w.heap.size w w7) := HB6.out.trans (hbn.mono (by omega))
                clear hbn z0 z1 z2 z3 z4
                cases ht : fitB f.kids[j] l (r) with
                | false =>
                  have HE : Hid (fitB f l r = false) := by unfold Hid; rw [HTF.out, ← HT2.out]; simp [ht]
                  go_wp2_with fail
                  go_ret
                  exact ⟨ret_bool HE.out.symm, HBN.out⟩
                | true =>
                  have HN : Hid (fitAll (f.kids.drop (j + 1)) (decide (j + 1 = 0)) l r = fitAll f.kids true l r) := by unfold Hid; rw [← HT2.out]; simp [ht]
                  go_wp2_with fail
                  go_roundw
                  case rel => exact ⟨j + 1, by omega, by go_num, HN.out, HBN.out, by omega, HGN.out⟩
                  case measure => simp [intOf]; omega
        · obtain rfl : j = f.kids.length := by omega
          have HE : Hid (fitB f l r = true) := by unfold Hid; rw [HTF.out, ← HRL.out, List.drop_length]; simp [fitAll]
          go_wp2_with fail
          go_ret
          exact ⟨ret_bool HE.out.symm, HB.out⟩
    | true =>
      go_wp2_with fail
      go_loopw [32, 9, 10, 11] (fun i ii bx nn wr => ∃ j : Nat, j ≤ f.kids.length ∧ i = .int .i64 j ∧ fitAll (f.kids.drop j) (decide (j = 0)) l r = fitAll f.kids true l r ∧ Below w.heap.size w wr ∧ w.heap.size < wr.heap.size ∧ FormBox wr w.heap.size f fs ft fa fc) (fun i _ _ _ _ => f.kids.length - (intOf i).toNat)
      case atStart => exact ⟨0, Nat.zero_le _, rfl, rfl, HB3.out, hs4, HF3.out⟩
      case round =>
        obtain ⟨j, hj, rfl, hrl, hb, hsz, hfb⟩ := hrel
        have HRL := Lib.hid hrl
        have HFB := Lib.hid hfb
        have HB := Lib.hid hb
        clear hrl hb
        by_cases hlt : j < f.kids.length
        · rcases HROW.out with h0 | ⟨b, off, hfa, hbB, hr⟩
          · exfalso; rw [h0] at hlt; simp at hlt
          subst hfa
          have hbB' : b < w.heap.size := hbB
          obtain ⟨s1, t1, k1, l1, c0, c1, c2, c3, c4, hin⟩ := (hr.later (same_below HB.out) b hbB).at' j hlt
          have HIN := Lib.hid (InV.mono (ψ := (· < wr.heap.size)) (fun k (hk : k < w.heap.size) => by show k < wr.heap.size; omega) _ _ hin)
          have HTA := Lib.hid (fitAll_at hlt (decide (j = 0)) l r)
          have hj0 : (0 : Int) ≤ (j : Int) := by omega
          have hj1 : (j : Int) < (f.kids.length : Int) := by omega
          have hba := below_alloc wr (.cells #[.int .i64 f.kids[j].kind, .string f.kids[j].name, .int .i64 f.kids[j].n, .slice s1 f.kids[j].scopes.length t1, .slice k1 f.kids[j].kids.length l1] 33)
          obtain ⟨x0, x1, x2, x3, x4⟩ := hfb.later hba
          clear hin hr hbB hba
          go_wp2_with fail
          obtain ⟨w4, hw4⟩ : ∃ w4, w4 = wr.alloc (.cells #[.int .i64 f.kids[j].kind, .string f.kids[j].name, .int .i64 f.kids[j].n, .slice s1 f.kids[j].scopes.length t1, .slice k1 f.kids[j].kids.length l1] 33) := ⟨_, rfl⟩
          rw [← hw4]
          have hb4 : Below wr.heap.size wr w4 := by rw [hw4]; exact below_alloc _ _
          have hs5 : wr.heap.size < w4.heap.size := by rw [hw4]; simp
          have HZ4 : Hid (FormBox w4 wr.heap.size f.kids[j] s1 t1 k1 l1) := by unfold Hid; rw [hw4]; exact FormBox.fresh wr f.kids[j] s1 k1 t1 l1 _
          have HB4 : Hid (Below w.heap.size w w4) := HB.out.trans (hb4.mono (by omega))
          have HF4 := Lib.hid (HFB.out.later hb4)
          have HIN4 := Lib.hid (InV.lift hb4 HIN.out)
          clear hw4 hb4 x0 x1 x2 x3 x4 c0 c1 c2 c3 c4 HFB HB HIN
          refine (isRow_any w.heap.size f.kids (some ⟨b, off, none⟩) fc j w4 (by omega) (HKI.out.later (same_below HB4.out)) hlt).mono ?_
          rintro e w5 ⟨rfl, hb5⟩
          have hs6 : w4.heap.size ≤ w5.heap.size := hb5.size
          have HB5 : Hid (Below w.heap.size w w5) := HB4.out.trans (hb5.mono (by omega))
          have HF5 := Lib.hid (HF4.out.later hb5)
          have HZ5 := Lib.hid (HZ4.out.later hb5)
          have HIN5 := Lib.hid (InV.lift hb5 HIN4.out)
          clear hb5 HB4 HF4 HZ4 HIN4
          obtain ⟨z0, z1, z2, z3, z4⟩ := HZ5.out
          cases hdn : dotsAt f.kids (j + 1) with
          | true =>
            have HT1 : Hid (((belowB f.kids[j] l r && fitB f.kids[j] l (r + 1)) && fitAll (f.kids.drop (j + 1)) false l r) = fitAll f.kids true l r) := by unfold Hid; rw [← HRL.out, HTA.out, hdn]; rfl
            go_wp2_with fail
            refine (HBL.out f.kids[j] r a cap _ w5 (HKD.out _ (List.getElem_mem hlt)).2.2 (by omega) (HO.hitsPl HB5.out HL.out) HIN5.out).mono ?_
            rintro e w6 ⟨rfl, hb6⟩
            have hs7 : w5.heap.size ≤ w6.heap.size := hb6.size
            have HB6 : Hid (Below w.heap.size w w6) := HB5.out.trans (hb6.mono (by omega))
            have HF6 := Lib.hid (HF5.out.later hb6)
            have HZ6 := Lib.hid (HZ5.out.later hb6)
            have HIN6 := Lib.hid (InV.lift hb6 HIN5.out)
            clear hb6 HB5 HF5 HZ5 HIN5 z0 z1 z2 z3 z4
            obtain ⟨z0, z1, z2, z3, z4⟩ := HZ6.out
            cases hbw : belowB f.kids[j] l r with
            | false =>
              have HE : Hid (fitB f l r = false) := by unfold Hid; rw [HTF.out, ← HT1.out, hbw]; rfl
              go_wp2_with fail
              go_ret
              exact ⟨ret_bool HE.out.symm, HB6.out⟩
            | true =>
              have HT2 : Hid ((fitB f.kids[j] l (r + 1) && fitAll (f.kids.drop (j + 1)) false l r) = fitAll f.kids true l r) := by unfold Hid; rw [← HT1.out, hbw]; rfl
              have hr0 : (0 : Int) ≤ (r : Int) := by omega
              have hr1 : (r : Int) ≤ 1000 := by omega
              have hr2 : IntKind.i64.wrap ((r : Int) + 1) = (r : Int) + 1 := by rw [IntKind.wrap_i64]; omega
              go_wp2_with fail
              refine (HIH.out f.kids[j] (List.getElem_mem hlt) d (r + 1) a cap _ w6 (HKD.out _ (List.getElem_mem hlt)).1 (by omega) (HKD.out _ (List.getElem_mem hlt)).2.1 (by omega) (HO.hitsPl HB6.out HL.out) HIN6.out).mono ?_
              rintro e w7 ⟨rfl, hbn⟩
              have hsn := hbn.size
              have HGN := Lib.hid (HF6.out.later hbn)
              have HBN : Hid (Below w.heap.size w w7) := HB6.out.trans (hbn.mono (by omega))
              clear hbn z0 z1 z2 z3 z4
              cases ht : fitB f.kids[j] l (r + 1) with
              | false =>
                have HE : Hid (fitB f l r = false) := by unfold Hid; rw [HTF.out, ← HT2.out]; simp [ht]
                go_wp2_with fail
                go_ret
                exact ⟨ret_bool HE.out.symm, HBN.out⟩
              | true =>
                have HN : Hid (fitAll (f.kids.drop (j + 1)) (decide (j + 1 = 0)) l r = fitAll f.kids true l r) := by unfold Hid; rw [← HT2.out]; simp [ht]
                go_wp2_with fail
                go_roundw
                case rel => exact ⟨j + 1, by omega, by go_num, HN.out, HBN.out, by omega, HGN.out⟩
                case measure => simp [intOf]; omega
          | false =>
            by_cases hz : j = 0
            · have hgz : ¬ ((j : Int) > 0) := by omega
              have HT2 : Hid ((fitB f.kids[j] l r && fitAll (f.kids.drop (j + 1)) false l r) = fitAll f.kids true l r) := by unfold Hid; rw [← HRL.out, HTA.out, hdn, decide_eq_true hz]; rfl
              clear hz
              go_wp2_with fail
              refine (HIH.out f.kids[j] (List.getElem_mem hlt) d (r) a cap _ w5 (HKD.out _ (List.getElem_mem hlt)).1 (by omega) (HKD.out _ (List.getElem_mem hlt)).2.1 (by omega) (HO.hitsPl HB5.out HL.out) HIN5.out).mono ?_
              rintro e w7 ⟨rfl, hbn⟩
              have hsn := hbn.size
              have HGN := Lib.hid (HF5.out.later hbn)
              have HBN : Hid (Below w.heap.size w w7) := HB5.out.trans (hbn.mono (by omega))
              clear hbn z0 z1 z2 z3 z4
              cases ht : fitB f.kids[j] l (r) with
              | false =>
                have HE : Hid (fitB f l r = false) := by unfold Hid; rw [HTF.out, ← HT2.out]; simp [ht]
                go_wp2_with fail
                go_ret
                exact ⟨ret_bool HE.out.symm, HBN.out⟩
              | true =>
                have HN : Hid (fitAll (f.kids.drop (j + 1)) (decide (j + 1 = 0)) l r = fitAll f.kids true l r) := by unfold Hid; rw [← HT2.out]; simp [ht]
                go_wp2_with fail
                go_roundw
                case rel => exact ⟨j + 1, by omega, by go_num, HN.out, HBN.out, by omega, HGN.out⟩
                case measure => simp [intOf]; omega
            · have hgz : (j : Int) > 0 := by omega
              have HT3 : Hid ((if dotsB f.kids[j] = true then fitAll (f.kids.drop (j + 1)) false l r else fitB f.kids[j] l r && fitAll (f.kids.drop (j + 1)) false l r) = fitAll f.kids true l r) := by unfold Hid; rw [← HRL.out, HTA.out, hdn, decide_eq_false hz]; rfl
              clear hz
              go_wp2_with fail
              refine (isDots_any f.kids[j] s1 t1 k1 l1 w5).mono ?_
              rintro e w6 ⟨rfl, hb6⟩
              have hs7 : w5.heap.size ≤ w6.heap.size := hb6.size
              have HB6 : Hid (Below w.heap.size w w6) := HB5.out.trans (hb6.mono (by omega))
              have HF6 := Lib.hid (HF5.out.later hb6)
              have HZ6 := Lib.hid (HZ5.out.later hb6)
              have HIN6 := Lib.hid (InV.lift hb6 HIN5.out)
              clear hb6 HB5 HF5 HZ5 HIN5 z0 z1 z2 z3 z4
              obtain ⟨z0, z1, z2, z3, z4⟩ := HZ6.out
              cases hdg : dotsB f.kids[j] with
              | true =>
                have HN : Hid (fitAll (f.kids.drop (j + 1)) (decide (j + 1 = 0)) l r = fitAll f.kids true l r) := by unfold Hid; rw [← HT3.out, hdg]; rfl
                clear z0 z1 z2 z3 z4
                go_wp2_with fail
                go_roundw
                case rel => exact ⟨j + 1, by omega, by go_num, HN.out, HB6.out, by omega, HF6.out⟩
                case measure => simp [intOf]; omega
              | false =>
                have HT2 : Hid ((fitB f.kids[j] l r && fitAll (f.kids.drop (j + 1)) false l r) = fitAll f.kids true l r) := by unfold Hid; rw [← HT3.out, hdg]; rfl
                go_wp2_with fail
                refine (HIH.out f.kids[j] (List.getElem_mem hlt) d (r) a cap _ w6 (HKD.out _ (List.getElem_mem hlt)).1 (by omega) (HKD.out _ (List.getElem_mem hlt)).2.1 (by omega) (HO.hitsPl HB6.out HL.out) HIN6.out).mono ?_
                rintro e w7 ⟨rfl, hbn⟩
                have hsn := hbn.size
                have HGN := Lib.hid (HF6.out.later hbn)
                have HBN : Hid (Below w.heap.size w w7) := HB6.out.trans (hbn.mono (by omega))
                clear hbn z0 z1 z2 z3 z4
                cases ht : fitB f.kids[j] l (r) with
                | false =>
                  have HE : Hid (fitB f l r = false) := by unfold Hid; rw [HTF.out, ← HT2.out]; simp [ht]
                  go_wp2_with fail
                  go_ret
                  exact ⟨ret_bool HE.out.symm, HBN.out⟩
                | true =>
                  have HN : Hid (fitAll (f.kids.drop (j + 1)) (decide (j + 1 = 0)) l r = fitAll f.kids true l r) := by unfold Hid; rw [← HT2.out]; simp [ht]
                  go_wp2_with fail
                  go_roundw
                  case rel => exact ⟨j + 1, by omega, by go_num, HN.out, HBN.out, by omega, HGN.out⟩
                  case measure => simp [intOf]; omega
        · obtain rfl : j = f.kids.length := by omega
          have HE : Hid (fitB f l r = true) := by unfold Hid; rw [HTF.out, ← HRL.out, List.drop_length]; simp [fitAll]
          go_wp2_with fail
          go_ret
          exact ⟨ret_bool HE.out.symm, HB.out⟩
end
end Go.Proofs.Ytnogpaflibghhaa
namespace Go.Proofs.Ytnogpaflibghhaa
section
open Go.RowKit
set_option linter.unusedVariables false
set_option linter.unusedSimpArgs false
/-- has none of these the name? -/
def noneOf (x : Ht) (pre : List Fm) : Bool := !(pre.any fun p => nodeSame x.name p)
theorem noneOf_snoc (x : Ht) (pre : List Fm) (p : Fm) : noneOf x (pre ++ [p]) = (noneOf x pre && !nodeSame x.name p) := by
  unfold noneOf
  rw [List.any_append]
  simp
def InI (B ab hb : Nat) (x : Ht) (n0 : Option Addr) (n1 : Nat) (n2 : Option Addr) (n3 : Nat) (pre : List Fm) (E : Nat → Prop) (W : World) : Prop :=
  (∀ k, E k ↔ (k = ab ∨ k = hb)) ∧ W.cell? ⟨ab, 0, none⟩ = some (.bool (noneOf x pre)) ∧ W.frozen? ⟨ab, 0, none⟩ = false ∧ FormBox W hb x.name n0 n1 n2 n3 ∧ InV (· < B) W x.name (.agg #[.int .i64 x.name.kind, .string x.name.name, .int .i64 x.name.n, .slice n0 x.name.scopes.length n1, .slice n2 x.name.kids.length n3])
theorem FormBox.keepT {w w' : World} {b : Nat} {f : Fm} {sa a : Option Addr} {scap cap : Nat} (h : FormBox w b f sa scap a cap) (hs : w'.heap[b]? = w.heap[b]?) : FormBox w' b f sa scap a cap := by
  obtain ⟨x0, x1, x2, x3, x4⟩ := h
  exact ⟨(World.cell?_of_block (a := ⟨b, 0, none⟩) hs).trans x0, (World.cell?_of_block (a := ⟨b, 1, none⟩) hs).trans x1, (World.cell?_of_block (a := ⟨b, 2, none⟩) hs).trans x2, (World.cell?_of_block (a := ⟨b, 3, none⟩) hs).trans x3, (World.cell?_of_block (a := ⟨b, 4, none⟩) hs).trans x4⟩
set_option maxRecDepth 100000 in
set_option maxHeartbeats 2000000 in
theorem inVisitor (B ab hb : Nat) (hBa : B ≤ ab) (hBh : B ≤ hb) (hne : ab ≠ hb) (x : Ht) (n0 : Option Addr) (n1 : Nat) (n2 : Option Addr) (n3 : Nat) : Visitor (fun _ => True) B 216 #[.pointer (some ⟨ab, 0, none⟩), .pointer (some ⟨hb, 0, none⟩)] (InI B ab hb x n0 n1 n2 n3) := by
  refine ⟨enters_of Try.func216 (by kernel_rfl) rfl, ?_, ?_⟩
  · rintro pre E W W' ⟨h1, h2, h3, h4, h5⟩ _ _ _ _ hs hB
    have e := hs ab ((h1 ab).2 (.inl rfl))
    exact ⟨h1, (World.cell?_of_block (a := ⟨ab, 0, none⟩) e).trans h2, (World.frozen?_of_block (a := ⟨ab, 0, none⟩) e).trans h3, h4.keepT (hs hb ((h1 hb).2 (.inr rfl))), InV.later (fun k hk => hB k hk) _ _ h5⟩
  · rintro pre E p W ⟨h1, h2, h3, h4, h5⟩ hl _ hE hin
    have hal : ab < W.heap.size := cell_lt h2
    have hhl : hb < W.heap.size := h4.lt
    have H1 := Lib.hid h1
    have HE := Lib.hid hE
    have H5 := Lib.hid h5
    have HIN := Lib.hid hin
    have HFB := Lib.hid h4
    have HSN := Lib.hid (noneOf_snoc x pre p.f)
    have HC := Lib.hid h2
    have HFZ := Lib.hid h3
    unfold Item.val
    show Calls Try.prog 216 #[.agg #[.int .i64 p.f.kind, .string p.f.name, .int .i64 p.f.n, .slice p.sa p.f.scopes.length p.scap, .slice p.a p.f.kids.length p.cap], .pointer (some ⟨ab, 0, none⟩), .pointer (some ⟨hb, 0, none⟩)] W _
    cases hn : noneOf x pre with
    | false =>
      rw [hn] at h2 HSN
      clear h1 h4 h5 hE hin
      go_enter Try.func216, Try.ntmps216
      go_wp2_with fail
      go_end0
      have hz : (W.setCell ⟨ab, 0, none⟩ (.bool false)).heap.size = W.heap.size := by simp [World.setCell]
      have hot : ∀ k, k ≠ ab → (W.setCell ⟨ab, 0, none⟩ (.bool false)).heap[k]? = W.heap[k]? := fun k hk => Below.heap_setCell _ _ _ _ hk
      have hba := below_alloc (W.setCell ⟨ab, 0, none⟩ (.bool false)) (.cells #[.int .i64 p.f.kind, .string p.f.name, .int .i64 p.f.n, .slice p.sa p.f.scopes.length p.scap, .slice p.a p.f.kids.length p.cap] 33)
      refine ⟨rfl, E, ⟨H1.out, ?_, ?_, ?_, ?_⟩, ⟨rfl, rfl, rfl, by simp [World.setCell], fun k hk hn => ?_⟩, fun k hk => ⟨.inl hk, ?_⟩⟩
      · rw [HSN.out]
        exact (hba.cell (p := ⟨ab, 0, none⟩) (by rw [hz]; exact hal)).trans (World.cell?_setCell_same _ _ _ h2)
      · rw [hba.frozen (p := ⟨ab, 0, none⟩) (by rw [hz]; exact hal), World.frozen?_setCell]
        exact h3
      · exact HFB.out.keepT ((hba.block hb (by rw [hz]; exact hhl)).trans (hot hb (fun e => hne e.symm)))
      · exact InV.later (φ := (· < B)) (fun k hk => (hba.block k (by rw [hz]; have : k < B := hk; omega)).trans (hot k (by have : k < B := hk; omega))) _ _ H5.out
      · rw [hba.block k (by rw [hz]; exact hk)]
        exact hot k (fun e => hn ((H1.out k).2 (.inl e)))
      · have := (H1.out k).1 hk
        rw [size_alloc', hz]
        omega
    | true =>
      rw [hn] at h2 HSN
      have hba := below_alloc W (.cells #[.int .i64 p.f.kind, .string p.f.name, .int .i64 p.f.n, .slice p.sa p.f.scopes.length p.scap, .slice p.a p.f.kids.length p.cap] 33)
      have c0 := cell_later' hba h2
      obtain ⟨x0, x1, x2, x3, x4⟩ := h4.later hba
      clear h1 h4 h5 hE hin hba h2 h3
      go_enter Try.func216, Try.ntmps216
      go_wp2_with fail
      obtain ⟨w1, hw1⟩ : ∃ w1, w1 = W.alloc (.cells #[.int .i64 p.f.kind, .string p.f.name, .int .i64 p.f.n, .slice p.sa p.f.scopes.length p.scap, .slice p.a p.f.kids.length p.cap] 33) := ⟨_, rfl⟩
      rw [← hw1]
      have hb1 : Below W.heap.size W w1 := by rw [hw1]; exact below_alloc _ _
      have hs1 : W.heap.size < w1.heap.size := by rw [hw1]; simp
      have HB1 := Lib.hid hb1
      clear hw1 hb1 x0 x1 x2 x3 x4 c0
      refine (sameNode_any B x.name p.f _ _ w1 (by omega) (InV.later (same_below (HB1.out.mono (by omega))) _ _ H5.out) (InV.later (same_below (HB1.out.mono (by omega))) _ _ HIN.out)).mono ?_
      rintro e w2 ⟨rfl, hb2⟩
      have hs2 := hb2.size
      have hb02 : Below W.heap.size W w2 := HB1.out.trans (hb2.mono (by omega))
      have c2 := cell_later' hb02 HC.out
      have f2 := (hb02.frozen (p := ⟨ab, 0, none⟩) hal).trans HFZ.out
      have HB2 := Lib.hid hb02
      clear hb2 hb02
      go_wp2_with fail
      go_end0
      have hz : (w2.setCell ⟨ab, 0, none⟩ (.bool (!nodeSame x.name p.f))).heap.size = w2.heap.size := by simp [World.setCell]
      have hot : ∀ k, k ≠ ab → (w2.setCell ⟨ab, 0, none⟩ (.bool (!nodeSame x.name p.f))).heap[k]? = w2.heap[k]? := fun k hk => Below.heap_setCell _ _ _ _ hk
      refine ⟨rfl, E, ⟨H1.out, ?_, ?_, ?_, ?_⟩, ⟨HB2.out.os, HB2.out.tape, HB2.out.output, by rw [hz]; exact HB2.out.size, fun k hk hn => ?_⟩, fun k hk => ⟨.inl hk, ?_⟩⟩
      · rw [HSN.out]
        exact World.cell?_setCell_same _ _ _ c2
      · rw [World.frozen?_setCell]
        exact f2
      · exact HFB.out.keepT ((hot hb (fun e => hne e.symm)).trans (HB2.out.block hb hhl))
      · exact InV.later (φ := (· < B)) (fun k hk => (hot k (by have : k < B := hk; omega)).trans (HB2.out.block k (by have : k < B := hk; omega))) _ _ H5.out
      · rw [hot k (fun e => hn ((H1.out k).2 (.inl e)))]
        exact HB2.out.block k hk
      · have := (H1.out k).1 hk
        rw [hz]
        omega
/-- is a variable in none of the parts of a form? -/
def absentB (g : Fm) (x : Ht) : Bool := noneOf x g.pre
set_option maxRecDepth 100000 in
set_option maxHeartbeats 2000000 in
theorem hitsIn1_any (g : Item) (tb : Nat) (x : Ht) (v : Value) (W : World) (hcnt : g.f.count ≤ 1048577) (hend : EndlessAt g.val W) (hg : InV (· < W.heap.size) W g.f g.val) (htb : FormBox W tb g.f g.sa g.scap g.a g.cap) (hx : InH (· < W.heap.size) W x v) :
    Calls Try.prog 215 #[v, .pointer (some ⟨tb, 0, none⟩)] W fun e W' => e = .returned (.bool (absentB g.f x)) ∧ Below W.heap.size W W' := by
  have HG := Lib.hid hg
  have HEND := Lib.hid hend
  obtain ⟨e0, e1, e2, e3, e4, e5, e6, e7, e8, e9, rfl, _, hn, _⟩ := hx.form
  have HN := Lib.hid hn
  have htl := htb.lt
  have hba := (below_alloc W (.cells #[.int .i64 x.name.kind, .string x.name.name, .int .i64 x.name.n, .slice e0 x.name.scopes.length e1, .slice e2 x.name.kids.length e3, .int .i64 x.depth, .int .i64 x.one.kind, .string x.one.name, .int .i64 x.one.n, .slice e4 x.one.scopes.length e5, .slice e6 x.one.kids.length e7, .slice e8 x.many.length e9] 60)).alloc (by simp) (.cells #[.bool true] 4)
  obtain ⟨y0, y1, y2, y3, y4⟩ := htb.later hba
  clear hg hend hn hx hba htb
  go_enter Try.func215, Try.ntmps215
  go_wp2_with fail
  obtain ⟨w1, hw1⟩ : ∃ w1, w1 = (W.alloc (.cells #[.int .i64 x.name.kind, .string x.name.name, .int .i64 x.name.n, .slice e0 x.name.scopes.length e1, .slice e2 x.name.kids.length e3, .int .i64 x.depth, .int .i64 x.one.kind, .string x.one.name, .int .i64 x.one.n, .slice e4 x.one.scopes.length e5, .slice e6 x.one.kids.length e7, .slice e8 x.many.length e9] 60)).alloc (.cells #[.bool true] 4) := ⟨_, rfl⟩
  rw [← hw1]
  have hb1 : Below W.heap.size W w1 := by rw [hw1]; exact (below_alloc _ _).alloc (by simp) _
  have hs1 : w1.heap.size = W.heap.size + 2 := by rw [hw1]; simp
  have c1 : w1.cell? ⟨W.heap.size + 1, 0, none⟩ = some (.bool (noneOf x [])) := by rw [hw1]; exact World.cell?_alloc_at _ _ _ _ (by simp)
  have f1 : w1.frozen? ⟨W.heap.size + 1, 0, none⟩ = false := by rw [hw1]; exact World.frozen?_alloc_at _ _ _ _ (by simp)
  have hfb : FormBox w1 W.heap.size x.name e0 e1 e2 e3 := by
    rw [hw1]
    exact FormBox.later (w := W.alloc (.cells #[.int .i64 x.name.kind, .string x.name.name, .int .i64 x.name.n, .slice e0 x.name.scopes.length e1, .slice e2 x.name.kids.length e3, .int .i64 x.depth, .int .i64 x.one.kind, .string x.one.name, .int .i64 x.one.n, .slice e4 x.one.scopes.length e5, .slice e6 x.one.kids.length e7, .slice e8 x.many.length e9] 60)) ⟨World.cell?_alloc_at _ _ _ _ rfl, World.cell?_alloc_at _ _ _ _ rfl, World.cell?_alloc_at _ _ _ _ rfl, World.cell?_alloc_at _ _ _ _ rfl, World.cell?_alloc_at _ _ _ _ rfl⟩ (below_alloc _ _)
  have HB1 := Lib.hid hb1
  refine (visit_any (fun _ => True) (fun _ _ _ _ => trivial) W.heap.size _ _ _ (inVisitor W.heap.size (W.heap.size + 1) W.heap.size (by omega) (by omega) (by omega) x e0 e1 e2 e3) g (fun k => k = W.heap.size + 1 ∨ k = W.heap.size) w1 (by omega) (fun k hk => by omega) ⟨fun k => Iff.rfl, c1, f1, hfb, InV.later (same_below hb1) _ _ HN.out⟩ (InV.later (same_below hb1) _ _ HG.out) hcnt (HEND.out.later hb1) trivial).mono ?_
  rintro e w2 ⟨rfl, E', ⟨_, h2, _⟩, ho, _⟩
  have HB : Hid (Below W.heap.size W w2) := ⟨ho.os.trans HB1.out.os, ho.tape.trans HB1.out.tape, ho.output.trans HB1.out.output, by have := ho.size; omega, fun k hk => (ho.block k (by omega) (by omega)).trans (HB1.out.block k hk)⟩
  clear hw1 hb1 c1 f1 hfb ho y0 y1 y2 y3 y4
  go_wp2_with fail
  go_ret
  exact ⟨rfl, HB.out⟩
set_option maxRecDepth 100000 in
set_option maxHeartbeats 1000000 in
theorem below1_any (r : Nat) (rb : Nat) (x : Ht) (v : Value) (φ : Nat → Prop) (W : World) (hr : W.cell? ⟨rb, 0, none⟩ = some (.int .i64 r)) (hx : InH φ W x v) :
    Calls Try.prog 201 #[v, .pointer (some ⟨rb, 0, none⟩)] W fun e W' => e = .returned (.bool (decide (x.depth > (r : Int)))) ∧ Below W.heap.size W W' := by
  obtain ⟨e0, e1, e2, e3, e4, e5, e6, e7, e8, e9, rfl, _⟩ := hx.form
  have y0 := cell_later' (below_alloc W (.cells #[.int .i64 x.name.kind, .string x.name.name, .int .i64 x.name.n, .slice e0 x.name.scopes.length e1, .slice e2 x.name.kids.length e3, .int .i64 x.depth, .int .i64 x.one.kind, .string x.one.name, .int .i64 x.one.n, .slice e4 x.one.scopes.length e5, .slice e6 x.one.kids.length e7, .slice e8 x.many.length e9] 60)) hr
  have HB : Hid (Below W.heap.size W (W.alloc (.cells #[.int .i64 x.name.kind, .string x.name.name, .int .i64 x.name.n, .slice e0 x.name.scopes.length e1, .slice e2 x.name.kids.length e3, .int .i64 x.depth, .int .i64 x.one.kind, .string x.one.name, .int .i64 x.one.n, .slice e4 x.one.scopes.length e5, .slice e6 x.one.kids.length e7, .slice e8 x.many.length e9] 60))) := below_alloc _ _
  clear hx
  go_enter Try.func201, Try.ntmps201
  go_wp2_with fail
  go_ret
  exact ⟨rfl, HB.out⟩
end
end Go.Proofs.Ytnogpaflibghhaa
namespace Go.Proofs.Ytnogpaflibghhaa
section
open Go.RowKit
set_option linter.unusedVariables false
set_option linter.unusedSimpArgs false
/-- a row, element by element -/
theorem RowH.of_at {φ : Nat → Prop} {w : World} {b : Nat} : ∀ (l : List Ht) (off : Nat), (∀ (i : Nat) (h : i < l.length), ∃ c0 c1 c2 c3 c4 c5 c6 c7 c8 c9 c10 c11, w.cell? ⟨b, off + i * 12, none⟩ = some c0 ∧ w.cell? ⟨b, off + i * 12 + 1, none⟩ = some c1 ∧ w.cell? ⟨b, off + i * 12 + 2, none⟩ = some c2 ∧ w.cell? ⟨b, off + i * 12 + 3, none⟩ = some c3 ∧ w.cell? ⟨b, off + i * 12 + 4, none⟩ = some c4 ∧ w.cell? ⟨b, off + i * 12 + 5, none⟩ = some c5 ∧ w.cell? ⟨b, off + i * 12 + 6, none⟩ = some c6 ∧ w.cell? ⟨b, off + i * 12 + 7, none⟩ = some c7 ∧ w.cell? ⟨b, off + i * 12 + 8, none⟩ = some c8 ∧ w.cell? ⟨b, off + i * 12 + 9, none⟩ = some c9 ∧ w.cell? ⟨b, off + i * 12 + 10, none⟩ = some c10 ∧ w.cell? ⟨b, off + i * 12 + 11, none⟩ = some c11 ∧ InH φ w l[i] (.agg #[c0, c1, c2, c3, c4, c5, c6, c7, c8, c9, c10, c11])) → RowH φ w b off l
  | [], off, _ => by unfold RowH; trivial
  | x :: r, off, h => by
    unfold RowH
    refine ⟨?_, RowH.of_at r (off + 12) fun i hi => ?_⟩
    · have := h 0 (by simp)
      simpa using this
    · have := h (i + 1) (by simpa using hi)
      rw [show off + (i + 1) * 12 = off + 12 + i * 12 from by omega] at this
      simpa using this
/-- one element of a row is stored anew -/
theorem RowH.put {φ : Nat → Prop} {w : World} {b : Nat} {l : List Ht} {i : Nat} {x : Ht} {c0 c1 c2 c3 c4 c5 c6 c7 c8 c9 c10 c11 : Value} (h : RowH φ w b 0 l) (hi : i < l.length) (hb : ¬ φ b) (hx : InH φ w x (.agg #[c0, c1, c2, c3, c4, c5, c6, c7, c8, c9, c10, c11])) : RowH φ (sets w b (i * 12) [c0, c1, c2, c3, c4, c5, c6, c7, c8, c9, c10, c11]) b 0 (l.set i x) := by
  have hs : Same φ w (sets w b (i * 12) [c0, c1, c2, c3, c4, c5, c6, c7, c8, c9, c10, c11]) := fun k hk => sets_block b _ w _ (fun e => hb (e ▸ hk))
  have hin := sets_in b [c0, c1, c2, c3, c4, c5, c6, c7, c8, c9, c10, c11] w (i * 12) (fun j hj => by
    obtain ⟨c0', c1', c2', c3', c4', c5', c6', c7', c8', c9', c10', c11', g0, g1, g2, g3, g4, g5, g6, g7, g8, g9, g10, g11, _⟩ := h.at i hi
    rw [Nat.zero_add] at g0 g1 g2 g3 g4 g5 g6 g7 g8 g9 g10 g11
    have hj' : j < 12 := hj
    match j, hj' with
    | 0, _ => exact ⟨_, g0⟩
    | 1, _ => exact ⟨_, g1⟩
    | 2, _ => exact ⟨_, g2⟩
    | 3, _ => exact ⟨_, g3⟩
    | 4, _ => exact ⟨_, g4⟩
    | 5, _ => exact ⟨_, g5⟩
    | 6, _ => exact ⟨_, g6⟩
    | 7, _ => exact ⟨_, g7⟩
    | 8, _ => exact ⟨_, g8⟩
    | 9, _ => exact ⟨_, g9⟩
    | 10, _ => exact ⟨_, g10⟩
    | 11, _ => exact ⟨_, g11⟩)
  refine RowH.of_at _ 0 fun m hm => ?_
  rw [List.length_set] at hm
  rw [Nat.zero_add]
  by_cases he : m = i
  · subst he
    refine ⟨c0, c1, c2, c3, c4, c5, c6, c7, c8, c9, c10, c11, by have := hin 0 (by simp); simpa using this, by have := hin 1 (by simp); simpa using this, by have := hin 2 (by simp); simpa using this, by have := hin 3 (by simp); simpa using this, by have := hin 4 (by simp); simpa using this, by have := hin 5 (by simp); simpa using this, by have := hin 6 (by simp); simpa using this, by have := hin 7 (by simp); simpa using this, by have := hin 8 (by simp); simpa using this, by have := hin 9 (by simp); simpa using this, by have := hin 10 (by simp); simpa using this, by have := hin 11 (by simp); simpa using this, ?_⟩
    rw [List.getElem_set_self]
    exact InH.later hs _ _ hx
  · obtain ⟨d0, d1, d2, d3, d4, d5, d6, d7, d8, d9, d10, d11, g0, g1, g2, g3, g4, g5, g6, g7, g8, g9, g10, g11, hin2⟩ := h.at m hm
    rw [Nat.zero_add] at g0 g1 g2 g3 g4 g5 g6 g7 g8 g9 g10 g11
    have ho : ∀ q, q < 12 → (sets w b (i * 12) [c0, c1, c2, c3, c4, c5, c6, c7, c8, c9, c10, c11]).cell? ⟨b, m * 12 + q, none⟩ = w.cell? ⟨b, m * 12 + q, none⟩ := fun q hq => sets_out b _ w _ _ (by show m * 12 + q < i * 12 ∨ i * 12 + 12 ≤ m * 12 + q; omega)
    refine ⟨d0, d1, d2, d3, d4, d5, d6, d7, d8, d9, d10, d11, (ho 0 (by omega)).trans g0, (ho 1 (by omega)).trans g1, (ho 2 (by omega)).trans g2, (ho 3 (by omega)).trans g3, (ho 4 (by omega)).trans g4, (ho 5 (by omega)).trans g5, (ho 6 (by omega)).trans g6, (ho 7 (by omega)).trans g7, (ho 8 (by omega)).trans g8, (ho 9 (by omega)).trans g9, (ho 10 (by omega)).trans g10, (ho 11 (by omega)).trans g11, ?_⟩
    rw [List.getElem_set_ne (fun e => he e.symm)]
    exact InH.later hs _ _ hin2
theorem run_clear_many {P : Program} (w : World) (t e : TypeId) (zs : Array Value) (m : Nat) (ht : P.underlying t = some (.slice e)) (hv : ∀ w, (zeroValue e).run P w = .ok (.agg zs) w) (hm : zs.size = m) (h1 : ∀ (i : Nat), i < m → (zs[i]!).oneCell' = true) (hm0 : 0 < m) (b o n c : Nat) (hn : 0 < n)
    (hc : ∀ j, j < n * m → (w.cell? ⟨b, o + j, none⟩).isSome = true) (hf : ∀ j, j < n * m → w.frozen? ⟨b, o + j, none⟩ = false) :
    ∃ L : List Value, L.length = n * m ∧ ∀ ty, (Builtin.clear_ #[t] ty #[.slice (some ⟨b, o, none⟩) n c]).run P w = .ok (.tuple #[]) (w.setCells b o L) := by
  obtain ⟨L, hL⟩ : ∃ L, L = (Builtin.zeroCells (Value.agg zs).cells n).toList := ⟨_, rfl⟩
  have hlen : L.length = n * m := by rw [hL]; simp [Builtin.zeroCells, Value.cells, hm]
  have hone : ∀ v ∈ L, v.oneCell' = true := by
    intro v hv'
    rw [hL] at hv'
    simp only [Builtin.zeroCells, Value.cells, Array.toList_map, List.mem_map] at hv'
    obtain ⟨i, hi, rfl⟩ := hv'
    rw [hm]
    exact h1 _ (Nat.mod_lt _ hm0)
  have hst := run_storeCells_cells (P := P) b o L 0 w (by rw [hlen]; simpa using hc) (by rw [hlen]; simpa using hf) hone
  simp only [Nat.add_zero] at hst
  refine ⟨L, hlen, fun ty => ?_⟩
  obtain ⟨k, rfl⟩ : ∃ k, n = k + 1 := ⟨n - 1, by omega⟩
  rw [hL] at hst ⊢
  simp [Builtin.clear_, run_underlying ht, hv, hst]
theorem setCells_facts (b : Nat) : ∀ (l : List Value) (o : Nat) (w : World), (w.setCells b o l).heap.size = w.heap.size ∧ ((w.setCells b o l).os = w.os ∧ (w.setCells b o l).tape = w.tape ∧ (w.setCells b o l).output = w.output) ∧ (∀ k, k ≠ b → (w.setCells b o l).heap[k]? = w.heap[k]?) ∧ (∀ k, Plain w k → Plain (w.setCells b o l) k)
  | [], _, _ => ⟨rfl, ⟨rfl, rfl, rfl⟩, fun _ _ => rfl, fun _ h => h⟩
  | v :: r, o, w => by
    obtain ⟨h1, h2, h3, h4⟩ := setCells_facts b r (o + 1) (w.setCell ⟨b, o, none⟩ v)
    exact ⟨h1.trans (by simp [World.setCell]), h2, fun k hk => (h3 k hk).trans (Below.heap_setCell _ _ _ _ hk), fun k hp => h4 k (hp.setCell _ _ _)⟩
theorem zero_hit (w : World) : (zeroValue 60).run Try.prog w = .ok (.agg zeroHt) w := by
  obtain ⟨i, hi, hzz⟩ := Option.map_eq_some_iff.1 Try.infoHt
  simp only [Prod.mk.injEq] at hzz
  obtain ⟨hz, _, _⟩ := hzz
  simp [zeroValue, typeInfo, hi, hz, zeroHt]
/-- what is asked of the function that tells what goes -/
structure DelP (gf : Nat) (lb : Array Value) (P : Ht → Bool) (ks : List Ht) (w : World) (sb : Nat) : Prop where
  eg : ∀ args w, (callFunc gf args).run Try.prog w = .ok (.enter gf args) w
  calls : ∀ x ∈ ks, ∀ (v : Value) (W : World), w.heap.size ≤ W.heap.size → (∀ k, k < w.heap.size → k ≠ sb → W.heap[k]? = w.heap[k]?) → InH (· < W.heap.size) W x v → Calls Try.prog gf (#[v] ++ lb) W fun e W' => e = .returned (.bool (P x)) ∧ Below W.heap.size W W'
/-- the others, and what is behind them -/
structure DelMid (w wr : World) (sb : Nat) (P : Ht → Bool) (ks gs : List Ht) (i j : Nat) : Prop where
  len : gs.length = ks.length
  kept : gs.take i = (ks.take j).filter fun x => !P x
  rest : gs.drop j = ks.drop j
  le : i < j
  row : RowH (fun k => Pl w.heap.size w k ∧ k ≠ sb) wr sb 0 gs
  plain : Plain wr sb
  size : w.heap.size ≤ wr.heap.size
  os : wr.os = w.os ∧ wr.tape = w.tape ∧ wr.output = w.output
  same : ∀ k, k < w.heap.size → k ≠ sb → wr.heap[k]? = w.heap[k]?
theorem rowOther {w w' : World} {sb : Nat} {l : List Ht} (hs : ∀ k, k < w.heap.size → w'.heap[k]? = w.heap[k]?) (hsl : sb < w.heap.size) (h : RowH (fun k => Pl w.heap.size w k ∧ k ≠ sb) w sb 0 l) : RowH (fun k => Pl w.heap.size w k ∧ k ≠ sb) w' sb 0 l := by
  refine RowH.of_at _ 0 fun m hm => ?_
  obtain ⟨d0, d1, d2, d3, d4, d5, d6, d7, d8, d9, d10, d11, g0, g1, g2, g3, g4, g5, g6, g7, g8, g9, g10, g11, hin⟩ := h.at m hm
  have hc : ∀ i, w'.cell? ⟨sb, i, none⟩ = w.cell? ⟨sb, i, none⟩ := fun i => World.cell?_of_block (a := ⟨sb, i, none⟩) (hs sb hsl)
  exact ⟨d0, d1, d2, d3, d4, d5, d6, d7, d8, d9, d10, d11, (hc _).trans g0, (hc _).trans g1, (hc _).trans g2, (hc _).trans g3, (hc _).trans g4, (hc _).trans g5, (hc _).trans g6, (hc _).trans g7, (hc _).trans g8, (hc _).trans g9, (hc _).trans g10, (hc _).trans g11, InH.later (fun k hk => hs k hk.1.1) _ _ hin⟩
theorem DelMid.later {w wr w2 : World} {sb : Nat} {P : Ht → Bool} {ks gs : List Ht} {i j : Nat} (h : DelMid w wr sb P ks gs i j) (hb : Below wr.heap.size wr w2) : DelMid w w2 sb P ks gs i j := by
  have hsz := h.size
  have hsl := h.plain.lt
  refine ⟨h.len, h.kept, h.rest, h.le, ?_, h.plain.later hb, Nat.le_trans h.size hb.size, ⟨hb.os.trans h.os.1, hb.tape.trans h.os.2.1, hb.output.trans h.os.2.2⟩, fun k hk hn => (hb.block k (by omega)).trans (h.same k hk hn)⟩
  refine RowH.of_at _ 0 fun m hm => ?_
  obtain ⟨d0, d1, d2, d3, d4, d5, d6, d7, d8, d9, d10, d11, g0, g1, g2, g3, g4, g5, g6, g7, g8, g9, g10, g11, hin⟩ := h.row.at m hm
  have hc : ∀ i, w2.cell? ⟨sb, i, none⟩ = wr.cell? ⟨sb, i, none⟩ := fun i => World.cell?_of_block (a := ⟨sb, i, none⟩) (hb.block sb hsl)
  exact ⟨d0, d1, d2, d3, d4, d5, d6, d7, d8, d9, d10, d11, (hc _).trans g0, (hc _).trans g1, (hc _).trans g2, (hc _).trans g3, (hc _).trans g4, (hc _).trans g5, (hc _).trans g6, (hc _).trans g7, (hc _).trans g8, (hc _).trans g9, (hc _).trans g10, (hc _).trans g11, InH.later (fun k hk => hb.block k (by have := hk.1.1; omega)) _ _ hin⟩
theorem sets_os (b : Nat) : ∀ (l : List Value) (w : World) (o : Nat), (sets w b o l).os = w.os ∧ (sets w b o l).tape = w.tape ∧ (sets w b o l).output = w.output
  | [], _, _ => ⟨rfl, rfl, rfl⟩
  | c :: r, w, o => by unfold sets; exact sets_os b r _ _
theorem take_filter_succ (P : Ht → Bool) (ks : List Ht) (j : Nat) (h : j < ks.length) : (ks.take (j + 1)).filter (fun x => !P x) = (ks.take j).filter (fun x => !P x) ++ (if P ks[j] = true then [] else [ks[j]]) := by
  rw [List.take_succ_eq_append_getElem h, List.filter_append]
  congr 1
  cases hp : P ks[j] <;> simp [hp]
set_option maxRecDepth 100000 in
set_option maxHeartbeats 8000000 in
theorem deleteH_any (gf : Nat) (lb : Array Value) (P : Ht → Bool) (ks : List Ht) (sb cap : Nat) (w : World) (hp : DelP gf lb P ks w sb) (hlen : ks.length ≤ cap) (hmax : cap ≤ maxLen) (hsz : szHs ks ≤ 1048577)
    (hrow : RowH (fun k => Pl w.heap.size w k ∧ k ≠ sb) w sb 0 ks) (hpl : Plain w sb) :
    Calls Try.prog 214 #[.slice (some ⟨sb, 0, none⟩) ks.length cap, .func (.func gf) #[] lb] w fun e w' => e = .returned (.slice (some ⟨sb, 0, none⟩) (ks.filter fun x => !P x).length cap) ∧
      HitsIn (Pl w'.heap.size w') w' (some ⟨sb, 0, none⟩) cap (ks.filter fun x => !P x) ∧ w.heap.size ≤ w'.heap.size ∧ (w'.os = w.os ∧ w'.tape = w.tape ∧ w'.output = w.output) ∧ (∀ k, k < w.heap.size → k ≠ sb → w'.heap[k]? = w.heap[k]?) := by
  have hsl : sb < w.heap.size := hpl.lt
  have HROW := Lib.hid hrow
  have HPL := Lib.hid hpl
  have HP := Lib.hid hp
  have heg := hp.eg
  have HMAX := Lib.hid hmax
  have hfl : (ks.filter fun x => !P x).length ≤ ks.length := List.length_filter_le _ _
  have HLEN := Lib.hid hlen
  have HPRED : Hid (PredH gf lb P ks (fun W => w.heap.size ≤ W.heap.size ∧ ∀ k, k < w.heap.size → W.heap[k]? = w.heap[k]?)) :=
    ⟨hp.eg, fun W W' h hb => ⟨Nat.le_trans h.1 hb.size, fun k hk => (hb.block k (by have := h.1; omega)).trans (h.2 k hk)⟩, fun g hg v W hin _ hok => hp.calls g hg v W hok.1 (fun k hk _ => hok.2 k hk) (InH.mono (fun k hk => hk.1) _ _ hin)⟩
  unfold maxLen at hmax
  clear hp hrow hpl
  go_enter Try.func214, Try.ntmps214
  go_wp2_with fail
  refine (indexFuncH_any gf lb P ks _ HPRED.out (some ⟨sb, 0, none⟩) cap w ⟨HLEN.out, HMAX.out, .inr ⟨sb, 0, rfl, ⟨hsl, HPL.out⟩, HROW.out.mono (fun k hk => hk.1) sb _ _⟩⟩ hsz ⟨Nat.le_refl _, fun k _ => rfl⟩).mono ?_
  rintro e w1 ⟨⟨r, rfl, hidx⟩, hb1⟩
  have hs1 := hb1.size
  rcases hidx with ⟨rfl, hno⟩ | ⟨i0, hi0, rfl, hpi, hno⟩
  · have HF : Hid ((ks.filter fun x => !P x) = ks) := List.filter_eq_self.2 fun x hx => by
      have := List.any_eq_false.1 hno x hx
      simpa using this
    have HR1 : Hid (HitsIn (Pl w1.heap.size w1) w1 (some ⟨sb, 0, none⟩) cap ks) := ⟨HLEN.out, HMAX.out, .inr ⟨sb, 0, rfl, ⟨by omega, HPL.out.later hb1⟩, RowH.mono (fun k hk => ⟨by have := hk.1.1; omega, hk.1.2.same (hb1.block k hk.1.1)⟩) sb _ _ (rowOther (fun k hk => hb1.block k hk) hsl HROW.out)⟩⟩
    have hm1 : ((-1 : Int) == -1) = true := by decide
    go_wp2_with fail
    go_ret
    rw [HF.out]
    exact ⟨rfl, HR1.out, hs1, ⟨hb1.os, hb1.tape, hb1.output⟩, fun k hk _ => hb1.block k hk⟩
  · have hne : ((i0 : Int) == -1) = false := by rw [beq_eq_false_iff_ne]; omega
    have hi00 : (0 : Int) ≤ (i0 : Int) := by omega
    have hi01 : (i0 : Int) < (ks.length : Int) := by omega
    have HMID : Hid (DelMid w w1 sb P ks ks i0 (i0 + 1)) := by
      refine ⟨rfl, ?_, rfl, by omega, ?_, HPL.out.later hb1, hs1, ⟨hb1.os, hb1.tape, hb1.output⟩, fun k hk _ => hb1.block k hk⟩
      · rw [take_filter_succ P ks i0 hi0, if_pos hpi, List.append_nil]
        exact (List.filter_eq_self.2 fun x hx => by
          have := List.any_eq_false.1 hno x hx
          simpa using this).symm
      · exact rowOther (fun k hk => hb1.block k hk) hsl HROW.out
    clear hno hpi hb1
    go_wp2_with fail
    go_loopw [5, 6, 7] (fun ii jj u wr => ∃ (i j : Nat) (gs : List Ht), ii = .int .i64 i ∧ jj = .int .i64 j ∧ j ≤ ks.length ∧ DelMid w wr sb P ks gs i j) (fun _ j _ _ => ks.length - (intOf j).toNat)
    case atStart => exact ⟨i0, i0 + 1, ks, rfl, by go_num, by omega, HMID.out⟩
    case round =>
      obtain ⟨i, j, gs, rfl, rfl, hj, hm⟩ := hrel
      have HM := Lib.hid hm
      have hgl := hm.len
      have hle := hm.le
      have hsw := hm.size
      have hi0' : (0 : Int) ≤ (i : Int) := by omega
      have hi1' : (i : Int) < (ks.length : Int) := by omega
      clear hm
      by_cases hlt : j < ks.length
      · have hjg : j < gs.length := by omega
        have hgj : gs[j] = ks[j] := by
          have h1 := HM.out.rest
          rw [List.drop_eq_getElem_cons hjg, List.drop_eq_getElem_cons hlt] at h1
          injection h1
        obtain ⟨e0, e1, e2, e3, e4, e5, e6, e7, e8, e9, q0, q1, q2, q3, q4, q5, q6, q7, q8, q9, q10, q11, hin⟩ := HM.out.row.at' j hjg
        rw [hgj] at q0 q1 q2 q3 q4 q5 q6 q7 q8 q9 q10 q11 hin
        obtain ⟨G, hG⟩ : ∃ G, ks[j] = G := ⟨_, rfl⟩
        have HGM : Hid (G ∈ ks) := by rw [← hG]; exact List.getElem_mem hlt
        rw [hG] at q0 q1 q2 q3 q4 q5 q6 q7 q8 q9 q10 q11 hin
        have HIN := Lib.hid hin
        have HTF : Hid ((ks.take (j + 1)).filter (fun x => !P x) = (ks.take j).filter (fun x => !P x) ++ (if P G = true then [] else [G])) := by rw [← hG]; exact take_filter_succ P ks j hlt
        have hj0 : (0 : Int) ≤ (j : Int) := by omega
        have hj1 : (j : Int) < (ks.length : Int) := by omega
        have HG := Lib.hid hG
        simp only [Nat.zero_add] at q0 q1 q2 q3 q4 q5 q6 q7 q8 q9 q10 q11
        clear hin hG hgj
        go_wp2_with fail
        obtain ⟨w2, hw2⟩ : ∃ w2, w2 = wr.alloc (.cells #[.int .i64 G.name.kind, .string G.name.name, .int .i64 G.name.n, .slice e0 G.name.scopes.length e1, .slice e2 G.name.kids.length e3, .int .i64 G.depth, .int .i64 G.one.kind, .string G.one.name, .int .i64 G.one.n, .slice e4 G.one.scopes.length e5, .slice e6 G.one.kids.length e7, .slice e8 G.many.length e9] 60) := ⟨_, rfl⟩
        rw [← hw2]
        have hb2 : Below wr.heap.size wr w2 := by rw [hw2]; exact below_alloc _ _
        have hs2 : wr.heap.size < w2.heap.size := by rw [hw2]; simp
        have y0 : w2.cell? ⟨wr.heap.size, 0, none⟩ = some (.int .i64 G.name.kind) := by rw [hw2]; exact World.cell?_alloc_at _ _ _ _ rfl
        have y1 : w2.cell? ⟨wr.heap.size, 1, none⟩ = some (.string G.name.name) := by rw [hw2]; exact World.cell?_alloc_at _ _ _ _ rfl
        have y2 : w2.cell? ⟨wr.heap.size, 2, none⟩ = some (.int .i64 G.name.n) := by rw [hw2]; exact World.cell?_alloc_at _ _ _ _ rfl
        have y3 : w2.cell? ⟨wr.heap.size, 3, none⟩ = some (.slice e0 G.name.scopes.length e1) := by rw [hw2]; exact World.cell?_alloc_at _ _ _ _ rfl
        have y4 : w2.cell? ⟨wr.heap.size, 4, none⟩ = some (.slice e2 G.name.kids.length e3) := by rw [hw2]; exact World.cell?_alloc_at _ _ _ _ rfl
        have y5 : w2.cell? ⟨wr.heap.size, 5, none⟩ = some (.int .i64 G.depth) := by rw [hw2]; exact World.cell?_alloc_at _ _ _ _ rfl
        have y6 : w2.cell? ⟨wr.heap.size, 6, none⟩ = some (.int .i64 G.one.kind) := by rw [hw2]; exact World.cell?_alloc_at _ _ _ _ rfl
        have y7 : w2.cell? ⟨wr.heap.size, 7, none⟩ = some (.string G.one.name) := by rw [hw2]; exact World.cell?_alloc_at _ _ _ _ rfl
        have y8 : w2.cell? ⟨wr.heap.size, 8, none⟩ = some (.int .i64 G.one.n) := by rw [hw2]; exact World.cell?_alloc_at _ _ _ _ rfl
        have y9 : w2.cell? ⟨wr.heap.size, 9, none⟩ = some (.slice e4 G.one.scopes.length e5) := by rw [hw2]; exact World.cell?_alloc_at _ _ _ _ rfl
        have y10 : w2.cell? ⟨wr.heap.size, 10, none⟩ = some (.slice e6 G.one.kids.length e7) := by rw [hw2]; exact World.cell?_alloc_at _ _ _ _ rfl
        have y11 : w2.cell? ⟨wr.heap.size, 11, none⟩ = some (.slice e8 G.many.length e9) := by rw [hw2]; exact World.cell?_alloc_at _ _ _ _ rfl
        have HM2 := Lib.hid (HM.out.later hb2)
        have HIN2 := Lib.hid (InH.mono (ψ := (· < w2.heap.size)) (fun k hk => by have := hk.1.1; show k < w2.heap.size; omega) _ _ (InH.later (fun k hk => hb2.block k (by have := hk.1.1; omega)) _ _ HIN.out))
        have HINK := Lib.hid (InH.later (w' := w2) (fun k hk => hb2.block k (by have := hk.1.1; omega)) _ _ HIN.out)
        clear hw2 hb2 q0 q1 q2 q3 q4 q5 q6 q7 q8 q9 q10 q11 HM HIN
        refine (HP.out.calls G HGM.out _ w2 (by omega) HM2.out.same HIN2.out).mono ?_
        rintro e w3 ⟨rfl, hb3⟩
        have hs3 := hb3.size
        have HM3 := Lib.hid (HM2.out.later hb3)
        have HINK3 := Lib.hid (InH.later (w' := w3) (fun k hk => hb3.block k (by have := hk.1.1; omega)) _ _ HINK.out)
        have y0 := cell_later' hb3 y0
        have y1 := cell_later' hb3 y1
        have y2 := cell_later' hb3 y2
        have y3 := cell_later' hb3 y3
        have y4 := cell_later' hb3 y4
        have y5 := cell_later' hb3 y5
        have y6 := cell_later' hb3 y6
        have y7 := cell_later' hb3 y7
        have y8 := cell_later' hb3 y8
        have y9 := cell_later' hb3 y9
        have y10 := cell_later' hb3 y10
        have y11 := cell_later' hb3 y11
        clear hb3 HM2 HIN2 HINK
        cases hp : P G with
        | true =>
          have HN : Hid (DelMid w w3 sb P ks gs i (j + 1)) := by
            have hm := HM3.out
            refine { hm with kept := ?_, rest := ?_, le := by omega }
            · rw [HTF.out, if_pos hp, List.append_nil]; exact hm.kept
            · have h1 := hm.rest
              have h2 : (gs.drop j).drop 1 = (ks.drop j).drop 1 := by rw [h1]
              rw [List.drop_drop, List.drop_drop] at h2
              exact h2
          clear y0 y1 y2 y3 y4 y5 y6 y7 y8 y9 y10 y11
          go_wp2_with fail
          go_roundw
          case rel => exact ⟨i, j + 1, gs, rfl, by go_num, by omega, HN.out⟩
          case measure => simp [intOf]; omega
        | false =>
          have hig : i < gs.length := by omega
          obtain ⟨d0, d1, d2, d3, d4, d5, d6, d7, d8, d9, d10, d11, g0, g1, g2, g3, g4, g5, g6, g7, g8, g9, g10, g11, _⟩ := HM3.out.row.at i hig
          rw [Nat.zero_add] at g0 g1 g2 g3 g4 g5 g6 g7 g8 g9 g10 g11
          have f_0 := HM3.out.plain.frozen (i * 12)
          have f_1 := HM3.out.plain.frozen (i * 12 + 1)
          have f_2 := HM3.out.plain.frozen (i * 12 + 2)
          have f_3 := HM3.out.plain.frozen (i * 12 + 3)
          have f_4 := HM3.out.plain.frozen (i * 12 + 4)
          have f_5 := HM3.out.plain.frozen (i * 12 + 5)
          have f_6 := HM3.out.plain.frozen (i * 12 + 6)
          have f_7 := HM3.out.plain.frozen (i * 12 + 7)
          have f_8 := HM3.out.plain.frozen (i * 12 + 8)
          have f_9 := HM3.out.plain.frozen (i * 12 + 9)
          have f_10 := HM3.out.plain.frozen (i * 12 + 10)
          have f_11 := HM3.out.plain.frozen (i * 12 + 11)
          go_wp2_with fail
          obtain ⟨V, hV⟩ : ∃ V, V = ((((((((((((w3.setCell ⟨sb, i * 12, none⟩ (.int .i64 G.name.kind)).setCell ⟨sb, i * 12 + 1, none⟩ (.string G.name.name)).setCell ⟨sb, i * 12 + 2, none⟩ (.int .i64 G.name.n)).setCell ⟨sb, i * 12 + 3, none⟩ (.slice e0 G.name.scopes.length e1)).setCell ⟨sb, i * 12 + 4, none⟩ (.slice e2 G.name.kids.length e3)).setCell ⟨sb, i * 12 + 5, none⟩ (.int .i64 G.depth)).setCell ⟨sb, i * 12 + 6, none⟩ (.int .i64 G.one.kind)).setCell ⟨sb, i * 12 + 7, none⟩ (.string G.one.name)).setCell ⟨sb, i * 12 + 8, none⟩ (.int .i64 G.one.n)).setCell ⟨sb, i * 12 + 9, none⟩ (.slice e4 G.one.scopes.length e5)).setCell ⟨sb, i * 12 + 10, none⟩ (.slice e6 G.one.kids.length e7)).setCell ⟨sb, i * 12 + 11, none⟩ (.slice e8 G.many.length e9)) := ⟨_, rfl⟩
          have E : V = sets w3 sb (i * 12) [.int .i64 G.name.kind, .string G.name.name, .int .i64 G.name.n, .slice e0 G.name.scopes.length e1, .slice e2 G.name.kids.length e3, .int .i64 G.depth, .int .i64 G.one.kind, .string G.one.name, .int .i64 G.one.n, .slice e4 G.one.scopes.length e5, .slice e6 G.one.kids.length e7, .slice e8 G.many.length e9] := by rw [hV]; rfl
          have HN : Hid (DelMid w V sb P ks (gs.set i G) (i + 1) (j + 1)) := by
            have hm := HM3.out
            have hsl : sb < w.heap.size ∨ True := .inr trivial
            rw [E]
            refine ⟨by rw [List.length_set]; exact hm.len, ?_, ?_, by omega, RowH.put hm.row hig (fun h => h.2 rfl) HINK3.out, hm.plain.sets sb _ _, by rw [sets_size]; exact hm.size, by rw [(sets_os sb _ w3 _).1, (sets_os sb _ w3 _).2.1, (sets_os sb _ w3 _).2.2]; exact hm.os, fun k hk hn => (sets_block sb _ w3 _ hn).trans (hm.same k hk hn)⟩
            · rw [HTF.out, if_neg (by rw [hp]; decide), ← hm.kept, List.take_succ_eq_append_getElem (by rw [List.length_set]; exact hig), List.getElem_set_self, List.take_set_of_le (Nat.le_refl _)]
            · have h1 := hm.rest
              have h2 : (gs.drop j).drop 1 = (ks.drop j).drop 1 := by rw [h1]
              rw [List.drop_drop, List.drop_drop] at h2
              rw [List.drop_set_of_lt (by omega)]
              exact h2
          rw [← hV]
          clear hV E g0 g1 g2 g3 g4 g5 g6 g7 g8 g9 g10 g11 y0 y1 y2 y3 y4 y5 y6 y7 y8 y9 y10 y11 f_0 f_1 f_2 f_3 f_4 f_5 f_6 f_7 f_8 f_9 f_10 f_11
          go_wp2_with fail
          go_roundw
          case rel => exact ⟨i + 1, j + 1, gs.set i G, by go_num, by go_num, by omega, HN.out⟩
          case measure => simp [intOf]; omega
      · obtain rfl : j = ks.length := by omega
        have HK : Hid (gs.take i = ks.filter fun x => !P x) := by have := HM.out.kept; rw [List.take_length] at this; exact this
        have HFL : Hid ((ks.filter fun x => !P x).length = i) := by unfold Hid; rw [← HK.out, List.length_take]; omega
        have hnl : ¬ ((ks.length : Int) < (ks.length : Int)) := by omega
        have hil : (i : Int) ≤ (ks.length : Int) := by omega
        have hic : (i : Int) ≤ (cap : Int) := by omega
        have hkc : (ks.length : Int) ≤ (cap : Int) := by omega
        have hth : ∀ q, q < (ks.length - i) * 12 → (wr.cell? ⟨sb, i * 12 + q, none⟩).isSome = true := fun q hq => by
          have hm : i + q / 12 < gs.length := by omega
          obtain ⟨d0, d1, d2, d3, d4, d5, d6, d7, d8, d9, d10, d11, g0, g1, g2, g3, g4, g5, g6, g7, g8, g9, g10, g11, _⟩ := HM.out.row.at (i + q / 12) hm
          rw [Nat.zero_add] at g0 g1 g2 g3 g4 g5 g6 g7 g8 g9 g10 g11
          have hq2 : q % 12 < 12 := Nat.mod_lt _ (by omega)
          have he : i * 12 + q = (i + q / 12) * 12 + q % 12 := by omega
          rw [he]
          generalize q % 12 = m at hq2
          match m, hq2 with
          | 0, _ => simp [g0]
          | 1, _ => simp [g1]
          | 2, _ => simp [g2]
          | 3, _ => simp [g3]
          | 4, _ => simp [g4]
          | 5, _ => simp [g5]
          | 6, _ => simp [g6]
          | 7, _ => simp [g7]
          | 8, _ => simp [g8]
          | 9, _ => simp [g9]
          | 10, _ => simp [g10]
          | 11, _ => simp [g11]
        obtain ⟨L, hL, hcl⟩ := run_clear_many (P := Try.prog) wr 46 60 zeroHt 12 Try.underlying46 zero_hit rfl (by decide) (by decide) sb (i * 12) (ks.length - i) (cap - i) (by omega) hth (fun q _ => HM.out.plain.frozen _)
        obtain ⟨z1, z2, z3, z4⟩ := setCells_facts sb L (i * 12) wr
        have hsl : sb < w.heap.size ∨ True := .inr trivial
        have HRES : Hid (HitsIn (Pl (wr.setCells sb (i * 12) L).heap.size (wr.setCells sb (i * 12) L)) (wr.setCells sb (i * 12) L) (some ⟨sb, 0, none⟩) cap (ks.filter fun x => !P x)) := by
          refine ⟨by rw [HFL.out]; omega, HMAX.out, .inr ⟨sb, 0, rfl, ⟨by rw [z1]; exact HM.out.plain.lt, z4 _ HM.out.plain⟩, ?_⟩⟩
          refine RowH.of_at _ 0 fun m hm => ?_
          have hmi : m < i := by rw [HFL.out] at hm; exact hm
          obtain ⟨d0, d1, d2, d3, d4, d5, d6, d7, d8, d9, d10, d11, g0, g1, g2, g3, g4, g5, g6, g7, g8, g9, g10, g11, hin⟩ := HM.out.row.at m (by omega)
          have hx : gs[m]'(by omega) = (ks.filter fun x => !P x)[m] := by
            have : (gs.take i)[m]'(by rw [List.length_take]; omega) = (ks.filter fun x => !P x)[m] := by congr 1
            rw [← this, List.getElem_take]
          rw [hx] at hin
          have ho : ∀ q, q < 12 → (wr.setCells sb (i * 12) L).cell? ⟨sb, 0 + m * 12 + q, none⟩ = wr.cell? ⟨sb, 0 + m * 12 + q, none⟩ := fun q hq => World.cell?_setCells_out sb L (i * 12) wr _ (fun _ _ => .inl (by show 0 + m * 12 + q < i * 12; omega))
          refine ⟨d0, d1, d2, d3, d4, d5, d6, d7, d8, d9, d10, d11, (ho 0 (by omega)).trans g0, (ho 1 (by omega)).trans g1, (ho 2 (by omega)).trans g2, (ho 3 (by omega)).trans g3, (ho 4 (by omega)).trans g4, (ho 5 (by omega)).trans g5, (ho 6 (by omega)).trans g6, (ho 7 (by omega)).trans g7, (ho 8 (by omega)).trans g8, (ho 9 (by omega)).trans g9, (ho 10 (by omega)).trans g10, (ho 11 (by omega)).trans g11, InH.mono (fun k hk => ⟨by rw [z1]; have := hk.1.1; omega, z4 _ (hk.1.2.same (HM.out.same k hk.1.1 hk.2))⟩) _ _ (InH.later (fun k hk => z3 k hk.2) _ _ hin)⟩
        have HFIN : Hid (w.heap.size ≤ (wr.setCells sb (i * 12) L).heap.size ∧ ((wr.setCells sb (i * 12) L).os = w.os ∧ (wr.setCells sb (i * 12) L).tape = w.tape ∧ (wr.setCells sb (i * 12) L).output = w.output) ∧ ∀ k, k < w.heap.size → k ≠ sb → (wr.setCells sb (i * 12) L).heap[k]? = w.heap[k]?) :=
          ⟨by rw [z1]; exact hsw, ⟨z2.1.trans HM.out.os.1, z2.2.1.trans HM.out.os.2.1, z2.2.2.trans HM.out.os.2.2⟩, fun k hk hn => (z3 k hn).trans (HM.out.same k hk hn)⟩
        clear hth hL z1 z2 z3 z4
        go_wp2_with fail
        go_ret
        exact ⟨by rw [HFL.out]; rfl, HRES.out, HFIN.out⟩
end
end Go.Proofs.Ytnogpaflibghhaa
namespace Go.Proofs.Ytnogpaflibghhaa
section
open Go.RowKit
set_option linter.unusedVariables false
set_option linter.unusedSimpArgs false
/-- the cells of a row, one behind the other -/
theorem RowH.list {φ : Nat → Prop} {w : World} {b : Nat} : ∀ (l : List Ht) (off : Nat), RowH φ w b off l → ∃ xs : List Value, xs.length = l.length * 12 ∧ RowR φ w l xs ∧ (∀ j v, xs[j]? = some v → w.cell? ⟨b, off + j, none⟩ = some v) ∧ (∀ v ∈ xs, v.oneCell' = true)
  | [], off, _ => ⟨[], rfl, rfl, fun j v h => by simp at h, fun v h => by cases h⟩
  | x :: r, off, h => by
    unfold RowH at h
    obtain ⟨⟨c0, c1, c2, c3, c4, c5, c6, c7, c8, c9, c10, c11, h0, h1, h2, h3, h4, h5, h6, h7, h8, h9, h10, h11, hin⟩, hr⟩ := h
    obtain ⟨xs, e1, e2, e3, e4⟩ := RowH.list r (off + 12) hr
    have hin' := hin
    obtain ⟨s1, t1, k1, l1, s2, t2, k2, l2, a, cap, e, _⟩ := hin'.form
    refine ⟨c0 :: c1 :: c2 :: c3 :: c4 :: c5 :: c6 :: c7 :: c8 :: c9 :: c10 :: c11 :: xs, by simp [e1]; omega, ⟨c0, c1, c2, c3, c4, c5, c6, c7, c8, c9, c10, c11, xs, rfl, hin, e2⟩, ?_, ?_⟩
    · intro j v hj
      by_cases hj12 : j < 12
      · match j, hj12 with
        | 0, _ => simp at hj; subst hj; exact h0
        | 1, _ => simp at hj; subst hj; exact h1
        | 2, _ => simp at hj; subst hj; exact h2
        | 3, _ => simp at hj; subst hj; exact h3
        | 4, _ => simp at hj; subst hj; exact h4
        | 5, _ => simp at hj; subst hj; exact h5
        | 6, _ => simp at hj; subst hj; exact h6
        | 7, _ => simp at hj; subst hj; exact h7
        | 8, _ => simp at hj; subst hj; exact h8
        | 9, _ => simp at hj; subst hj; exact h9
        | 10, _ => simp at hj; subst hj; exact h10
        | 11, _ => simp at hj; subst hj; exact h11
      · obtain ⟨m, rfl⟩ : ∃ m, j = m + 12 := ⟨j - 12, by omega⟩
        have := e3 m v (by simpa using hj)
        rw [show off + (m + 12) = off + 12 + m from by omega]
        exact this
    · intro v hv
      injection e with e
      injection e with e
      simp only [List.cons.injEq, and_true] at e
      obtain ⟨rfl, rfl, rfl, rfl, rfl, rfl, rfl, rfl, rfl, rfl, rfl, rfl⟩ := e
      simp only [List.mem_cons] at hv
      rcases hv with rfl | rfl | rfl | rfl | rfl | rfl | rfl | rfl | rfl | rfl | rfl | rfl | hv
      all_goals first | rfl | exact e4 v hv
theorem szHs_filter (P : Ht → Bool) : ∀ l : List Ht, szHs (l.filter P) ≤ szHs l
  | [] => by simp
  | x :: r => by
    have := szHs_filter P r
    rw [List.filter_cons]
    split
    · simp only [szHs]; omega
    · simp only [szHs]; omega
/-- the hits of the variables of a form -/
def hitsInL (g : Fm) (l : List Ht) : List Ht := l.filter fun x => !absentB g x
set_option maxRecDepth 100000 in
set_option maxHeartbeats 4000000 in
theorem hitsIn_any (g : Item) (l : List Ht) (a : Option Addr) (cap : Nat) (w : World) (hf : formB g.f = true) (hl : HitsIn (Pl w.heap.size w) w a cap l) (hg : InV (· < w.heap.size) w g.f g.val) (hsz : szHs l ≤ 1048576) :
    Calls Try.prog 200 #[g.val, .slice a l.length cap] w fun e w' => ∃ a' cap', e = .returned (.slice a' (hitsInL g.f l).length cap') ∧ HitsIn (Pl w'.heap.size w') w' a' cap' (hitsInL g.f l) ∧ Below w.heap.size w w' := by
  have HG := Lib.hid hg
  have HF := Lib.hid hf
  have hlen : l.length ≤ 1048576 := by have := szHs_length l; omega
  obtain ⟨hcap, hmax, hrow⟩ := hl
  have hcnt : g.f.count ≤ 1048577 := by unfold formB at hf; rw [Bool.and_eq_true, decide_eq_true_eq] at hf; omega
  obtain ⟨xs, hxl, hxr, hxc, hx1⟩ : ∃ xs : List Value, xs.length = l.length * 12 ∧ RowR (Pl w.heap.size w) w l xs ∧ (0 < xs.length → ∃ b off, a = some ⟨b, off, none⟩ ∧ ∀ j v, xs[j]? = some v → w.cell? ⟨b, off + j, none⟩ = some v) ∧ (∀ v ∈ xs, v.oneCell' = true) := by
    rcases hrow with rfl | ⟨b, off, rfl, _, hr⟩
    · exact ⟨[], rfl, rfl, fun h => by simp at h, fun v h => by cases h⟩
    · obtain ⟨xs, e1, e2, e3, e4⟩ := RowH.list l off hr
      exact ⟨xs, e1, e2, fun _ => ⟨_, _, rfl, e3⟩, e4⟩
  have hsp : a = none → l.length = 0 := by
    intro e
    rcases hrow with rfl | ⟨b, off, rfl, _⟩
    · rfl
    · cases e
  obtain ⟨w1, hw1⟩ : ∃ w1, w1 = (w.alloc (.cells #[.int .i64 g.f.kind, .string g.f.name, .int .i64 g.f.n, .slice g.sa g.f.scopes.length g.scap, .slice g.a g.f.kids.length g.cap] 33)).alloc (.cells (madeCells zeroHt (l.length * 12)) 60) := ⟨_, rfl⟩
  have hb1 : Below w.heap.size w w1 := by rw [hw1]; exact (below_alloc w _).alloc (by simp) _
  have hs1 : w1.heap.size = w.heap.size + 2 := by rw [hw1]; simp
  have htb1 : FormBox w1 w.heap.size g.f g.sa g.scap g.a g.cap := by rw [hw1]; exact (FormBox.fresh w g.f g.sa g.a g.scap g.cap _).later (below_alloc _ _)
  have hgr : w1.heap[w.heap.size + 1]? = some (.cells (madeCells zeroHt (l.length * 12)).toList.toArray 60 (0, 0)) := by
    rw [hw1]
    have := heap_alloc_new (w.alloc (.cells #[.int .i64 g.f.kind, .string g.f.name, .int .i64 g.f.n, .slice g.sa g.f.scopes.length g.scap, .slice g.a g.f.kids.length g.cap] 33)) (.cells (madeCells zeroHt (l.length * 12)) 60)
    rw [size_alloc'] at this
    simpa using this
  have hcl : (madeCells zeroHt (l.length * 12)).toList.length = l.length * 12 := by rw [Array.length_toList, size_madeCells]
  obtain ⟨i0, hi0, hz0, hz1, hz2⟩ := info_parts Try.infoHt
  have hcp : ∀ ty, (Builtin.copy_ #[46, 46] ty #[.slice (some ⟨w.heap.size + 1, 0, none⟩) l.length l.length, .slice a l.length cap]).run Try.prog w1 = .ok (goInt (Nat.min l.length l.length)) (w1.setRow (w.heap.size + 1) (splice (madeCells zeroHt (l.length * 12)).toList 0 xs).toArray) := fun ty =>
    run_copy_many w1 _ _ ty 60 _ 0 _ _ a _ _ 12 _ 60 xs Try.underlying46 (by rw [hi0]; simp [hz1]) hgr (by rw [hxl]; simp) (fun h => by
      obtain ⟨b, off, e, hc⟩ := hxc h
      exact ⟨⟨b, off, none⟩, e, fun j v hj => by
        have := cell_later' hb1 (hc j v hj)
        unfold Addr.add
        split <;> simp_all⟩) (by rw [hcl, hxl]; omega) hx1 hsp
  have hspl : splice (madeCells zeroHt (l.length * 12)).toList 0 xs = xs := by unfold splice; rw [List.take_zero, List.nil_append, Nat.zero_add, List.drop_eq_nil_of_le (by rw [hcl, hxl]; exact Nat.le_refl _), List.append_nil]
  rw [hspl] at hcp
  obtain ⟨w2, hw2⟩ : ∃ w2, w2 = w1.setRow (w.heap.size + 1) xs.toArray := ⟨_, rfl⟩
  have hg2 : w2.heap[w.heap.size + 1]? = some (.cells xs.toArray 60 (0, 0)) := by rw [hw2]; exact setRow_heap w1 _ _ _ 60 _ hgr
  have hb2 : Below w.heap.size w w2 := by rw [hw2]; exact below_setRow hb1 (by omega) _
  have hs2 : w2.heap.size = w1.heap.size := by rw [hw2]; exact setRow_size w1 _ _
  have htb2 : FormBox w2 w.heap.size g.f g.sa g.scap g.a g.cap := htb1.keepT (by rw [hw2]; exact setRow_other w1 (w.heap.size + 1) w.heap.size _ (by omega))
  have hpl2 : Plain w2 (w.heap.size + 1) := ⟨_, _, hg2⟩
  have HROW2 : Hid (RowH (fun k => Pl w2.heap.size w2 k ∧ k ≠ w.heap.size + 1) w2 (w.heap.size + 1) 0 l) :=
    RowR.row (fun k (hk : Pl w.heap.size w k) => ⟨⟨by have := hk.1; omega, hk.2.same (hb2.block k hk.1)⟩, by have := hk.1; omega⟩) (hxr.keep (fun k hk => hb2.block k hk.1)) (fun j u hj => by
      rw [Nat.zero_add, cell_of_row w2 _ j _ _ _ hg2]
      simpa using hj)
  have HB2 := Lib.hid hb2
  have HTB := Lib.hid htb2
  have HPL2 := Lib.hid hpl2
  have HDEL : Hid (DelP 215 #[.pointer (some ⟨w.heap.size, 0, none⟩)] (absentB g.f) l w2 (w.heap.size + 1)) := by
    refine ⟨enters_of Try.func215 (by kernel_rfl) rfl, fun x hx v W hsW hW hin => ?_⟩
    have hgW : InV (· < W.heap.size) W g.f g.val := InV.mono (fun k (hk : k < w.heap.size) => by show k < W.heap.size; omega) _ _ (InV.later (fun k hk => (hW k (by have : k < w.heap.size := hk; omega) (by have : k < w.heap.size := hk; omega)).trans (HB2.out.block k hk)) _ _ HG.out)
    exact hitsIn1_any g w.heap.size x v W hcnt (endlessAt_valid g.f HF.out W.heap.size g.val W (Nat.le_refl _) hgW) hgW (HTB.out.keepT (hW _ (by omega) (by omega))) hin
  have hmk := fun w => make_hits l.length hlen w
  have HW1 := Lib.hid hw1
  have HW2 := Lib.hid hw2
  have hcp2 : ∀ ty, (Builtin.copy_ #[46, 46] ty #[.slice (some ⟨w.heap.size + 1, 0, none⟩) l.length l.length, .slice a l.length cap]).run Try.prog w1 = .ok (goInt (Nat.min l.length l.length)) w2 := by rw [hw2]; exact hcp
  rw [hw1] at hcp2
  clear hw1 hw2 hg2 hb2 htb2 hpl2 hcp hspl hcl hgr htb1 hb1 hxl hxr hxc hx1 hsp hg hf hrow hi0 hz0 hz1 hz2
  unfold Item.val
  go_enter Try.func200, Try.ntmps200
  go_wp2_with fail
  refine (deleteH_any 215 #[.pointer (some ⟨w.heap.size, 0, none⟩)] (absentB g.f) l (w.heap.size + 1) l.length w2 HDEL.out (Nat.le_refl _) (by unfold maxLen; omega) (by omega) HROW2.out HPL2.out).mono ?_
  rintro e w3 ⟨rfl, hh, hs3, ho, hsame⟩
  have HH := Lib.hid hh
  have HB3 : Hid (Below w.heap.size w w3) := ⟨ho.1.trans HB2.out.os, ho.2.1.trans HB2.out.tape, ho.2.2.trans HB2.out.output, by omega, fun k hk => (hsame k (by omega) (by omega)).trans (HB2.out.block k hk)⟩
  clear hh ho hsame hcp2 hmk
  go_wp2_with fail
  go_ret
  exact ⟨_, _, rfl, HH.out, HB3.out⟩
theorem below_filter (g : Fm) (l : List Ht) (r : Nat) : (hitsInL g l).any (fun x => decide (x.depth > (r : Int))) = belowB g l r := by
  unfold hitsInL belowB absentB noneOf
  rw [List.any_filter]
  congr 1
  funext x
  rw [Bool.not_not]
set_option maxRecDepth 100000 in
set_option maxHeartbeats 4000000 in
theorem below_said (l : List Ht) (hsz : szHs l ≤ 1048576) : BelowSaid l := by
  intro f r a cap v w hf hr hl hv
  obtain ⟨g, rfl, rfl⟩ : ∃ g : Item, g.f = f ∧ v = g.val := by
    obtain ⟨sa, scap, ka, kcap, rfl⟩ := hv.form
    exact ⟨⟨f, sa, scap, ka, kcap⟩, rfl, rfl⟩
  have HL := Lib.hid hl
  have HV := Lib.hid hv
  have HBF := Lib.hid (below_filter g.f l r)
  have HSF : Hid (szHs (hitsInL g.f l) ≤ 1048577) := by have := szHs_filter (fun x => !absentB g.f x) l; unfold Hid hitsInL; omega
  obtain ⟨w1, hw1⟩ : ∃ w1, w1 = (w.alloc (.cells #[.int .i64 g.f.kind, .string g.f.name, .int .i64 g.f.n, .slice g.sa g.f.scopes.length g.scap, .slice g.a g.f.kids.length g.cap] 33)).alloc (.cells #[.int .i64 r] 3) := ⟨_, rfl⟩
  have hb1 : Below w.heap.size w w1 := by rw [hw1]; exact (below_alloc w _).alloc (by simp) _
  have hs1 : w1.heap.size = w.heap.size + 2 := by rw [hw1]; simp
  have hr1 : w1.cell? ⟨w.heap.size + 1, 0, none⟩ = some (.int .i64 r) := by rw [hw1]; exact World.cell?_alloc_at _ _ _ _ (by simp)
  have HB1 := Lib.hid hb1
  have HR1 := Lib.hid hr1
  have HW1 := Lib.hid hw1
  have hba := below_alloc (w.alloc (.cells #[.int .i64 g.f.kind, .string g.f.name, .int .i64 g.f.n, .slice g.sa g.f.scopes.length g.scap, .slice g.a g.f.kids.length g.cap] 33)) (.cells #[.int .i64 r] 3)
  obtain ⟨y0, y1, y2, y3, y4⟩ := (FormBox.fresh w g.f g.sa g.a g.scap g.cap 33).later hba
  clear hl hv hb1 hr1 hw1 hba
  unfold Item.val
  go_enter Try.func143, Try.ntmps143
  go_wp2_with fail
  rw [← HW1.out]
  clear HW1
  refine (hitsIn_any g l a cap w1 hf (HO.hitsPl HB1.out HL.out) (InV.lift HB1.out HV.out) hsz).mono ?_
  rintro e w2 ⟨a', cap', rfl, hh, hb2⟩
  have HB2 : Hid (Below w.heap.size w w2) := HB1.out.trans (hb2.mono (by omega))
  have HH := Lib.hid hh
  have hr2 := cell_later' hb2 HR1.out
  have HPR : Hid (PredH 201 #[.pointer (some ⟨w.heap.size + 1, 0, none⟩)] (fun x => decide (x.depth > (r : Int))) (hitsInL g.f l) (fun W => W.cell? ⟨w.heap.size + 1, 0, none⟩ = some (.int .i64 r))) :=
    ⟨enters_of Try.func201 (by kernel_rfl) rfl, fun W W' h hb => cell_later' hb h, fun x _ v W hin _ hok => below1_any r (w.heap.size + 1) x v _ W hok hin⟩
  have HR2 := Lib.hid hr2
  clear hh hb2 hr2 y0 y1 y2 y3 y4
  go_wp2_with fail
  refine (containsFuncH_any 201 _ _ (hitsInL g.f l) _ HPR.out a' cap' w2 HH.out HSF.out HR2.out).mono ?_
  rintro e w3 ⟨rfl, hb3⟩
  have hs2 := HB2.out.size
  have HB3 : Hid (Below w.heap.size w w3) := HB2.out.trans (hb3.mono (by omega))
  clear hb3
  go_wp2_with fail
  go_ret
  exact ⟨ret_bool HBF.out, HB3.out⟩
end
end Go.Proofs.Ytnogpaflibghhaa
namespace Go.Proofs.Ytnogpaflibghhaa
section
open Go.RowKit
set_option linter.unusedVariables false
set_option linter.unusedSimpArgs false
theorem hv_at {l : List Ht} (h : hitsValidB l = true) (n : Nat) (hn : n < l.length) : hitB l[n] l[n].depth = true ∧ apartB (l.take n) l[n].name = true := by
  unfold hitsValidB at h
  rw [Bool.and_eq_true] at h
  have h1 : hvTo l (n + 1) = true := by
    cases hh : hvTo l (n + 1) with
    | true => rfl
    | false => have := hvTo_no hh l.length (by omega); rw [this] at h; exact absurd h.2 (by decide)
  rw [hvTo_succ hn, Bool.and_eq_true, Bool.and_eq_true] at h1
  exact h1.2
theorem good_names {l : List Ht} (h : hitsValidB l = true) : GoodNames l := by
  refine ⟨valid_names h, fun x hx => ?_, fun p x hx hs => ?_⟩
  · obtain ⟨n, hn, rfl⟩ := List.getElem_of_mem hx
    have h1 := hitB_head (hv_at h n hn).1
    rw [headB_res, Bool.and_eq_true, Bool.not_eq_true'] at h1
    have h2 := h1.2
    unfold resB at h2
    rw [Bool.or_eq_false_iff] at h2
    unfold dotsB
    rw [h2.1, Bool.and_false]
  · obtain ⟨n, hn, rfl⟩ := List.getElem_of_mem hx
    obtain rfl := sameB_eq hs
    refine find_first _ l n hn ?_ hs
    have h1 := (hv_at h n hn).2
    unfold apartB at h1
    simpa [hasN] using h1
theorem impl_ok (f : Fm) (l : List Ht) (hv : hitsValidB l = true) (hf : formB f = true) : fitB f l 0 = tmplB f l := fit_tmpl (good_names hv) 40 f (formB_is hf) 0
set_option maxRecDepth 100000 in
set_option maxHeartbeats 4000000 in
theorem implTemplateValid_any (f : Fm) (l : List Ht) (a : Option Addr) (cap : Nat) (v : Value) (w : World) (hl : HitsIn (Pl w.heap.size w) w a cap l) (hv : InV (· < w.heap.size) w f v) (hsz : szHs l ≤ 1048576) :
    Calls Try.prog 28 #[v, .slice a l.length cap] w fun e w' => e = .returned (.bool (tmplOk f l)) ∧ Below w.heap.size w w' := by
  have HL := Lib.hid hl
  have HV := Lib.hid hv
  obtain ⟨fs, ft, fa, fc, rfl⟩ := hv.form
  obtain ⟨w0, hw0⟩ : ∃ w0, w0 = w.alloc (.cells #[.int .i64 f.kind, .string f.name, .int .i64 f.n, .slice fs f.scopes.length ft, .slice fa f.kids.length fc] 33) := ⟨_, rfl⟩
  have HB0 : Hid (Below w.heap.size w w0) := by rw [hw0]; exact below_alloc w _
  have hs0 : w.heap.size < w0.heap.size := by rw [hw0]; simp
  have HF0 : Hid (FormBox w0 w.heap.size f fs ft fa fc) := by unfold Hid; rw [hw0]; exact FormBox.fresh w f fs fa ft fc _
  have HW0 := Lib.hid hw0
  clear hv hl hw0
  go_enter Try.func28, Try.ntmps28
  go_wp2_with fail
  rw [← HW0.out]
  clear HW0
  refine (implFormValid_any w.heap.size f _ w0 (by omega) (InV.later (same_below HB0.out) _ _ HV.out)).mono ?_
  rintro e w1 ⟨rfl, hb1⟩
  have hs1 : w0.heap.size ≤ w1.heap.size := hb1.size
  have HF1 := Lib.hid (HF0.out.later hb1)
  have HB1 : Hid (Below w.heap.size w w1) := HB0.out.trans (hb1.mono (by omega))
  clear hb1
  cases hfv : formB f with
  | false =>
    have HE : Hid (tmplOk f l = false) := by unfold Hid tmplOk; rw [hfv]; rfl
    go_wp2_with fail
    go_ret
    exact ⟨ret_bool HE.out.symm, HB1.out⟩
  | true =>
  go_wp2_with fail
  refine (implHitsValid_any l a cap w1 (HO.hitsPl HB1.out HL.out) (by omega)).mono ?_
  rintro e w2 ⟨rfl, hb2⟩
  have hs2 : w1.heap.size ≤ w2.heap.size := hb2.size
  have HF2 := Lib.hid (HF1.out.later hb2)
  have HB2 : Hid (Below w.heap.size w w2) := HB1.out.trans (hb2.mono (by omega))
  clear hb2
  cases hhv : hitsValidB l with
  | false =>
    have HE : Hid (tmplOk f l = false) := by unfold Hid tmplOk; rw [hfv, hhv]; rfl
    go_wp2_with fail
    go_ret
    exact ⟨ret_bool HE.out.symm, HB2.out⟩
  | true =>
  have HFT : Hid (Calls Try.prog 72 #[.agg #[.int .i64 f.kind, .string f.name, .int .i64 f.n, .slice fs f.scopes.length ft, .slice fa f.kids.length fc], .slice a l.length cap, .int .i64 ((0 : Nat) : Int)] w2 fun e w' => e = .returned (.bool (fitB f l 0)) ∧ Below w2.heap.size w2 w') :=
    fitsHits_any l (valid_names hhv) (below_said l hsz) f 40 0 a cap _ w2 (formB_is hfv) (Nat.le_refl _) (by unfold formB at hfv; rw [Bool.and_eq_true, decide_eq_true_eq] at hfv; exact hfv.2) (by omega) (HO.hitsPl HB2.out HL.out) (InV.lift HB2.out HV.out)
  obtain ⟨x0, x1, x2, x3, x4⟩ := HF2.out
  go_wp2_with fail
  refine HFT.out.mono ?_
  rintro e w3 ⟨rfl, hb3⟩
  have HE : Hid (tmplOk f l = fitB f l 0) := by unfold Hid tmplOk; rw [hfv, hhv, impl_ok f l hhv hfv]; rfl
  have HB3 : Hid (Below w.heap.size w w3) := HB2.out.trans (hb3.mono (by omega))
  clear hb3 x0 x1 x2 x3 x4
  go_wp2_with fail
  go_ret
  exact ⟨ret_bool HE.out.symm, HB3.out⟩
end
end Go.Proofs.Ytnogpaflibghhaa
