/- For every list of forms the two lists agree, the program's leaves its argument as it was and shares no memory: the law FnExactListForm returns true, whatever the input, with no condition beyond the statement's own. -/
import Derived.Test.YtbbihbapmbjbgaaRows
import Derived.Test.YtbbihbapmbjbgaaListForm
import Derived.Test.YtbbihbapmbjbgaaOpenS
import Derived.Test.YtbbihbapmbjbgaaSz
import Derived.Test.YtbbihbapmbjbgaaTo
import Derived.Test.YtbbihbapmbjbgaaEq
import Derived.Test.YtbbihbapmbjbgaaData
import Derived.Deep.RegionWith
import Derived.Test.YtbbihbapmbjbgaaMark2
namespace Go.Proofs.Ytbbihbapmbjbgaa.exList
open Go.ChangeShapes Go.WideShapes Go.ChangeAt Go.RowKit
open Go.ChangeMaps (open_string shut_string)
set_option linter.unusedVariables false
set_option linter.unusedSimpArgs false
theorem left2 (n : Nat) : (leftOf 1048576 n < 0) ∨ (n ≤ 1048576 ∧ leftOf 1048576 n = 1048576 - n) := by
  unfold leftOf
  by_cases h : (n : Int) ≤ 1048576
  · rw [if_pos h]; exact .inr ⟨by omega, rfl⟩
  · rw [if_neg h]; exact .inl (by omega)
mutual
theorem marks_sz : ∀ f : Fm, f.marks ≤ 3 * f.sz
  | .mk _ _ _ sc ks => by
    have := marksAll_sz ks
    simp only [Fm.marks, Fm.sz] at *
    omega
theorem marksAll_sz : ∀ ks : List Fm, marksAll ks ≤ 3 * szAll ks
  | [] => by simp [marksAll, szAll]
  | f :: r => by
    have h1 := marks_sz f
    have h2 := marksAll_sz r
    cases f with
    | mk kd nm n sc ks =>
      simp only [marksAll, szAll, Fm.marks, Fm.sz] at *
      omega
end
theorem szFormS_any (B : Nat) (ks : List Fm) (a : Option Addr) (cap : Nat) (w : World) (l : Int) (hB : B ≤ w.heap.size) (hv : FormsIn (· < B) w a cap ks) (hl : 0 ≤ l ∧ l ≤ 1048576) :
    Calls Try.prog 16 #[.slice a ks.length cap, .int .i64 l] w fun e w' => e = .returned (.int .i64 (leftOf l (szAll ks))) ∧ Below w.heap.size w w' :=
  szFormS_of B ks (fun g _ => szForm_any B g) a cap w l hB hv.1 hv.2.1 hv.2.2 hl
theorem KidsOwn.reads {φ : Nat → Prop} {w : World} {a : Option Addr} {cap : Nat} {ks : List Fm} {bs : List Nat} (h : KidsOwn w a cap ks bs) (hp : ∀ b ∈ bs, φ b) : FormsIn φ w a cap ks := by
  refine ⟨h.1, h.2.1, ?_⟩
  rcases h.2.2 with h | ⟨b, off, bs3, e1, e2, h⟩
  · exact .inl h.1
  · exact .inr ⟨b, off, e1, hp b (by rw [e2]; simp), RowOwn.inRow b off ks bs3 (fun x hx => hp x (by rw [e2]; simp [hx])) h⟩
theorem FormsIn.later {φ : Nat → Prop} {w w' : World} {a : Option Addr} {cap : Nat} {ks : List Fm} (hs : Same φ w w') (h : FormsIn φ w a cap ks) : FormsIn φ w' a cap ks := by
  refine ⟨h.1, h.2.1, ?_⟩
  rcases h.2.2 with h | ⟨b, off, e1, e2, h⟩
  · exact .inl h
  · exact .inr ⟨b, off, e1, e2, h.later hs b e2⟩
theorem FormsIn.mono {φ ψ : Nat → Prop} {w : World} {a : Option Addr} {cap : Nat} {ks : List Fm} (hs : ∀ k, φ k → ψ k) (h : FormsIn φ w a cap ks) : FormsIn ψ w a cap ks := by
  refine ⟨h.1, h.2.1, ?_⟩
  rcases h.2.2 with h | ⟨b, off, e1, e2, h⟩
  · exact .inl h
  · exact .inr ⟨b, off, e1, hs b e2, RowIn.mono hs b off ks h⟩
theorem toFormS_any (B : Nat) (ks : List Fm) (a : Option Addr) (cap : Nat) (w : World) (hB : B ≤ w.heap.size) (hv : FormsIn (· < B) w a cap ks) (hsz : szAll ks ≤ 1048576) :
    Calls Try.prog 19 #[.slice a ks.length cap] w fun e w' => ∃ a' cap' bs, e = .returned (.slice a' ks.length cap') ∧ KidsOwn w' a' cap' ks bs ∧ NewBs bs w.heap.size w'.heap.size ∧ Below w.heap.size w w' := by
  refine (toFormS_of B ks (fun g _ => toForm_any B g) a cap w hB hv.1 hv.2.1 hv.2.2 hsz).mono ?_
  rintro e w' ⟨a', cap', rfl, h1, h2, ⟨bs, h3, h4, _⟩, hb⟩
  exact ⟨a', cap', bs, rfl, ⟨h1, h2, h3⟩, h4, hb⟩
theorem eqFormS_any (B : Nat) (ks : List Fm) (a a2 : Option Addr) (cap cap2 : Nat) (w : World) (hB : B ≤ w.heap.size) (hv : FormsIn (· < B) w a cap ks) (hu : FormsIn (· < B) w a2 cap2 ks) :
    Calls Try.prog 22 #[.slice a ks.length cap, .slice a2 ks.length cap2] w fun e w' => e = .returned (.bool true) ∧ Below w.heap.size w w' := by
  refine (eqFormS_of B ks ks (fun g _ => eqForm_any B g) a a2 cap cap2 w hB hv.1 hv.2.1 hu.1 hu.2.1 hv.2.2 hu.2.2).mono ?_
  rintro e w' ⟨rfl, hb⟩
  exact ⟨by rw [sameAll_refl], hb⟩
set_option maxRecDepth 100000 in
set_option maxHeartbeats 4000000 in
theorem walk (w : World) (ks : List Fm) (v : Value) (hv : FormsV w ks v) :
    Calls Try.prog 13 #[v] w fun e w' => e = .returned (.bool true) ∧ Below w.heap.size w w' := by
  obtain ⟨a, cap, rfl, hv⟩ := hv
  have HV := Lib.hid hv
  clear hv
  go_enter Try.func13, Try.ntmps13
  go_wp2_with fail
  refine (szFormS_any w.heap.size ks _ _ _ 1048576 (by simp) (FormsIn.later (fun _ _ => rfl) HV.out) (by omega)).mono ?_
  rintro e w1 ⟨rfl, hb1⟩
  have hs1 := hb1.size
  have HB1 : Hid (Below w.heap.size w w1) := hb1
  clear hb1
  rcases left2 (szAll ks) with hl | ⟨hsf, hl⟩
  · go_wp2_with fail
    go_ret
    exact ⟨rfl, HB1.out⟩
  · rw [hl]
    clear hl
    have hp1 : 0 ≤ (1048576 : Int) - szAll ks := by omega
    go_wp2_with fail
    obtain ⟨ok, hok⟩ : ∃ ok, formB (listFm ks) = ok := ⟨_, rfl⟩
    obtain ⟨R, hR⟩ : ∃ R, (if ok = true then listFm ks else zeroForm) = R := ⟨_, rfl⟩
    have HRS : Hid (R.marks ≤ 3145728 ∧ R.sz ≤ 1048576) := by
      have hz : ({ data := #[] } : ByteArray).size = 0 := rfl
      have h1 := marksAll_sz ks
      rw [← hR]
      unfold Hid
      split
      · unfold listFm Fm.marks Fm.sz
        rw [hz]
        simp
        omega
      · unfold zeroForm Fm.marks Fm.sz
        rw [hz]
        simp [marksAll, szAll]
    have HMK : Hid (marksAll ks ≤ 3145728) := by have := marksAll_sz ks; unfold Hid; omega
    have HOK := Lib.hid hok
    have HR := Lib.hid hR
    clear hok hR
    refine (toFormS_any w.heap.size ks a cap w1 hs1 (FormsIn.later (same_below HB1.out) HV.out) hsf).mono ?_
    rintro e w2 ⟨pa, pc, bp, rfl, hpo, hpn, hb2⟩
    have hs2 := hb2.size
    have HB2 : Hid (Below w.heap.size w w2) := HB1.out.trans (hb2.mono (by omega))
    have HP := Lib.hid (KidsOwn.reads hpo (φ := (· < w2.heap.size)) (fun b hb => (hpn.2 b hb).2))
    clear hb2 hpo hpn
    go_wp2_with fail
    refine (specListForm_any w2.heap.size ks pa pc w2 (Nat.le_refl _) HP.out hsf ok R HOK.out HR.out).mono ?_
    rintro e w3 ⟨sv, rfl, hs, hb3⟩
    obtain ⟨wsa, wscap, wa, wcap, rfl⟩ := hs.form
    have hs3 := hb3.size
    have HB3 : Hid (Below w.heap.size w w3) := HB2.out.trans (hb3.mono (by omega))
    have HW3 : Hid (InV (fun k => k < w3.heap.size) w3 R (.agg #[.int .i64 R.kind, .string R.name, .int .i64 R.n, .slice wsa R.scopes.length wscap, .slice wa R.kids.length wcap])) := InV.mono (fun k hk => hk.2) _ _ hs
    clear hb3 hs HP
    go_wp2_with fail
    refine (toFormS_any w.heap.size ks a cap _ (by simp; omega) (FormsIn.later (same_below (HB3.out.alloc (by omega) _)) HV.out) hsf).mono ?_
    rintro e w4 ⟨xa, xc, bz, rfl, hzo, hzn, hb4⟩
    rw [size_alloc'] at hzn
    have hb34 : Below w3.heap.size w3 w4 := (below_alloc _ _).trans (hb4.mono (by simp))
    have hs4 : w3.heap.size + 1 ≤ w4.heap.size := by have := hb4.size; simpa using this
    have HW4 := Lib.hid ((FormBox.fresh w3 R wsa wa wscap wcap 31).later hb4)
    have HB4 : Hid (Below w.heap.size w w4) := HB3.out.trans (hb34.mono (by omega))
    have HWI4 := Lib.hid (InV.later (same_below hb34) _ _ HW3.out)
    have HZO := Lib.hid hzo
    have HZN := Lib.hid hzn
    clear hzo hzn hb4 hb34 HW3
    go_wp2_with fail
    refine (implListForm_any w4.heap.size ks xa xc w4 (Nat.le_refl _) (KidsOwn.reads HZO.out (φ := (· < w4.heap.size)) (fun b hb => (HZN.out.2 b hb).2)) hsf ok R HOK.out HR.out).mono ?_
    rintro e w5 ⟨ga, gb, gc, gd, bg, rfl, hgo, hgn, hgp, hb5⟩
    have hs5 := hb5.size
    have HW5 := Lib.hid (HW4.out.later hb5)
    have HB5 : Hid (Below w.heap.size w w5) := HB4.out.trans (hb5.mono (by omega))
    have HWI5 := Lib.hid (InV.later (same_below (hb5.mono (by omega))) _ _ HWI4.out)
    have HZO5 := Lib.hid (KidsOwn.later (SameOn.of_below hb5 (fun c hm => (HZN.out.2 c hm).2)) HZO.out)
    have HGO := Lib.hid hgo
    have HGN := Lib.hid hgn
    clear hgo hgn hgp hb5 HW4 HWI4 HZO
    obtain ⟨y0, y1, y2, y3, y4⟩ := HW5.out
    have hlt5 : w3.heap.size < w5.heap.size := by omega
    go_wp2_with fail
    have hb56 := below_alloc w5 (.cells #[.int .i64 R.kind, .string R.name, .int .i64 R.n, .slice ga R.scopes.length gb, .slice gc R.kids.length gd] 31)
    refine (eqForm_any (w5.heap.size + 1) R R _ _ _ (by simp) (InV.mono (fun k (hk : k < w5.heap.size) => (by omega)) _ _ (InV.later (same_below hb56) _ _ (OwnV.inV (φ := (· < w5.heap.size)) R _ bg (fun c hm => (HGN.out.2 c hm).2) HGO.out)))
      (InV.mono (fun k (hk : k < w3.heap.size) => (by omega)) _ _ (InV.later (same_below (hb56.mono (by omega))) _ _ HWI5.out))).mono ?_
    rintro e w6 ⟨rfl, hb6⟩
    rw [sameB_refl R]
    have hb56' : Below w5.heap.size w5 w6 := hb56.trans (hb6.mono (by simp))
    have hs6 : w5.heap.size + 1 ≤ w6.heap.size := by have := hb6.size; simpa using this
    have HG6 := Lib.hid ((FormBox.fresh w5 R ga gc gb gd 31).later hb6)
    have HW6 := Lib.hid (HW5.out.later hb56')
    have HB6 : Hid (Below w.heap.size w w6) := HB5.out.trans (hb56'.mono (by omega))
    have HWI6 := Lib.hid (InV.later (same_below (hb56'.mono (by omega))) _ _ HWI5.out)
    have HZO6 := Lib.hid (KidsOwn.later (SameOn.of_below hb56' (fun c hm => by have := (HZN.out.2 c hm).2; omega)) HZO5.out)
    have HGO6 := Lib.hid (OwnV.later _ _ _ (SameOn.of_below hb56' (fun c hm => (HGN.out.2 c hm).2)) HGO.out)
    have hbb : (ok != ok) = false := by simp
    clear hb6 hb56 hb56' y0 y1 y2 y3 y4 HW5 HWI5 HZO5 HGO
    go_wp2_with fail
    refine (toFormS_any w.heap.size ks a cap w6 (by omega) (FormsIn.later (same_below HB6.out) HV.out) hsf).mono ?_
    rintro e w7 ⟨ra, rc, br, rfl, hro, hrn, hb7⟩
    have hs7 := hb7.size
    have HG7 := Lib.hid (HG6.out.later hb7)
    have HW7 := Lib.hid (HW6.out.later hb7)
    have HB7 : Hid (Below w.heap.size w w7) := HB6.out.trans (hb7.mono (by omega))
    have HRI := Lib.hid (KidsOwn.reads hro (φ := (· < w7.heap.size)) (fun b hb => (hrn.2 b hb).2))
    have HWI7 := Lib.hid (InV.later (same_below (hb7.mono (by omega))) _ _ HWI6.out)
    have HZO7 := Lib.hid (KidsOwn.later (SameOn.of_below hb7 (fun c hm => by have := (HZN.out.2 c hm).2; omega)) HZO6.out)
    have HGO7 := Lib.hid (OwnV.later _ _ _ (SameOn.of_below hb7 (fun c hm => by have := (HGN.out.2 c hm).2; omega)) HGO6.out)
    clear hb7 hro hrn HG6 HW6 HWI6 HZO6 HGO6
    go_wp2_with fail
    refine (eqFormS_any w7.heap.size ks xa ra xc rc w7 (Nat.le_refl _) (KidsOwn.reads HZO7.out (φ := (· < w7.heap.size)) (fun b hb => by have := (HZN.out.2 b hb).2; omega)) HRI.out).mono ?_
    rintro e w8 ⟨rfl, hb8⟩
    have hs8 := hb8.size
    have HG8 := Lib.hid (HG7.out.later hb8)
    have HW8 := Lib.hid (HW7.out.later hb8)
    have HB8 : Hid (Below w.heap.size w w8) := HB7.out.trans (hb8.mono (by omega))
    have HWI8 := Lib.hid (InV.later (same_below (hb8.mono (by omega))) _ _ HWI7.out)
    have HZO8 := Lib.hid (KidsOwn.later (SameOn.of_below hb8 (fun c hm => by have := (HZN.out.2 c hm).2; omega)) HZO7.out)
    have HGO8 := Lib.hid (OwnV.later _ _ _ (SameOn.of_below hb8 (fun c hm => by have := (HGN.out.2 c hm).2; omega)) HGO7.out)
    clear hb8 HG7 HW7 HWI7 HZO7 HGO7 HRI
    go_wp2_with fail
    refine (markFormS_any ks xa xc bz 1 w8 HZO8.out HZN.out.1 (fun c hm => by have := (HZN.out.2 c hm).2; omega) (by omega) (by have := HMK.out; omega)).mono ?_
    rintro e w9 ⟨rfl, hmz, ho9⟩
    have hs9 := ho9.size
    have HG9 := Lib.hid (HG8.out.only ho9 (fun hm => by have := (HZN.out.2 _ hm).2; omega))
    have HW9 := Lib.hid (HW8.out.only ho9 (fun hm => by have := (HZN.out.2 _ hm).1; omega))
    have HB9 : Hid (Below w.heap.size w w9) := HB8.out.trans (ho9.below (fun c hm => by have := (HZN.out.2 c hm).1; omega) (by omega))
    have HWI9 := Lib.hid (InV.later (ho9.same (fun k (hk : k < w3.heap.size) => ⟨by omega, fun hm => by have := (HZN.out.2 _ hm).1; omega⟩)) _ _ HWI8.out)
    have HGO9 := Lib.hid (OwnV.later _ _ _ (ho9.sameOn (fun c hc => ⟨by have := (HGN.out.2 c hc).2; omega, fun hm => by have h1 := (HZN.out.2 _ hm).2; have h2 := (HGN.out.2 c hc).1; omega⟩)) HGO8.out)
    clear hmz ho9 HG8 HW8 HWI8 HZO8 HGO8
    obtain ⟨x0, x1, x2, x3, x4⟩ := HG9.out
    obtain ⟨y0, y1, y2, y3, y4⟩ := HW9.out
    have hk0 : 0 ≤ (1 : Int) + marksAll ks := by omega
    go_wp2_with fail
    refine (eqForm_any w9.heap.size R R _ _ w9 (Nat.le_refl _) (OwnV.inV (φ := (· < w9.heap.size)) R _ bg (fun c hm => by have := (HGN.out.2 c hm).2; omega) HGO9.out) (InV.mono (fun k (hk : k < w3.heap.size) => (by omega)) _ _ HWI9.out)).mono ?_
    rintro e w10 ⟨rfl, hb10⟩
    rw [sameB_refl R]
    have hs10 := hb10.size
    have HG10 := Lib.hid (HG9.out.later hb10)
    have HW10 := Lib.hid (HW9.out.later hb10)
    have HB10 : Hid (Below w.heap.size w w10) := HB9.out.trans (hb10.mono (by omega))
    have HWI10 := Lib.hid (InV.later (same_below (hb10.mono (by omega))) _ _ HWI9.out)
    have HGO10 := Lib.hid (OwnV.later _ _ _ (SameOn.of_below hb10 (fun c hm => by have := (HGN.out.2 c hm).2; omega)) HGO9.out)
    clear hb10 x0 x1 x2 x3 x4 y0 y1 y2 y3 y4 HG9 HW9 HWI9 HGO9
    obtain ⟨x0, x1, x2, x3, x4⟩ := HG10.out
    go_wp2_with fail
    refine (markForm_any R _ bg 1 w10 HGO10.out HGN.out.1 (fun c hm => by have := (HGN.out.2 c hm).2; omega) (by omega) (by have := HRS.out; omega)).mono ?_
    rintro e w11 ⟨rfl, hmg, ho11⟩
    have hs11 := ho11.size
    have HG11 := Lib.hid (HG10.out.only ho11 (fun hm => by have := (HGN.out.2 _ hm).2; omega))
    have HW11 := Lib.hid (HW10.out.only ho11 (fun hm => by have := (HGN.out.2 _ hm).1; omega))
    have HB11 : Hid (Below w.heap.size w w11) := HB10.out.trans (ho11.below (fun c hm => by have := (HGN.out.2 c hm).1; omega) (by omega))
    have HWI11 := Lib.hid (InV.later (ho11.same (fun k (hk : k < w3.heap.size) => ⟨by omega, fun hm => by have := (HGN.out.2 _ hm).1; omega⟩)) _ _ HWI10.out)
    have HGM11 := Lib.hid (OwnV.inV (φ := (· < w5.heap.size)) _ _ bg (fun c hm => (HGN.out.2 c hm).2) hmg)
    have hk1 : 0 ≤ (1 : Int) + R.marks := by omega
    clear hmg ho11 HG10 HW10 HWI10 HGO10 x0 x1 x2 x3 x4
    obtain ⟨x0, x1, x2, x3, x4⟩ := HG11.out
    go_wp2_with fail
    refine (heldForm_any w5.heap.size R _ 1 w11 (by omega) HGM11.out (by omega) (by have := HRS.out; omega)).mono ?_
    rintro e w12 ⟨rfl, hb12⟩
    have hs12 := hb12.size
    have HG12 := Lib.hid (HG11.out.later hb12)
    have HW12 := Lib.hid (HW11.out.later hb12)
    have HB12 : Hid (Below w.heap.size w w12) := HB11.out.trans (hb12.mono (by omega))
    have HWI12 := Lib.hid (InV.later (same_below (hb12.mono (by omega))) _ _ HWI11.out)
    have HGM12 := Lib.hid (InV.later (same_below (hb12.mono (by omega))) _ _ HGM11.out)
    clear hb12 HG11 HW11 HWI11 HGM11 x0 x1 x2 x3 x4
    go_wp2_with fail
    refine (toFormS_any w.heap.size ks a cap w12 (by omega) (FormsIn.later (same_below HB12.out) HV.out) hsf).mono ?_
    rintro e w13 ⟨ma, mc, bm, rfl, hmo, hmn, hb13⟩
    have hs13 := hb13.size
    have HG13 := Lib.hid (HG12.out.later hb13)
    have HW13 := Lib.hid (HW12.out.later hb13)
    have HB13 : Hid (Below w.heap.size w w13) := HB12.out.trans (hb13.mono (by omega))
    have HWI13 := Lib.hid (InV.later (same_below (hb13.mono (by omega))) _ _ HWI12.out)
    have HGM13 := Lib.hid (InV.later (same_below (hb13.mono (by omega))) _ _ HGM12.out)
    have HMO := Lib.hid (KidsOwn.reads hmo (φ := (· < w13.heap.size)) (fun b hb => (hmn.2 b hb).2))
    clear hmo hmn hb13 HG12 HW12 HWI12 HGM12
    go_wp2_with fail
    refine (implListForm_any w13.heap.size ks ma mc w13 (Nat.le_refl _) HMO.out hsf ok R HOK.out HR.out).mono ?_
    rintro e w14 ⟨ha, hb, hc, hd, bh, rfl, hho, hhn, hhp, hb14⟩
    have hs14 := hb14.size
    have HG14 := Lib.hid (HG13.out.later hb14)
    have HW14 := Lib.hid (HW13.out.later hb14)
    have HB14 : Hid (Below w.heap.size w w14) := HB13.out.trans (hb14.mono (by omega))
    have HWI14 := Lib.hid (InV.later (same_below (hb14.mono (by omega))) _ _ HWI13.out)
    have HGM14 := Lib.hid (InV.later (same_below (hb14.mono (by omega))) _ _ HGM13.out)
    have HHI := Lib.hid (OwnV.inV (φ := (· < w14.heap.size)) R _ bh (fun c hm => (hhn.2 c hm).2) hho)
    clear hho hhn hhp hb14 HG13 HW13 HWI13 HGM13
    obtain ⟨y0, y1, y2, y3, y4⟩ := HW14.out
    have hlt14 : w3.heap.size < w14.heap.size := by omega
    go_wp2_with fail
    have hbx := below_alloc w14 (.cells #[.int .i64 R.kind, .string R.name, .int .i64 R.n, .slice ha R.scopes.length hb, .slice hc R.kids.length hd] 31)
    refine (eqForm_any w14.heap.size R R _ _ _ (by simp) (InV.later (same_below hbx) _ _ HHI.out) (InV.mono (fun k (hk : k < w3.heap.size) => (by omega)) _ _ (InV.later (same_below (hbx.mono (by omega))) _ _ HWI14.out))).mono ?_
    rintro e w15 ⟨rfl, hb15⟩
    rw [sameB_refl R]
    have hbx' : Below w14.heap.size w14 w15 := hbx.trans (hb15.mono (by simp))
    have hs15 := hbx'.size
    have HG15 := Lib.hid (HG14.out.later hbx')
    have HB15 : Hid (Below w.heap.size w w15) := HB14.out.trans (hbx'.mono (by omega))
    have HGM15 := Lib.hid (InV.later (same_below (hbx'.mono (by omega))) _ _ HGM14.out)
    clear hb15 hbx hbx' y0 y1 y2 y3 y4 HG14 HW14 HWI14 HGM14
    obtain ⟨x0, x1, x2, x3, x4⟩ := HG15.out
    go_wp2_with fail
    refine (heldForm_any w5.heap.size R _ 1 w15 (by omega) HGM15.out (by omega) (by have := HRS.out; omega)).mono ?_
    rintro e w16 ⟨rfl, hb16⟩
    have HB16 : Hid (Below w.heap.size w w16) := HB15.out.trans (hb16.mono (by omega))
    clear hb16 x0 x1 x2 x3 x4
    go_wp2_with fail
    go_ret
    exact ⟨rfl, HB16.out⟩
theorem own : ownKnob Try.prog.godebug = none := by kernel_rfl
theorem laidOut : laidOutB Try.prog = true := by kernel_rfl
set_option maxRecDepth 100000 in
theorem lifted (os : Os) (started : os.Started) (H : Type) (enc : TypeId × Value → H) :
    ReturnsInHanded {} Try.checked os 13 .any (Rows.fnExactListFormSpec.pre6 enc Try.prog Try.f13 Rows.fnExactListFormRow.domain false) (Rows.fnExactListFormSpec.post enc Try.prog Try.f13 false true false false) := by
  refine returnsInHanded_of_change (C := Try.checked) own started (by kernel_rfl) Try.func13
    (ChangeSpec.witness6 (enc := enc) (C := Try.checked) false ⟨#[], #[.slice none 0 0], []⟩ 12 (by kernel_rfl) (by kernel_rfl) (by kernel_rfl) (by kernel_rfl)) ?_
  intro W base args ds gs before hval0 hW hcnd _
  have hval : ∀ (j : Nat) t v, Try.f13.params[j]? = some t → args[j]? = some v → Value.okWide Try.prog W .any base t v := hval0
  have hW' := hW
  obtain ⟨p, q, hA0, hV, rfl, hfz, hnd⟩ := hW
  have hA : DataW.TrodAll enc Try.prog W 0 (fun _ => true) true Try.f13.params.toList args.toList ds p := hA0
  rw [Try.params13] at hA hval
  obtain ⟨v0, vs0, d0, ds0, p0, q0, hargs, rfl, rfl, h0, r0⟩ := trodAll_cons hA
  obtain ⟨rfl, rfl, rfl⟩ := trodAll_nil r0
  obtain rfl : args = #[v0] := by cases args; simp_all
  obtain ⟨rfl, rfl⟩ := trodVars_none hV
  have k0 := h0
  have lt0 : ∀ x ∈ p0, x.block < W.heap.size := by obtain ⟨m, hm⟩ := k0; exact DataW.trod_lt m _ _ _ hm
  obtain ⟨f0, i0⟩ := open_forms_arg (hval 0 23 v0 rfl rfl) h0
  clear hA0 hval0
  try simp only [List.append_nil] at hW'
  refine (walk W f0 v0 i0).mono fun e W' ⟨he, bel⟩ => ?_
  subst he
  exact ⟨_, rfl, _, _, _, [], _, [], hW', trodAll_mk1 (shut_bool Try.underlying4 _), (trodAll_cons_mk (Below.trod laidOut (by kernel_rfl) (of_decide_eq_true (by kernel_rfl)) k0 bel lt0) trodAll_mk0), rfl, bel.frame _, fun h => by cases h⟩
theorem over_named : Try.pinned.checked.prog.funcNamed Rows.fnExactListFormRow.func = some 13 := by kernel_rfl
theorem over_closed : joinedFacts Try.pinned.checked.prog 13 Try.f13 Rows.fnExactListFormSpec Rows.fnExactListFormRow = true := by kernel_rfl
theorem over_inst : Func.isInstance Try.pinned.checked.prog Try.f13 Rows.fnExactListFormRow.origin Rows.fnExactListFormRow.targs := of_decide_eq_true (by kernel_rfl)
theorem over_wrap : Func.isWrapper Try.pinned.checked.prog Try.f13 Rows.fnExactListFormRow.wrapper Rows.fnExactListFormRow.mainSum := (by unfold Func.isWrapper; first | (rw [if_pos (by decide +kernel)]; kernel_rfl) | (rw [if_neg (by decide +kernel)]; exact ⟨rfl, rfl⟩))
theorem over : Rows.fnExactListFormRow.holds Try.pinned (OpenSpec.ofChange Rows.fnExactListFormSpec) :=
  OpenClaim.holds_of_wide 13 Try.f13 rfl rfl rfl rfl rfl rfl rfl ⟨rfl, rfl, rfl, rfl, rfl⟩ rfl rfl rfl rfl rfl over_named Try.func13 over_closed over_inst over_wrap
    (fun os started H enc _ => lifted os started H enc)
theorem proved : Rows.FnExactListFormSaid := over
end Go.Proofs.Ytbbihbapmbjbgaa.exList
