/- The model of CoreValid: validity as data, and the contracts of its tests. -/
import Derived.Test.YtbclgmabidjegaaCoreData
import Derived.Test.YtbclgmabidjegaaData
import Derived.Test.YtbclgmabidjegaaFirst
import Derived.Test.YtbclgmabidjegaaBoxC
import Derived.Test.YtbclgmabidjegaaSpecStrip
import Derived.Test.YtbclgmabidjegaaSpecSame
import Derived.Test.YtbclgmabidjegaaValid
import Derived.Deep.CutRange
import Derived.Test.YtbclgmabidjegaaSpecHas
import Derived.Test.YtbclgmabidjegaaApp2
import Derived.Deep.AppendLies
namespace Go.Proofs.Ytbclgmabidjegaa
section
/-- how many kids there may be -/
def kidsB (k : Int) (n : Nat) : Bool :=
  if k = 1 then n == 0 else if k = 2 then n == 0 else if k = 3 then n == 0 else if k = 4 then n == 0 else if k = 5 then n == 1 else if k = 6 then decide (1 ≤ n) else (k == 7 && n == 3)
mutual
/-- whether no name of a form has scopes -/
def bareB : Fm → Bool
  | .mk _ _ _ sc ks => sc.isEmpty && bareAll ks
def bareAll : List Fm → Bool
  | [] => true
  | f :: r => bareB f && bareAll r
end
def fld1 (x : Ck) : Bool := if x.kind = 1 then decide (1 ≤ x.id) && decide (x.id ≤ 999) else x.id == 0
def fld2 (x : Ck) : Bool := if x.kind = 2 then nameB x.name.data.toList else x.name.toList == (ByteArray.mk #[]).toList
def fld3 (x : Ck) : Bool := if x.kind = 3 then decide (0 ≤ x.n) && decide (x.n ≤ 999) else x.n == 0
def fld4 (x : Ck) : Bool := if x.kind = 4 then formB x.data && bareB x.data else sameB x.data zeroForm
def fld5 (x : Ck) : Bool := if x.kind = 5 then true else x.ids.length == 0
def fieldsB (x : Ck) : Bool := fld1 x && (fld2 x && (fld3 x && (fld4 x && fld5 x)))
/-- whether numbers are new variables, one after another -/
def idsB : List Int → List Int → Bool
  | _, [] => true
  | sc, i :: r => decide (1 ≤ i) && (decide (i ≤ 999) && (!(sc.any fun z => z == i) && idsB (sc ++ [i]) r))
mutual
def coreB : Nat → List Int → Ck → Bool
  | 0, _, _ => false
  | d + 1, sc, .mk k id nm n ids f ks =>
    kidsB k ks.length && (fieldsB (.mk k id nm n ids f ks) && ((if k = 1 then sc.any fun z => z == id else true) && (idsB sc ids && coreAll d (sc ++ ids) ks)))
def coreAll : Nat → List Int → List Ck → Bool
  | _, _, [] => true
  | d, sc, x :: r => coreB d sc x && coreAll d sc r
end
end
end Go.Proofs.Ytbclgmabidjegaa
namespace Go.Proofs.Ytbclgmabidjegaa
section
open Go.RowKit
set_option linter.unusedVariables false
set_option linter.unusedSimpArgs false
set_option maxRecDepth 100000 in
set_option maxHeartbeats 4000000 in
theorem l6Kids_any (k : Int) (n : Nat) (w : World) : Calls Try.prog 128 #[.int .i64 k, .int .i64 n] w fun e w' => e = .returned (.bool (kidsB k n)) ∧ w = w' := by
  by_cases h1 : k = 1
  · subst h1
    have hb : ((n : Int) == 0) = (n == 0) := by rw [Bool.eq_iff_iff, beq_iff_eq, beq_iff_eq]; omega
    have HE : Hid (kidsB 1 n = (n == 0)) := rfl
    have HB := Lib.hid hb
    clear hb
    go_enter Try.func128, Try.ntmps128
    go_wp2_with fail
    go_ret
    refine ⟨ret_bool ?_, rfl⟩
    rw [HE.out]
    first | exact HB.out | simp
  have b1 : (k == 1) = false := by simp [h1]
  by_cases h2 : k = 2
  · subst h2
    have hb : ((n : Int) == 0) = (n == 0) := by rw [Bool.eq_iff_iff, beq_iff_eq, beq_iff_eq]; omega
    have HE : Hid (kidsB 2 n = (n == 0)) := rfl
    have HB := Lib.hid hb
    clear hb
    go_enter Try.func128, Try.ntmps128
    go_wp2_with fail
    go_ret
    refine ⟨ret_bool ?_, rfl⟩
    rw [HE.out]
    first | exact HB.out | simp
  have b2 : (k == 2) = false := by simp [h2]
  by_cases h3 : k = 3
  · subst h3
    have hb : ((n : Int) == 0) = (n == 0) := by rw [Bool.eq_iff_iff, beq_iff_eq, beq_iff_eq]; omega
    have HE : Hid (kidsB 3 n = (n == 0)) := rfl
    have HB := Lib.hid hb
    clear hb
    go_enter Try.func128, Try.ntmps128
    go_wp2_with fail
    go_ret
    refine ⟨ret_bool ?_, rfl⟩
    rw [HE.out]
    first | exact HB.out | simp
  have b3 : (k == 3) = false := by simp [h3]
  by_cases h4 : k = 4
  · subst h4
    have hb : ((n : Int) == 0) = (n == 0) := by rw [Bool.eq_iff_iff, beq_iff_eq, beq_iff_eq]; omega
    have HE : Hid (kidsB 4 n = (n == 0)) := rfl
    have HB := Lib.hid hb
    clear hb
    go_enter Try.func128, Try.ntmps128
    go_wp2_with fail
    go_ret
    refine ⟨ret_bool ?_, rfl⟩
    rw [HE.out]
    first | exact HB.out | simp
  have b4 : (k == 4) = false := by simp [h4]
  by_cases h5 : k = 5
  · subst h5
    have hb : ((n : Int) == 1) = (n == 1) := by rw [Bool.eq_iff_iff, beq_iff_eq, beq_iff_eq]; omega
    have HE : Hid (kidsB 5 n = (n == 1)) := rfl
    have HB := Lib.hid hb
    clear hb
    go_enter Try.func128, Try.ntmps128
    go_wp2_with fail
    go_ret
    refine ⟨ret_bool ?_, rfl⟩
    rw [HE.out]
    first | exact HB.out | simp
  have b5 : (k == 5) = false := by simp [h5]
  by_cases h6 : k = 6
  · subst h6
    have hb : decide ((1 : Int) ≤ (n : Int)) = decide (1 ≤ n) := by rw [decide_eq_decide]; omega
    have HE : Hid (kidsB 6 n = decide (1 ≤ n)) := rfl
    have HB := Lib.hid hb
    clear hb
    go_enter Try.func128, Try.ntmps128
    go_wp2_with fail
    go_ret
    refine ⟨ret_bool ?_, rfl⟩
    rw [HE.out]
    first | exact HB.out | simp
  have b6 : (k == 6) = false := by simp [h6]
  have HE : Hid (kidsB k n = (k == 7 && n == 3)) := by unfold Hid kidsB; rw [if_neg h1, if_neg h2, if_neg h3, if_neg h4, if_neg h5, if_neg h6]
  clear h1 h2 h3 h4 h5 h6
  cases h7 : (k == 7) with
  | false =>
    have HF : Hid (kidsB k n = false) := by rw [HE.out, h7]; rfl
    go_enter Try.func128, Try.ntmps128
    go_wp2_with fail
    go_ret
    exact ⟨ret_bool HF.out.symm, rfl⟩
  | true =>
    have HF : Hid (kidsB k n = (n == 3)) := by rw [HE.out, h7]; rfl
    have hb : ((n : Int) == 3) = (n == 3) := by rw [Bool.eq_iff_iff, beq_iff_eq, beq_iff_eq]; omega
    have HB := Lib.hid hb
    clear hb
    go_enter Try.func128, Try.ntmps128
    go_wp2_with fail
    go_ret
    refine ⟨ret_bool ?_, rfl⟩
    rw [HF.out]
    first | exact HB.out | simp
end
end Go.Proofs.Ytbclgmabidjegaa
namespace Go.Proofs.Ytbclgmabidjegaa.CoreT
section
open Go.RowKit
set_option linter.unusedVariables false
set_option linter.unusedSimpArgs false
mutual
theorem strip_bare : ∀ f : Fm, sameB (f.chg fun _ _ => []) f = bareB f
  | .mk k nm n sc ks => by
    rw [Fm.chg]
    simp only [sameB, bareB, strip_bareAll ks, beq_self_eq_true, Bool.true_and]
    cases sc <;> simp
theorem strip_bareAll : ∀ ks : List Fm, sameAll (chgAll (fun _ _ => []) ks) ks = bareAll ks
  | [] => rfl
  | f :: r => by simp only [chgAll, sameAll, bareAll, strip_bare f, strip_bareAll r]
end
theorem inC_nameSize {φ : Nat → Prop} {w : World} {x : CItem} (h : InC φ w x.f x.val) : x.f.name.size ≤ maxLen := by
  rw [CItem.val_eq] at h
  exact (InC.parts h).2.2.2.1
theorem inC_dataIn {φ : Nat → Prop} {w : World} {x : CItem} (h : InC φ w x.f x.val) : InV φ w x.f.data (.agg #[.int .i64 x.f.data.kind, .string x.f.data.name, .int .i64 x.f.data.n, .slice x.s1 x.f.data.scopes.length x.t1, .slice x.k1 x.f.data.kids.length x.l1]) := by
  rw [CItem.val_eq] at h
  exact (InC.parts h).2.2.2.2.2.1
set_option maxRecDepth 100000 in
set_option maxHeartbeats 16000000 in
theorem l6Fields_any (B : Nat) (x : CItem) (w : World) (hB : B ≤ w.heap.size) (hv : InC (· < B) w x.f x.val) (hdz : x.f.data.sz ≤ 1048576) :
    Calls Try.prog 129 #[x.val] w fun e w' => e = .returned (.bool (fieldsB x.f)) ∧ Below w.heap.size w w' := by
  have hdc := x.f.data.count_le
  have HNM : Hid (x.f.name.size ≤ maxLen) := inC_nameSize hv
  have HD := Lib.hid (inC_dataIn hv)
  rw [CItem.val_eq]
  obtain ⟨w0, hw0⟩ : ∃ w0, w0 = w.alloc (.cells #[.int .i64 x.f.kind, .int .i64 x.f.id, .string x.f.name, .int .i64 x.f.n, .slice x.i1 x.f.ids.length x.j1, .int .i64 x.f.data.kind, .string x.f.data.name, .int .i64 x.f.data.n, .slice x.s1 x.f.data.scopes.length x.t1, .slice x.k1 x.f.data.kids.length x.l1, .slice x.a x.f.kids.length x.cap] 36) := ⟨_, rfl⟩
  have HB0 : Hid (Below w.heap.size w w0) := by rw [hw0]; exact below_alloc w _
  have HX0 : Hid (CoreBox w0 w.heap.size x) := by rw [hw0]; exact CoreBox.fresh w x _
  have hs0 : w.heap.size + 1 ≤ w0.heap.size := by rw [hw0]; simp
  obtain ⟨x0, x1, x2, x3, x4, x5, x6, x7, x8, x9, x10⟩ := HX0.out
  have HW0 := Lib.hid hw0
  clear hw0 hv
  go_enter Try.func129, Try.ntmps129
  go_upto_region 1 with fail
  rw [← HW0.out]
  clear HW0
  obtain ⟨c1, hc1⟩ : ∃ c1, c1 = !fld1 x.f := ⟨_, rfl⟩
  have HC1 := Lib.hid hc1
  clear hc1
  go_upto_region 1 with fail
  go_cut [25] from 3 (fun s1 wx => s1 = .bool c1 ∧ w0 = wx)
  case first =>
    by_cases hk : x.f.kind = 1
    · have hkb : (x.f.kind == 1) = true := by simp [hk]
      have hkn : (x.f.kind != 1) = false := by simp [hk]
      have HK := Lib.hid hk
      clear hk
      cases hlo : decide (x.f.id < 1) with
      | true =>
        have HE : Hid (c1 = true) := by refine Lib.hid ?_; rw [HC1.out, fld1, if_pos HK.out]; have h := of_decide_eq_true hlo; rw [decide_eq_false (show ¬ 1 ≤ x.f.id by omega)]; rfl
        go_wp2_with fail
        go_meet
        exact ⟨by rw [HE.out], rfl⟩
      | false =>
        have hlo' := of_decide_eq_false hlo
        cases hhi : decide (x.f.id > 999) with
        | true =>
          have HE : Hid (c1 = true) := by refine Lib.hid ?_; rw [HC1.out, fld1, if_pos HK.out]; have h := of_decide_eq_true hhi; rw [decide_eq_false (show ¬ x.f.id ≤ 999 by omega)]; simp
          go_wp2_with fail
          go_meet
          exact ⟨by rw [HE.out], rfl⟩
        | false =>
          have HE : Hid (c1 = false) := by refine Lib.hid ?_; rw [HC1.out, fld1, if_pos HK.out]; have h := of_decide_eq_false hhi; rw [decide_eq_true (show 1 ≤ x.f.id by omega), decide_eq_true (show x.f.id ≤ 999 by omega)]; rfl
          go_wp2_with fail
          go_meet
          exact ⟨by rw [HE.out], rfl⟩
    · have hkb : (x.f.kind == 1) = false := by simp [hk]
      have hkn : (x.f.kind != 1) = true := by simp [hk]
      have HK := Lib.hid hk
      clear hk
      cases hz : (x.f.id != 0) with
      | true =>
        have HE : Hid (c1 = true) := by refine Lib.hid ?_; rw [HC1.out, fld1, if_neg HK.out]; simp only [bne_iff_ne, ne_eq] at hz; simp [hz]
        go_wp2_with fail
        go_meet
        exact ⟨by rw [HE.out], rfl⟩
      | false =>
        have HE : Hid (c1 = false) := by refine Lib.hid ?_; rw [HC1.out, fld1, if_neg HK.out]; rw [bne_eq_false_iff_eq] at hz; simp [hz]
        go_wp2_with fail
        go_meet
        exact ⟨by rw [HE.out], rfl⟩
  case rest =>
  obtain ⟨rfl, rfl⟩ := hcut
  cases hcc : c1 with
  | true =>
    have HE : Hid (fieldsB x.f = false) := by 
      have h : fld1 x.f = false := by
        cases hf : fld1 x.f with
        | false => rfl
        | true => rw [HC1.out, hf] at hcc; exact absurd hcc (by decide)
      refine Lib.hid ?_
      rw [fieldsB, h]; simp
    clear hcc
    go_wp2_with fail
    go_ret
    exact ⟨ret_bool HE.out.symm, HB0.out⟩
  | false =>
  have HF1 : Hid (fld1 x.f = true) := by
    refine Lib.hid ?_
    cases hf : fld1 x.f with
    | true => rfl
    | false => rw [HC1.out, hf] at hcc; exact absurd hcc (by decide)
  clear hcc HC1
  obtain ⟨c2, hc2⟩ : ∃ c2, c2 = !fld2 x.f := ⟨_, rfl⟩
  have HC2 := Lib.hid hc2
  clear hc2
  go_upto_region 3 with fail
  go_cut [44] from 3 (fun s2 wx => s2 = .bool c2 ∧ w0 = wx)
  case first =>
    by_cases hk : x.f.kind = 2
    · have hkb : (x.f.kind == 2) = true := by simp [hk]
      have hkn : (x.f.kind != 2) = false := by simp [hk]
      have HK := Lib.hid hk
      clear hk
      go_wp2_with fail
      refine (specNameValid_any x.f.name _ HNM.out).mono ?_
      rintro e w4 ⟨rfl, hw4⟩
      subst hw4
      cases hz : nameB x.f.name.data.toList with
      | false =>
        have HE : Hid (c2 = true) := by refine Lib.hid ?_; rw [HC2.out, fld2, if_pos HK.out, hz]; rfl
        go_wp2_with fail
        go_meet
        exact ⟨by rw [HE.out], rfl⟩
      | true =>
        have HE : Hid (c2 = false) := by refine Lib.hid ?_; rw [HC2.out, fld2, if_pos HK.out, hz]; rfl
        go_wp2_with fail
        go_meet
        exact ⟨by rw [HE.out], rfl⟩
    · have hkb : (x.f.kind == 2) = false := by simp [hk]
      have hkn : (x.f.kind != 2) = true := by simp [hk]
      have HK := Lib.hid hk
      clear hk
      have he0 : (x.f.name.toList == (ByteArray.mk #[]).toList) = x.f.name.toList.isEmpty := by
        have e : (ByteArray.mk #[]).toList = [] := by first | rfl | decide | simp
        rw [e]; cases x.f.name.toList <;> rfl
      have HE0 := Lib.hid he0
      clear he0
      cases hz : x.f.name.toList.isEmpty with
      | false =>
        have HE : Hid (c2 = true) := by refine Lib.hid ?_; rw [HC2.out, fld2, if_neg HK.out, HE0.out, hz]; rfl
        go_wp2_with fail
        go_meet
        exact ⟨by rw [HE.out], rfl⟩
      | true =>
        have HE : Hid (c2 = false) := by refine Lib.hid ?_; rw [HC2.out, fld2, if_neg HK.out, HE0.out, hz]; rfl
        go_wp2_with fail
        go_meet
        exact ⟨by rw [HE.out], rfl⟩
  case rest =>
  obtain ⟨rfl, rfl⟩ := hcut
  cases hcc : c2 with
  | true =>
    have HE : Hid (fieldsB x.f = false) := by 
      have h : fld2 x.f = false := by
        cases hf : fld2 x.f with
        | false => rfl
        | true => rw [HC2.out, hf] at hcc; exact absurd hcc (by decide)
      refine Lib.hid ?_
      rw [fieldsB, h]; simp
    clear hcc
    go_wp2_with fail
    go_ret
    exact ⟨ret_bool HE.out.symm, HB0.out⟩
  | false =>
  have HF2 : Hid (fld2 x.f = true) := by
    refine Lib.hid ?_
    cases hf : fld2 x.f with
    | true => rfl
    | false => rw [HC2.out, hf] at hcc; exact absurd hcc (by decide)
  clear hcc HC2
  obtain ⟨c3, hc3⟩ : ∃ c3, c3 = !fld3 x.f := ⟨_, rfl⟩
  have HC3 := Lib.hid hc3
  clear hc3
  go_upto_region 5 with fail
  go_cut [67] from 3 (fun s3 wx => s3 = .bool c3 ∧ w0 = wx)
  case first =>
    by_cases hk : x.f.kind = 3
    · have hkb : (x.f.kind == 3) = true := by simp [hk]
      have hkn : (x.f.kind != 3) = false := by simp [hk]
      have HK := Lib.hid hk
      clear hk
      cases hlo : decide (x.f.n < 0) with
      | true =>
        have HE : Hid (c3 = true) := by refine Lib.hid ?_; rw [HC3.out, fld3, if_pos HK.out]; have h := of_decide_eq_true hlo; rw [decide_eq_false (show ¬ 0 ≤ x.f.n by omega)]; rfl
        go_wp2_with fail
        go_meet
        exact ⟨by rw [HE.out], rfl⟩
      | false =>
        have hlo' := of_decide_eq_false hlo
        cases hhi : decide (x.f.n > 999) with
        | true =>
          have HE : Hid (c3 = true) := by refine Lib.hid ?_; rw [HC3.out, fld3, if_pos HK.out]; have h := of_decide_eq_true hhi; rw [decide_eq_false (show ¬ x.f.n ≤ 999 by omega)]; simp
          go_wp2_with fail
          go_meet
          exact ⟨by rw [HE.out], rfl⟩
        | false =>
          have HE : Hid (c3 = false) := by refine Lib.hid ?_; rw [HC3.out, fld3, if_pos HK.out]; have h := of_decide_eq_false hhi; rw [decide_eq_true (show 0 ≤ x.f.n by omega), decide_eq_true (show x.f.n ≤ 999 by omega)]; rfl
          go_wp2_with fail
          go_meet
          exact ⟨by rw [HE.out], rfl⟩
    · have hkb : (x.f.kind == 3) = false := by simp [hk]
      have hkn : (x.f.kind != 3) = true := by simp [hk]
      have HK := Lib.hid hk
      clear hk
      cases hz : (x.f.n != 0) with
      | true =>
        have HE : Hid (c3 = true) := by refine Lib.hid ?_; rw [HC3.out, fld3, if_neg HK.out]; simp only [bne_iff_ne, ne_eq] at hz; simp [hz]
        go_wp2_with fail
        go_meet
        exact ⟨by rw [HE.out], rfl⟩
      | false =>
        have HE : Hid (c3 = false) := by refine Lib.hid ?_; rw [HC3.out, fld3, if_neg HK.out]; rw [bne_eq_false_iff_eq] at hz; simp [hz]
        go_wp2_with fail
        go_meet
        exact ⟨by rw [HE.out], rfl⟩
  case rest =>
  obtain ⟨rfl, rfl⟩ := hcut
  cases hcc : c3 with
  | true =>
    have HE : Hid (fieldsB x.f = false) := by 
      have h : fld3 x.f = false := by
        cases hf : fld3 x.f with
        | false => rfl
        | true => rw [HC3.out, hf] at hcc; exact absurd hcc (by decide)
      refine Lib.hid ?_
      rw [fieldsB, h]; simp
    clear hcc
    go_wp2_with fail
    go_ret
    exact ⟨ret_bool HE.out.symm, HB0.out⟩
  | false =>
  have HF3 : Hid (fld3 x.f = true) := by
    refine Lib.hid ?_
    cases hf : fld3 x.f with
    | true => rfl
    | false => rw [HC3.out, hf] at hcc; exact absurd hcc (by decide)
  clear hcc HC3
  obtain ⟨c4, hc4⟩ : ∃ c4, c4 = !fld4 x.f := ⟨_, rfl⟩
  have HC4 := Lib.hid hc4
  clear hc4
  go_upto_region 7 with fail
  go_cut [97] from 3 (fun s4 wx => s4 = .bool c4 ∧ Below w.heap.size w wx ∧ CoreBox wx w.heap.size x)
  case first =>
    go_wp2_with fail
    rename_i K hK0
    refine upto_begin (fun W => CoreBox W w.heap.size x) 30 (by kernel_rfl) ?_
    obtain ⟨u, hu⟩ : ∃ u, u = w0.drew := ⟨_, rfl⟩
    rw [← hu]
    have hbu : Below w0.heap.size w0 u := by rw [hu]; exact (Below.refl _ _).drew
    have hsu : w0.heap.size ≤ u.heap.size := hbu.size
    have HBU : Hid (Below w.heap.size w u) := HB0.out.trans (hbu.mono (by omega))
    have HS0 : Hid (CoreBox u w.heap.size x) := HX0.out.later hbu
    have hS := HS0.out
    clear hu hbu x0 x1 x2 x3 x4 x5 x6 x7 x8 x9 x10
    by_cases hk : x.f.kind = 4
    · have HK := Lib.hid hk
      have hkb : (x.f.kind == 4) = true := by simp [hk]
      have hkn : (x.f.kind != 4) = false := by simp [hk]
      clear hk
      refine upto_take (i := 0) (d := some 68) (v := ?_) rfl rfl (by kernel_rfl) (by kernel_rfl) (by kernel_rfl) (by kernel_rfl) (fun _ _ _ h => h) (Or.inl ⟨by rfl, ?_⟩) hS ?_
      rotate_left
      · (intro wS hSw; obtain ⟨_, _, _, _, _, _, _, _, _, _, _⟩ := hSw; go_simp; try with_reducible rfl)
      try simp only [Act.put, List.setIfInBounds_toArray, List.set_cons_zero, List.set_cons_succ]
      refine upto_take (i := 1) (d := some 69) (v := ?_) rfl rfl (by kernel_rfl) (by kernel_rfl) (by kernel_rfl) (by kernel_rfl) (fun _ _ _ h => h) (Or.inl ⟨by rfl, ?_⟩) hS ?_
      rotate_left
      · (intro wS hSw; obtain ⟨_, _, _, _, _, _, _, _, _, _, _⟩ := hSw; go_simp; try with_reducible rfl)
      try simp only [Act.put, List.setIfInBounds_toArray, List.set_cons_zero, List.set_cons_succ]
      refine upto_take (i := 2) (d := some 70) (v := ?_) rfl rfl (by kernel_rfl) (by kernel_rfl) (by kernel_rfl) (by kernel_rfl) (fun _ _ _ h => h) (Or.inl ⟨by rfl, ?_⟩) hS ?_
      rotate_left
      · (intro wS hSw; obtain ⟨_, _, _, _, _, _, _, _, _, _, _⟩ := hSw; go_simp; try with_reducible rfl)
      try simp only [Act.put, List.setIfInBounds_toArray, List.set_cons_zero, List.set_cons_succ]
      refine upto_take (i := 3) (d := some 71) (v := ?_) rfl rfl (by kernel_rfl) (by kernel_rfl) (by kernel_rfl) (by kernel_rfl) (fun _ _ _ h => h) (Or.inl ⟨by rfl, ?_⟩) hS ?_
      rotate_left
      · (intro wS hSw; obtain ⟨_, _, _, _, _, _, _, _, _, _, _⟩ := hSw; go_simp; try with_reducible rfl)
      try simp only [Act.put, List.setIfInBounds_toArray, List.set_cons_zero, List.set_cons_succ]
      refine upto_take (i := 4) (d := some 72) (v := ?_) rfl rfl (by kernel_rfl) (by kernel_rfl) (by kernel_rfl) (by kernel_rfl) (fun _ _ _ h => h) (Or.inl ⟨by rfl, ?_⟩) hS ?_
      rotate_left
      · (intro wS hSw; obtain ⟨_, _, _, _, _, _, _, _, _, _, _⟩ := hSw; go_simp; try with_reducible rfl)
      try simp only [Act.put, List.setIfInBounds_toArray, List.set_cons_zero, List.set_cons_succ]
      refine upto_take (i := 5) (d := some 73) (v := ?_) rfl rfl (by kernel_rfl) (by kernel_rfl) (by kernel_rfl) (by kernel_rfl) (fun _ _ _ h => h) (Or.inl ⟨by rfl, ?_⟩) hS ?_
      rotate_left
      · (intro wS hSw; obtain ⟨_, _, _, _, _, _, _, _, _, _, _⟩ := hSw; go_simp; try with_reducible rfl)
      try simp only [Act.put, List.setIfInBounds_toArray, List.set_cons_zero, List.set_cons_succ]
      clear hS
      refine upto_one (i := 6) (by kernel_rfl) rfl (fun K hK => ?_)
      go_simp
      refine (specFormValid_any B x.f.data _ u (by omega) (InV.later (same_below (HBU.out.mono hB)) _ _ HD.out) (by omega)).mono ?_
      rintro e w2 ⟨rfl, hb2⟩
      have hs2 := hb2.size
      have HB2 : Hid (Below w.heap.size w w2) := HBU.out.trans (hb2.mono (by omega))
      have HS2 : Hid (CoreBox w2 w.heap.size x) := HS0.out.later hb2
      have hS := HS2.out
      refine hK.out _ _ (.inr hS) ?_
      clear hK K
      clear hb2
      cases h1 : formB x.f.data with
      | false =>
        have HC : Hid (c4 = true) := by refine Lib.hid ?_; rw [HC4.out, fld4, if_pos HK.out, h1]; rfl
        clear hS
        refine upto_one (i := 7) (by kernel_rfl) rfl (fun K hK => ?_)
        go_simp
        have hS := HS2.out
        refine hK.out _ _ (.inr hS) ?_
        clear hK K
        clear hS
        refine upto_one (i := 8) (by kernel_rfl) rfl (fun K hK => ?_)
        go_simp
        have hS := HS2.out
        refine hK.out _ _ (.inr hS) ?_
        clear hK K
        refine upto_take (i := 9) (d := some 77) (v := undef) rfl rfl (by kernel_rfl) (by kernel_rfl) (by kernel_rfl) (by kernel_rfl) (fun _ _ _ h => h) (Or.inr ⟨by rfl, rfl⟩) hS ?_
        try simp only [Act.put, List.setIfInBounds_toArray, List.set_cons_zero, List.set_cons_succ]
        refine upto_take (i := 10) (d := some 78) (v := undef) rfl rfl (by kernel_rfl) (by kernel_rfl) (by kernel_rfl) (by kernel_rfl) (fun _ _ _ h => h) (Or.inr ⟨by rfl, rfl⟩) hS ?_
        try simp only [Act.put, List.setIfInBounds_toArray, List.set_cons_zero, List.set_cons_succ]
        refine upto_take (i := 11) (d := some 79) (v := undef) rfl rfl (by kernel_rfl) (by kernel_rfl) (by kernel_rfl) (by kernel_rfl) (fun _ _ _ h => h) (Or.inr ⟨by rfl, rfl⟩) hS ?_
        try simp only [Act.put, List.setIfInBounds_toArray, List.set_cons_zero, List.set_cons_succ]
        refine upto_take (i := 12) (d := some 80) (v := undef) rfl rfl (by kernel_rfl) (by kernel_rfl) (by kernel_rfl) (by kernel_rfl) (fun _ _ _ h => h) (Or.inr ⟨by rfl, rfl⟩) hS ?_
        try simp only [Act.put, List.setIfInBounds_toArray, List.set_cons_zero, List.set_cons_succ]
        refine upto_take (i := 13) (d := some 81) (v := undef) rfl rfl (by kernel_rfl) (by kernel_rfl) (by kernel_rfl) (by kernel_rfl) (fun _ _ _ h => h) (Or.inr ⟨by rfl, rfl⟩) hS ?_
        try simp only [Act.put, List.setIfInBounds_toArray, List.set_cons_zero, List.set_cons_succ]
        refine upto_take (i := 14) (d := some 82) (v := undef) rfl rfl (by kernel_rfl) (by kernel_rfl) (by kernel_rfl) (by kernel_rfl) (fun _ _ _ h => h) (Or.inr ⟨by rfl, rfl⟩) hS ?_
        try simp only [Act.put, List.setIfInBounds_toArray, List.set_cons_zero, List.set_cons_succ]
        refine upto_take (i := 15) (d := some 83) (v := undef) rfl rfl (by kernel_rfl) (by kernel_rfl) (by kernel_rfl) (by kernel_rfl) (fun _ _ _ h => h) (Or.inr ⟨by rfl, rfl⟩) hS ?_
        try simp only [Act.put, List.setIfInBounds_toArray, List.set_cons_zero, List.set_cons_succ]
        clear hS
        refine upto_one (i := 16) (by kernel_rfl) rfl (fun K hK => ?_)
        go_simp
        have hS := HS2.out
        refine hK.out _ _ (.inr hS) ?_
        clear hK K
        clear hS
        refine upto_one (i := 17) (by kernel_rfl) rfl (fun K hK => ?_)
        go_simp
        have hS := HS2.out
        refine hK.out _ _ (.inr hS) ?_
        clear hK K
        clear hS
        refine upto_one (i := 18) (by kernel_rfl) rfl (fun K hK => ?_)
        go_simp
        have hS := HS2.out
        refine hK.out _ _ (.inr hS) ?_
        clear hK K
        refine upto_take (i := 19) (d := some 87) (v := undef) rfl rfl (by kernel_rfl) (by kernel_rfl) (by kernel_rfl) (by kernel_rfl) (fun _ _ _ h => h) (Or.inr ⟨by rfl, rfl⟩) hS ?_
        try simp only [Act.put, List.setIfInBounds_toArray, List.set_cons_zero, List.set_cons_succ]
        refine upto_take (i := 20) (d := some 88) (v := undef) rfl rfl (by kernel_rfl) (by kernel_rfl) (by kernel_rfl) (by kernel_rfl) (fun _ _ _ h => h) (Or.inr ⟨by rfl, rfl⟩) hS ?_
        try simp only [Act.put, List.setIfInBounds_toArray, List.set_cons_zero, List.set_cons_succ]
        refine upto_take (i := 21) (d := some 89) (v := undef) rfl rfl (by kernel_rfl) (by kernel_rfl) (by kernel_rfl) (by kernel_rfl) (fun _ _ _ h => h) (Or.inr ⟨by rfl, rfl⟩) hS ?_
        try simp only [Act.put, List.setIfInBounds_toArray, List.set_cons_zero, List.set_cons_succ]
        refine upto_take (i := 22) (d := some 90) (v := undef) rfl rfl (by kernel_rfl) (by kernel_rfl) (by kernel_rfl) (by kernel_rfl) (fun _ _ _ h => h) (Or.inr ⟨by rfl, rfl⟩) hS ?_
        try simp only [Act.put, List.setIfInBounds_toArray, List.set_cons_zero, List.set_cons_succ]
        refine upto_take (i := 23) (d := some 91) (v := undef) rfl rfl (by kernel_rfl) (by kernel_rfl) (by kernel_rfl) (by kernel_rfl) (fun _ _ _ h => h) (Or.inr ⟨by rfl, rfl⟩) hS ?_
        try simp only [Act.put, List.setIfInBounds_toArray, List.set_cons_zero, List.set_cons_succ]
        refine upto_take (i := 24) (d := some 92) (v := undef) rfl rfl (by kernel_rfl) (by kernel_rfl) (by kernel_rfl) (by kernel_rfl) (fun _ _ _ h => h) (Or.inr ⟨by rfl, rfl⟩) hS ?_
        try simp only [Act.put, List.setIfInBounds_toArray, List.set_cons_zero, List.set_cons_succ]
        refine upto_take (i := 25) (d := some 93) (v := undef) rfl rfl (by kernel_rfl) (by kernel_rfl) (by kernel_rfl) (by kernel_rfl) (fun _ _ _ h => h) (Or.inr ⟨by rfl, rfl⟩) hS ?_
        try simp only [Act.put, List.setIfInBounds_toArray, List.set_cons_zero, List.set_cons_succ]
        refine upto_take (i := 26) (d := some 94) (v := undef) rfl rfl (by kernel_rfl) (by kernel_rfl) (by kernel_rfl) (by kernel_rfl) (fun _ _ _ h => h) (Or.inr ⟨by rfl, rfl⟩) hS ?_
        try simp only [Act.put, List.setIfInBounds_toArray, List.set_cons_zero, List.set_cons_succ]
        refine upto_take (i := 27) (d := some 95) (v := undef) rfl rfl (by kernel_rfl) (by kernel_rfl) (by kernel_rfl) (by kernel_rfl) (fun _ _ _ h => h) (Or.inr ⟨by rfl, rfl⟩) hS ?_
        try simp only [Act.put, List.setIfInBounds_toArray, List.set_cons_zero, List.set_cons_succ]
        refine upto_take (i := 28) (d := some 96) (v := undef) rfl rfl (by kernel_rfl) (by kernel_rfl) (by kernel_rfl) (by kernel_rfl) (fun _ _ _ h => h) (Or.inr ⟨by rfl, rfl⟩) hS ?_
        try simp only [Act.put, List.setIfInBounds_toArray, List.set_cons_zero, List.set_cons_succ]
        clear hS
        refine upto_one (i := 29) (by kernel_rfl) rfl (fun K hK => ?_)
        go_simp
        have hS := HS2.out
        refine hK.out _ _ (.inr hS) ?_
        clear hK K
        clear hS
        refine upto_done (by kernel_rfl) ?_ _
        apply hK0
        clear hK0
        go_meet
        exact ⟨by rw [HC.out], HB2.out, HS2.out⟩
      | true =>
        have H1 := Lib.hid h1
        clear h1
        clear hS
        refine upto_one (i := 7) (by kernel_rfl) rfl (fun K hK => ?_)
        go_simp
        have hS := HS2.out
        refine hK.out _ _ (.inr hS) ?_
        clear hK K
        clear hS
        refine upto_one (i := 8) (by kernel_rfl) rfl (fun K hK => ?_)
        go_simp
        have hS := HS2.out
        refine hK.out _ _ (.inr hS) ?_
        clear hK K
        refine upto_take (i := 9) (d := some 77) (v := ?_) rfl rfl (by kernel_rfl) (by kernel_rfl) (by kernel_rfl) (by kernel_rfl) (fun _ _ _ h => h) (Or.inl ⟨by rfl, ?_⟩) hS ?_
        rotate_left
        · (intro wS hSw; obtain ⟨_, _, _, _, _, _, _, _, _, _, _⟩ := hSw; go_simp; try with_reducible rfl)
        try simp only [Act.put, List.setIfInBounds_toArray, List.set_cons_zero, List.set_cons_succ]
        refine upto_take (i := 10) (d := some 78) (v := ?_) rfl rfl (by kernel_rfl) (by kernel_rfl) (by kernel_rfl) (by kernel_rfl) (fun _ _ _ h => h) (Or.inl ⟨by rfl, ?_⟩) hS ?_
        rotate_left
        · (intro wS hSw; obtain ⟨_, _, _, _, _, _, _, _, _, _, _⟩ := hSw; go_simp; try with_reducible rfl)
        try simp only [Act.put, List.setIfInBounds_toArray, List.set_cons_zero, List.set_cons_succ]
        refine upto_take (i := 12) (d := some 80) (v := ?_) rfl rfl (by kernel_rfl) (by kernel_rfl) (by kernel_rfl) (by kernel_rfl) (fun _ _ _ h => h) (Or.inl ⟨by rfl, ?_⟩) hS ?_
        rotate_left
        · (intro wS hSw; obtain ⟨_, _, _, _, _, _, _, _, _, _, _⟩ := hSw; go_simp; try with_reducible rfl)
        try simp only [Act.put, List.setIfInBounds_toArray, List.set_cons_zero, List.set_cons_succ]
        refine upto_take (i := 13) (d := some 81) (v := ?_) rfl rfl (by kernel_rfl) (by kernel_rfl) (by kernel_rfl) (by kernel_rfl) (fun _ _ _ h => h) (Or.inl ⟨by rfl, ?_⟩) hS ?_
        rotate_left
        · (intro wS hSw; obtain ⟨_, _, _, _, _, _, _, _, _, _, _⟩ := hSw; go_simp; try with_reducible rfl)
        try simp only [Act.put, List.setIfInBounds_toArray, List.set_cons_zero, List.set_cons_succ]
        clear hS
        refine upto_one (i := 11) (by kernel_rfl) rfl (fun K hK => ?_)
        go_simp
        refine (specStrip_any B x.f.data _ w2 (by omega) (InV.later (same_below (HB2.out.mono hB)) _ _ HD.out) hdz).mono ?_
        rintro e w3 ⟨sv, rfl, hsv, hb3⟩
        have hs3 := hb3.size
        have HB3 : Hid (Below w.heap.size w w3) := HB2.out.trans (hb3.mono (by omega))
        have HS3 : Hid (CoreBox w3 w.heap.size x) := HS2.out.later hb3
        have hS := HS3.out
        refine hK.out _ _ (.inr hS) ?_
        clear hK K
        have HSV := Lib.hid (InV.mono (fun k (hk : w2.heap.size ≤ k ∧ k < w3.heap.size) => hk.2) _ _ hsv)
        clear hb3 hsv
        clear hS
        refine upto_one (i := 14) (by kernel_rfl) rfl (fun K hK => ?_)
        go_simp
        refine (specSame_any w3.heap.size (x.f.data.chg fun _ _ => []) x.f.data _ _ w3 (Nat.le_refl _) HSV.out (InV.mono (fun k (hk : k < B) => by show k < w3.heap.size; omega) _ _ (InV.later (same_below (HB3.out.mono hB)) _ _ HD.out))).mono ?_
        rintro e w4 ⟨rfl, hb4⟩
        have hs4 := hb4.size
        have HB4 : Hid (Below w.heap.size w w4) := HB3.out.trans (hb4.mono (by omega))
        have HS4 : Hid (CoreBox w4 w.heap.size x) := HS3.out.later hb4
        have hS := HS4.out
        refine hK.out _ _ (.inr hS) ?_
        clear hK K
        clear hb4
        rw [strip_bare]
        cases h2 : bareB x.f.data with
        | false =>
          have HC : Hid (c4 = true) := by refine Lib.hid ?_; rw [HC4.out, fld4, if_pos HK.out, H1.out, h2]; rfl
          clear hS
          refine upto_one (i := 15) (by kernel_rfl) rfl (fun K hK => ?_)
          go_simp
          have hS := HS4.out
          refine hK.out _ _ (.inr hS) ?_
          clear hK K
          clear hS
          refine upto_one (i := 16) (by kernel_rfl) rfl (fun K hK => ?_)
          go_simp
          have hS := HS4.out
          refine hK.out _ _ (.inr hS) ?_
          clear hK K
          clear hS
          refine upto_one (i := 17) (by kernel_rfl) rfl (fun K hK => ?_)
          go_simp
          have hS := HS4.out
          refine hK.out _ _ (.inr hS) ?_
          clear hK K
          clear hS
          refine upto_one (i := 18) (by kernel_rfl) rfl (fun K hK => ?_)
          go_simp
          have hS := HS4.out
          refine hK.out _ _ (.inr hS) ?_
          clear hK K
          refine upto_take (i := 19) (d := some 87) (v := undef) rfl rfl (by kernel_rfl) (by kernel_rfl) (by kernel_rfl) (by kernel_rfl) (fun _ _ _ h => h) (Or.inr ⟨by rfl, rfl⟩) hS ?_
          try simp only [Act.put, List.setIfInBounds_toArray, List.set_cons_zero, List.set_cons_succ]
          refine upto_take (i := 20) (d := some 88) (v := undef) rfl rfl (by kernel_rfl) (by kernel_rfl) (by kernel_rfl) (by kernel_rfl) (fun _ _ _ h => h) (Or.inr ⟨by rfl, rfl⟩) hS ?_
          try simp only [Act.put, List.setIfInBounds_toArray, List.set_cons_zero, List.set_cons_succ]
          refine upto_take (i := 21) (d := some 89) (v := undef) rfl rfl (by kernel_rfl) (by kernel_rfl) (by kernel_rfl) (by kernel_rfl) (fun _ _ _ h => h) (Or.inr ⟨by rfl, rfl⟩) hS ?_
          try simp only [Act.put, List.setIfInBounds_toArray, List.set_cons_zero, List.set_cons_succ]
          refine upto_take (i := 22) (d := some 90) (v := undef) rfl rfl (by kernel_rfl) (by kernel_rfl) (by kernel_rfl) (by kernel_rfl) (fun _ _ _ h => h) (Or.inr ⟨by rfl, rfl⟩) hS ?_
          try simp only [Act.put, List.setIfInBounds_toArray, List.set_cons_zero, List.set_cons_succ]
          refine upto_take (i := 23) (d := some 91) (v := undef) rfl rfl (by kernel_rfl) (by kernel_rfl) (by kernel_rfl) (by kernel_rfl) (fun _ _ _ h => h) (Or.inr ⟨by rfl, rfl⟩) hS ?_
          try simp only [Act.put, List.setIfInBounds_toArray, List.set_cons_zero, List.set_cons_succ]
          refine upto_take (i := 24) (d := some 92) (v := undef) rfl rfl (by kernel_rfl) (by kernel_rfl) (by kernel_rfl) (by kernel_rfl) (fun _ _ _ h => h) (Or.inr ⟨by rfl, rfl⟩) hS ?_
          try simp only [Act.put, List.setIfInBounds_toArray, List.set_cons_zero, List.set_cons_succ]
          refine upto_take (i := 25) (d := some 93) (v := undef) rfl rfl (by kernel_rfl) (by kernel_rfl) (by kernel_rfl) (by kernel_rfl) (fun _ _ _ h => h) (Or.inr ⟨by rfl, rfl⟩) hS ?_
          try simp only [Act.put, List.setIfInBounds_toArray, List.set_cons_zero, List.set_cons_succ]
          refine upto_take (i := 26) (d := some 94) (v := undef) rfl rfl (by kernel_rfl) (by kernel_rfl) (by kernel_rfl) (by kernel_rfl) (fun _ _ _ h => h) (Or.inr ⟨by rfl, rfl⟩) hS ?_
          try simp only [Act.put, List.setIfInBounds_toArray, List.set_cons_zero, List.set_cons_succ]
          refine upto_take (i := 27) (d := some 95) (v := undef) rfl rfl (by kernel_rfl) (by kernel_rfl) (by kernel_rfl) (by kernel_rfl) (fun _ _ _ h => h) (Or.inr ⟨by rfl, rfl⟩) hS ?_
          try simp only [Act.put, List.setIfInBounds_toArray, List.set_cons_zero, List.set_cons_succ]
          refine upto_take (i := 28) (d := some 96) (v := undef) rfl rfl (by kernel_rfl) (by kernel_rfl) (by kernel_rfl) (by kernel_rfl) (fun _ _ _ h => h) (Or.inr ⟨by rfl, rfl⟩) hS ?_
          try simp only [Act.put, List.setIfInBounds_toArray, List.set_cons_zero, List.set_cons_succ]
          clear hS
          refine upto_one (i := 29) (by kernel_rfl) rfl (fun K hK => ?_)
          go_simp
          have hS := HS4.out
          refine hK.out _ _ (.inr hS) ?_
          clear hK K
          clear hS
          refine upto_done (by kernel_rfl) ?_ _
          apply hK0
          clear hK0
          go_meet
          exact ⟨by rw [HC.out], HB4.out, HS4.out⟩
        | true =>
          have HC : Hid (c4 = false) := by refine Lib.hid ?_; rw [HC4.out, fld4, if_pos HK.out, H1.out, h2]; rfl
          clear hS
          refine upto_one (i := 15) (by kernel_rfl) rfl (fun K hK => ?_)
          go_simp
          have hS := HS4.out
          refine hK.out _ _ (.inr hS) ?_
          clear hK K
          clear hS
          refine upto_one (i := 16) (by kernel_rfl) rfl (fun K hK => ?_)
          go_simp
          have hS := HS4.out
          refine hK.out _ _ (.inr hS) ?_
          clear hK K
          clear hS
          refine upto_one (i := 17) (by kernel_rfl) rfl (fun K hK => ?_)
          go_simp
          have hS := HS4.out
          refine hK.out _ _ (.inr hS) ?_
          clear hK K
          clear hS
          refine upto_one (i := 18) (by kernel_rfl) rfl (fun K hK => ?_)
          go_simp
          have hS := HS4.out
          refine hK.out _ _ (.inr hS) ?_
          clear hK K
          refine upto_take (i := 19) (d := some 87) (v := ?_) rfl rfl (by kernel_rfl) (by kernel_rfl) (by kernel_rfl) (by kernel_rfl) (fun _ _ _ h => h) (Or.inl ⟨by rfl, ?_⟩) hS ?_
          rotate_left
          · (intro wS hSw; obtain ⟨_, _, _, _, _, _, _, _, _, _, _⟩ := hSw; go_simp; try with_reducible rfl)
          try simp only [Act.put, List.setIfInBounds_toArray, List.set_cons_zero, List.set_cons_succ]
          refine upto_take (i := 20) (d := some 88) (v := ?_) rfl rfl (by kernel_rfl) (by kernel_rfl) (by kernel_rfl) (by kernel_rfl) (fun _ _ _ h => h) (Or.inl ⟨by rfl, ?_⟩) hS ?_
          rotate_left
          · (intro wS hSw; obtain ⟨_, _, _, _, _, _, _, _, _, _, _⟩ := hSw; go_simp; try with_reducible rfl)
          try simp only [Act.put, List.setIfInBounds_toArray, List.set_cons_zero, List.set_cons_succ]
          refine upto_take (i := 21) (d := some 89) (v := ?_) rfl rfl (by kernel_rfl) (by kernel_rfl) (by kernel_rfl) (by kernel_rfl) (fun _ _ _ h => h) (Or.inl ⟨by rfl, ?_⟩) hS ?_
          rotate_left
          · (intro wS hSw; obtain ⟨_, _, _, _, _, _, _, _, _, _, _⟩ := hSw; go_simp; try with_reducible rfl)
          try simp only [Act.put, List.setIfInBounds_toArray, List.set_cons_zero, List.set_cons_succ]
          refine upto_take (i := 22) (d := some 90) (v := ?_) rfl rfl (by kernel_rfl) (by kernel_rfl) (by kernel_rfl) (by kernel_rfl) (fun _ _ _ h => h) (Or.inl ⟨by rfl, ?_⟩) hS ?_
          rotate_left
          · (intro wS hSw; obtain ⟨_, _, _, _, _, _, _, _, _, _, _⟩ := hSw; go_simp; try with_reducible rfl)
          try simp only [Act.put, List.setIfInBounds_toArray, List.set_cons_zero, List.set_cons_succ]
          refine upto_take (i := 23) (d := some 91) (v := undef) rfl rfl (by kernel_rfl) (by kernel_rfl) (by kernel_rfl) (by kernel_rfl) (fun _ _ _ h => h) (Or.inr ⟨by rfl, rfl⟩) hS ?_
          try simp only [Act.put, List.setIfInBounds_toArray, List.set_cons_zero, List.set_cons_succ]
          refine upto_take (i := 24) (d := some 92) (v := undef) rfl rfl (by kernel_rfl) (by kernel_rfl) (by kernel_rfl) (by kernel_rfl) (fun _ _ _ h => h) (Or.inr ⟨by rfl, rfl⟩) hS ?_
          try simp only [Act.put, List.setIfInBounds_toArray, List.set_cons_zero, List.set_cons_succ]
          refine upto_take (i := 25) (d := some 93) (v := undef) rfl rfl (by kernel_rfl) (by kernel_rfl) (by kernel_rfl) (by kernel_rfl) (fun _ _ _ h => h) (Or.inr ⟨by rfl, rfl⟩) hS ?_
          try simp only [Act.put, List.setIfInBounds_toArray, List.set_cons_zero, List.set_cons_succ]
          refine upto_take (i := 26) (d := some 94) (v := undef) rfl rfl (by kernel_rfl) (by kernel_rfl) (by kernel_rfl) (by kernel_rfl) (fun _ _ _ h => h) (Or.inr ⟨by rfl, rfl⟩) hS ?_
          try simp only [Act.put, List.setIfInBounds_toArray, List.set_cons_zero, List.set_cons_succ]
          refine upto_take (i := 27) (d := some 95) (v := undef) rfl rfl (by kernel_rfl) (by kernel_rfl) (by kernel_rfl) (by kernel_rfl) (fun _ _ _ h => h) (Or.inr ⟨by rfl, rfl⟩) hS ?_
          try simp only [Act.put, List.setIfInBounds_toArray, List.set_cons_zero, List.set_cons_succ]
          clear hS
          refine upto_one (i := 28) (by kernel_rfl) rfl (fun K hK => ?_)
          go_simp
          have hS := HS4.out
          refine hK.out _ _ (.inr hS) ?_
          clear hK K
          clear hS
          refine upto_one (i := 29) (by kernel_rfl) rfl (fun K hK => ?_)
          go_simp
          have hS := HS4.out
          refine hK.out _ _ (.inr hS) ?_
          clear hK K
          clear hS
          refine upto_done (by kernel_rfl) ?_ _
          apply hK0
          clear hK0
          go_meet
          exact ⟨by rw [HC.out], HB4.out, HS4.out⟩
    · have HK := Lib.hid hk
      have hkb : (x.f.kind == 4) = false := by simp [hk]
      have hkn : (x.f.kind != 4) = true := by simp [hk]
      clear hk
      refine upto_take (i := 0) (d := some 68) (v := ?_) rfl rfl (by kernel_rfl) (by kernel_rfl) (by kernel_rfl) (by kernel_rfl) (fun _ _ _ h => h) (Or.inl ⟨by rfl, ?_⟩) hS ?_
      rotate_left
      · (intro wS hSw; obtain ⟨_, _, _, _, _, _, _, _, _, _, _⟩ := hSw; go_simp; try with_reducible rfl)
      try simp only [Act.put, List.setIfInBounds_toArray, List.set_cons_zero, List.set_cons_succ]
      refine upto_take (i := 1) (d := some 69) (v := ?_) rfl rfl (by kernel_rfl) (by kernel_rfl) (by kernel_rfl) (by kernel_rfl) (fun _ _ _ h => h) (Or.inl ⟨by rfl, ?_⟩) hS ?_
      rotate_left
      · (intro wS hSw; obtain ⟨_, _, _, _, _, _, _, _, _, _, _⟩ := hSw; go_simp; try with_reducible rfl)
      try simp only [Act.put, List.setIfInBounds_toArray, List.set_cons_zero, List.set_cons_succ]
      refine upto_take (i := 2) (d := some 70) (v := ?_) rfl rfl (by kernel_rfl) (by kernel_rfl) (by kernel_rfl) (by kernel_rfl) (fun _ _ _ h => h) (Or.inl ⟨by rfl, ?_⟩) hS ?_
      rotate_left
      · (intro wS hSw; obtain ⟨_, _, _, _, _, _, _, _, _, _, _⟩ := hSw; go_simp; try with_reducible rfl)
      try simp only [Act.put, List.setIfInBounds_toArray, List.set_cons_zero, List.set_cons_succ]
      refine upto_take (i := 3) (d := some 71) (v := ?_) rfl rfl (by kernel_rfl) (by kernel_rfl) (by kernel_rfl) (by kernel_rfl) (fun _ _ _ h => h) (Or.inl ⟨by rfl, ?_⟩) hS ?_
      rotate_left
      · (intro wS hSw; obtain ⟨_, _, _, _, _, _, _, _, _, _, _⟩ := hSw; go_simp; try with_reducible rfl)
      try simp only [Act.put, List.setIfInBounds_toArray, List.set_cons_zero, List.set_cons_succ]
      refine upto_take (i := 4) (d := some 72) (v := undef) rfl rfl (by kernel_rfl) (by kernel_rfl) (by kernel_rfl) (by kernel_rfl) (fun _ _ _ h => h) (Or.inr ⟨by rfl, rfl⟩) hS ?_
      try simp only [Act.put, List.setIfInBounds_toArray, List.set_cons_zero, List.set_cons_succ]
      refine upto_take (i := 5) (d := some 73) (v := undef) rfl rfl (by kernel_rfl) (by kernel_rfl) (by kernel_rfl) (by kernel_rfl) (fun _ _ _ h => h) (Or.inr ⟨by rfl, rfl⟩) hS ?_
      try simp only [Act.put, List.setIfInBounds_toArray, List.set_cons_zero, List.set_cons_succ]
      refine upto_take (i := 6) (d := some 74) (v := undef) rfl rfl (by kernel_rfl) (by kernel_rfl) (by kernel_rfl) (by kernel_rfl) (fun _ _ _ h => h) (Or.inr ⟨by rfl, rfl⟩) hS ?_
      try simp only [Act.put, List.setIfInBounds_toArray, List.set_cons_zero, List.set_cons_succ]
      refine upto_take (i := 7) (d := some 75) (v := undef) rfl rfl (by kernel_rfl) (by kernel_rfl) (by kernel_rfl) (by kernel_rfl) (fun _ _ _ h => h) (Or.inr ⟨by rfl, rfl⟩) hS ?_
      try simp only [Act.put, List.setIfInBounds_toArray, List.set_cons_zero, List.set_cons_succ]
      refine upto_take (i := 8) (d := some 76) (v := undef) rfl rfl (by kernel_rfl) (by kernel_rfl) (by kernel_rfl) (by kernel_rfl) (fun _ _ _ h => h) (Or.inr ⟨by rfl, rfl⟩) hS ?_
      try simp only [Act.put, List.setIfInBounds_toArray, List.set_cons_zero, List.set_cons_succ]
      refine upto_take (i := 9) (d := some 77) (v := undef) rfl rfl (by kernel_rfl) (by kernel_rfl) (by kernel_rfl) (by kernel_rfl) (fun _ _ _ h => h) (Or.inr ⟨by rfl, rfl⟩) hS ?_
      try simp only [Act.put, List.setIfInBounds_toArray, List.set_cons_zero, List.set_cons_succ]
      refine upto_take (i := 10) (d := some 78) (v := undef) rfl rfl (by kernel_rfl) (by kernel_rfl) (by kernel_rfl) (by kernel_rfl) (fun _ _ _ h => h) (Or.inr ⟨by rfl, rfl⟩) hS ?_
      try simp only [Act.put, List.setIfInBounds_toArray, List.set_cons_zero, List.set_cons_succ]
      refine upto_take (i := 11) (d := some 79) (v := undef) rfl rfl (by kernel_rfl) (by kernel_rfl) (by kernel_rfl) (by kernel_rfl) (fun _ _ _ h => h) (Or.inr ⟨by rfl, rfl⟩) hS ?_
      try simp only [Act.put, List.setIfInBounds_toArray, List.set_cons_zero, List.set_cons_succ]
      refine upto_take (i := 12) (d := some 80) (v := undef) rfl rfl (by kernel_rfl) (by kernel_rfl) (by kernel_rfl) (by kernel_rfl) (fun _ _ _ h => h) (Or.inr ⟨by rfl, rfl⟩) hS ?_
      try simp only [Act.put, List.setIfInBounds_toArray, List.set_cons_zero, List.set_cons_succ]
      refine upto_take (i := 13) (d := some 81) (v := undef) rfl rfl (by kernel_rfl) (by kernel_rfl) (by kernel_rfl) (by kernel_rfl) (fun _ _ _ h => h) (Or.inr ⟨by rfl, rfl⟩) hS ?_
      try simp only [Act.put, List.setIfInBounds_toArray, List.set_cons_zero, List.set_cons_succ]
      refine upto_take (i := 14) (d := some 82) (v := undef) rfl rfl (by kernel_rfl) (by kernel_rfl) (by kernel_rfl) (by kernel_rfl) (fun _ _ _ h => h) (Or.inr ⟨by rfl, rfl⟩) hS ?_
      try simp only [Act.put, List.setIfInBounds_toArray, List.set_cons_zero, List.set_cons_succ]
      refine upto_take (i := 15) (d := some 83) (v := undef) rfl rfl (by kernel_rfl) (by kernel_rfl) (by kernel_rfl) (by kernel_rfl) (fun _ _ _ h => h) (Or.inr ⟨by rfl, rfl⟩) hS ?_
      try simp only [Act.put, List.setIfInBounds_toArray, List.set_cons_zero, List.set_cons_succ]
      refine upto_take (i := 16) (d := some 84) (v := undef) rfl rfl (by kernel_rfl) (by kernel_rfl) (by kernel_rfl) (by kernel_rfl) (fun _ _ _ h => h) (Or.inr ⟨by rfl, rfl⟩) hS ?_
      try simp only [Act.put, List.setIfInBounds_toArray, List.set_cons_zero, List.set_cons_succ]
      clear hS
      refine upto_one (i := 17) (by kernel_rfl) rfl (fun K hK => ?_)
      go_simp
      have hS := HS0.out
      refine hK.out _ _ (.inr hS) ?_
      clear hK K
      clear hS
      refine upto_one (i := 18) (by kernel_rfl) rfl (fun K hK => ?_)
      go_simp
      have hS := HS0.out
      refine hK.out _ _ (.inr hS) ?_
      clear hK K
      refine upto_take (i := 19) (d := some 87) (v := ?_) rfl rfl (by kernel_rfl) (by kernel_rfl) (by kernel_rfl) (by kernel_rfl) (fun _ _ _ h => h) (Or.inl ⟨by rfl, ?_⟩) hS ?_
      rotate_left
      · (intro wS hSw; obtain ⟨_, _, _, _, _, _, _, _, _, _, _⟩ := hSw; go_simp; try with_reducible rfl)
      try simp only [Act.put, List.setIfInBounds_toArray, List.set_cons_zero, List.set_cons_succ]
      refine upto_take (i := 20) (d := some 88) (v := ?_) rfl rfl (by kernel_rfl) (by kernel_rfl) (by kernel_rfl) (by kernel_rfl) (fun _ _ _ h => h) (Or.inl ⟨by rfl, ?_⟩) hS ?_
      rotate_left
      · (intro wS hSw; obtain ⟨_, _, _, _, _, _, _, _, _, _, _⟩ := hSw; go_simp; try with_reducible rfl)
      try simp only [Act.put, List.setIfInBounds_toArray, List.set_cons_zero, List.set_cons_succ]
      refine upto_take (i := 21) (d := some 89) (v := ?_) rfl rfl (by kernel_rfl) (by kernel_rfl) (by kernel_rfl) (by kernel_rfl) (fun _ _ _ h => h) (Or.inl ⟨by rfl, ?_⟩) hS ?_
      rotate_left
      · (intro wS hSw; obtain ⟨_, _, _, _, _, _, _, _, _, _, _⟩ := hSw; go_simp; try with_reducible rfl)
      try simp only [Act.put, List.setIfInBounds_toArray, List.set_cons_zero, List.set_cons_succ]
      refine upto_take (i := 22) (d := some 90) (v := ?_) rfl rfl (by kernel_rfl) (by kernel_rfl) (by kernel_rfl) (by kernel_rfl) (fun _ _ _ h => h) (Or.inl ⟨by rfl, ?_⟩) hS ?_
      rotate_left
      · (intro wS hSw; obtain ⟨_, _, _, _, _, _, _, _, _, _, _⟩ := hSw; go_simp; try with_reducible rfl)
      try simp only [Act.put, List.setIfInBounds_toArray, List.set_cons_zero, List.set_cons_succ]
      refine upto_take (i := 23) (d := some 91) (v := ?_) rfl rfl (by kernel_rfl) (by kernel_rfl) (by kernel_rfl) (by kernel_rfl) (fun _ _ _ h => h) (Or.inl ⟨by rfl, ?_⟩) hS ?_
      rotate_left
      · (intro wS hSw; obtain ⟨_, _, _, _, _, _, _, _, _, _, _⟩ := hSw; go_simp; try with_reducible rfl)
      try simp only [Act.put, List.setIfInBounds_toArray, List.set_cons_zero, List.set_cons_succ]
      refine upto_take (i := 24) (d := some 92) (v := ?_) rfl rfl (by kernel_rfl) (by kernel_rfl) (by kernel_rfl) (by kernel_rfl) (fun _ _ _ h => h) (Or.inl ⟨by rfl, ?_⟩) hS ?_
      rotate_left
      · (intro wS hSw; obtain ⟨_, _, _, _, _, _, _, _, _, _, _⟩ := hSw; go_simp; try with_reducible rfl)
      try simp only [Act.put, List.setIfInBounds_toArray, List.set_cons_zero, List.set_cons_succ]
      refine upto_take (i := 25) (d := some 93) (v := ?_) rfl rfl (by kernel_rfl) (by kernel_rfl) (by kernel_rfl) (by kernel_rfl) (fun _ _ _ h => h) (Or.inl ⟨by rfl, ?_⟩) hS ?_
      rotate_left
      · (intro wS hSw; obtain ⟨_, _, _, _, _, _, _, _, _, _, _⟩ := hSw; go_simp; try with_reducible rfl)
      try simp only [Act.put, List.setIfInBounds_toArray, List.set_cons_zero, List.set_cons_succ]
      clear hS
      refine upto_one (i := 26) (by kernel_rfl) rfl (fun K hK => ?_)
      go_simp
      refine (specSame_any B x.f.data zeroForm _ _ u (by omega) (InV.later (same_below (HBU.out.mono hB)) _ _ HD.out) (zeroIn _ _)).mono ?_
      rintro e w2 ⟨rfl, hb2⟩
      have hs2 := hb2.size
      have HB2 : Hid (Below w.heap.size w w2) := HBU.out.trans (hb2.mono (by omega))
      have HS2 : Hid (CoreBox w2 w.heap.size x) := HS0.out.later hb2
      have hS := HS2.out
      refine hK.out _ _ (.inr hS) ?_
      clear hK K
      clear hb2
      cases h1 : sameB x.f.data zeroForm with
      | false =>
        have HC : Hid (c4 = true) := by refine Lib.hid ?_; rw [HC4.out, fld4, if_neg HK.out, h1]; rfl
        clear hS
        refine upto_one (i := 27) (by kernel_rfl) rfl (fun K hK => ?_)
        go_simp
        have hS := HS2.out
        refine hK.out _ _ (.inr hS) ?_
        clear hK K
        clear hS
        refine upto_one (i := 28) (by kernel_rfl) rfl (fun K hK => ?_)
        go_simp
        have hS := HS2.out
        refine hK.out _ _ (.inr hS) ?_
        clear hK K
        clear hS
        refine upto_one (i := 29) (by kernel_rfl) rfl (fun K hK => ?_)
        go_simp
        have hS := HS2.out
        refine hK.out _ _ (.inr hS) ?_
        clear hK K
        clear hS
        refine upto_done (by kernel_rfl) ?_ _
        apply hK0
        clear hK0
        go_meet
        exact ⟨by rw [HC.out], HB2.out, HS2.out⟩
      | true =>
        have HC : Hid (c4 = false) := by refine Lib.hid ?_; rw [HC4.out, fld4, if_neg HK.out, h1]; rfl
        clear hS
        refine upto_one (i := 27) (by kernel_rfl) rfl (fun K hK => ?_)
        go_simp
        have hS := HS2.out
        refine hK.out _ _ (.inr hS) ?_
        clear hK K
        clear hS
        refine upto_one (i := 28) (by kernel_rfl) rfl (fun K hK => ?_)
        go_simp
        have hS := HS2.out
        refine hK.out _ _ (.inr hS) ?_
        clear hK K
        clear hS
        refine upto_one (i := 29) (by kernel_rfl) rfl (fun K hK => ?_)
        go_simp
        have hS := HS2.out
        refine hK.out _ _ (.inr hS) ?_
        clear hK K
        clear hS
        refine upto_done (by kernel_rfl) ?_ _
        apply hK0
        clear hK0
        go_meet
        exact ⟨by rw [HC.out], HB2.out, HS2.out⟩
  case rest =>
  obtain ⟨rfl, hb7, hx7⟩ := hcut
  have HB7 := Lib.hid hb7
  obtain ⟨x0, x1, x2, x3, x4, x5, x6, x7, x8, x9, x10⟩ := hx7
  clear hb7
  cases hcc : c4 with
  | true =>
    have HE : Hid (fieldsB x.f = false) := by 
      have h : fld4 x.f = false := by
        cases hf : fld4 x.f with
        | false => rfl
        | true => rw [HC4.out, hf] at hcc; exact absurd hcc (by decide)
      refine Lib.hid ?_
      rw [fieldsB, h]; simp
    clear hcc
    go_wp2_with fail
    go_ret
    exact ⟨ret_bool HE.out.symm, HB7.out⟩
  | false =>
  have HF4 : Hid (fld4 x.f = true) := by
    refine Lib.hid ?_
    cases hf : fld4 x.f with
    | true => rfl
    | false => rw [HC4.out, hf] at hcc; exact absurd hcc (by decide)
  clear hcc HC4
  have HE : Hid (fieldsB x.f = fld5 x.f) := by refine Lib.hid ?_; rw [fieldsB, HF1.out, HF2.out, HF3.out, HF4.out]; rfl
  by_cases hk : x.f.kind = 5
  · have hkb : (x.f.kind == 5) = true := by simp [hk]
    have HF : Hid (fieldsB x.f = true) := by refine Lib.hid ?_; rw [HE.out, fld5, if_pos hk]
    clear hk
    go_wp2_with fail
    go_ret
    exact ⟨ret_bool HF.out.symm, HB7.out⟩
  · have hkb : (x.f.kind == 5) = false := by simp [hk]
    have hlb : ((x.f.ids.length : Int) == 0) = (x.f.ids.length == 0) := by rw [Bool.eq_iff_iff, beq_iff_eq, beq_iff_eq]; omega
    have HF : Hid (fieldsB x.f = (x.f.ids.length == 0)) := by refine Lib.hid ?_; rw [HE.out, fld5, if_neg hk]
    have HL := Lib.hid hlb
    clear hk hlb
    go_wp2_with fail
    go_ret
    refine ⟨ret_bool ?_, HB7.out⟩
    rw [HF.out]
    first | exact HL.out | simp
end
end Go.Proofs.Ytbclgmabidjegaa.CoreT
namespace Go.Proofs.Ytbclgmabidjegaa.CoreT
section
open Go.RowKit
set_option linter.unusedVariables false
set_option linter.unusedSimpArgs false
theorem coreB_succ (d : Nat) (sc : List Int) (x : Ck) : coreB (d + 1) sc x = (kidsB x.kind x.kids.length && (fieldsB x && ((if x.kind = 1 then sc.any fun z => z == x.id else true) && (idsB sc x.ids && coreAll d (sc ++ x.ids) x.kids)))) := by
  cases x
  rw [coreB]
  rfl
theorem coreB_zero (sc : List Int) (x : Ck) : coreB 0 sc x = false := by cases x; rw [coreB]
theorem inC_idsIn {φ : Nat → Prop} {w : World} {x : CItem} (h : InC φ w x.f x.val) : IntRow φ w (.slice x.i1 x.f.ids.length x.j1) x.f.ids := by
  rw [CItem.val_eq] at h
  exact (InC.parts h).2.2.2.2.1
theorem inC_kidsIn {φ : Nat → Prop} {w : World} {x : CItem} (h : InC φ w x.f x.val) : CoresIn φ w x.a x.cap x.f.kids := by
  rw [CItem.val_eq] at h
  exact (InC.parts h).2.2.2.2.2.2
set_option maxRecDepth 100000 in
set_option maxHeartbeats 16000000 in
theorem l6Is_any : ∀ (d : Nat) (B : Nat) (x : CItem) (sc : List Int) (sv : Value) (w : World), d ≤ 1000 → B ≤ w.heap.size → InC (· < B) w x.f x.val → IntRow (· < B) w sv sc → sc.length + x.f.sz ≤ 1048576 →
    Calls Try.prog 66 #[x.val, sv, .int .i64 (d : Int)] w fun e w' => e = .returned (.bool (coreB d sc x.f)) ∧ Below w.heap.size w w' := by
  intro d
  induction d with
  | zero =>
    intro B x sc sv w hd hB hv hsv hsz
    obtain ⟨sa, scap, rfl, _⟩ := hsv
    have HE := Lib.hid (coreB_zero sc x.f)
    rw [CItem.val_eq]
    clear hv
    go_enter Try.func66, Try.ntmps66
    go_wp2_with fail
    go_ret
    exact ⟨ret_bool HE.out.symm, below_alloc w _⟩
  | succ d ih =>
    intro B x sc sv w hd hB hv hsv hsz
    have HIH := Lib.hid ih
    have HSV := Lib.hid hsv
    have HV := Lib.hid hv
    have HIDS := Lib.hid (inC_idsIn hv)
    have HKIDS := Lib.hid (inC_kidsIn hv)
    have HE := Lib.hid (coreB_succ d sc x.f)
    have hszx := x.f.sz_eq
    have hdz : x.f.data.sz ≤ 1048576 := by omega
    obtain ⟨sa, scap, rfl, _⟩ := hsv
    obtain ⟨i0, hi0, hz0, hz1, hz2⟩ := info_parts Try.infoInt
    have hdb : ((d : Int) + 1 == 0) = false := by rw [beq_eq_false_iff_ne]; omega
    rw [CItem.val_eq]
    obtain ⟨w0, hw0⟩ : ∃ w0, w0 = w.alloc (.cells #[.int .i64 x.f.kind, .int .i64 x.f.id, .string x.f.name, .int .i64 x.f.n, .slice x.i1 x.f.ids.length x.j1, .int .i64 x.f.data.kind, .string x.f.data.name, .int .i64 x.f.data.n, .slice x.s1 x.f.data.scopes.length x.t1, .slice x.k1 x.f.data.kids.length x.l1, .slice x.a x.f.kids.length x.cap] 36) := ⟨_, rfl⟩
    have HB0 : Hid (Below w.heap.size w w0) := by rw [hw0]; exact below_alloc w _
    have HX0 : Hid (CoreBox w0 w.heap.size x) := by rw [hw0]; exact CoreBox.fresh w x _
    have hs0 : w.heap.size + 1 ≤ w0.heap.size := by rw [hw0]; simp
    have HW0 := Lib.hid hw0
    clear hw0 hv ih
    go_enter Try.func66, Try.ntmps66
    go_upto_region 1 with fail
    rw [← HW0.out]
    clear HW0
    obtain ⟨x0, x1, x2, x3, x4, x5, x6, x7, x8, x9, x10⟩ := HX0.out
    obtain ⟨c, hc⟩ : ∃ c, c = !(kidsB x.f.kind x.f.kids.length && (fieldsB x.f && (if x.f.kind = 1 then hasB sc x.f.id else true))) := ⟨_, rfl⟩
    have HC := Lib.hid hc
    clear hc
    go_cut [37] from 10 (fun s wx => s = .bool c ∧ Below w.heap.size w wx ∧ CoreBox wx w.heap.size x)
    case first =>
      go_wp2_with fail
      refine (l6Kids_any x.f.kind x.f.kids.length w0).mono ?_
      rintro e w1 ⟨rfl, rfl⟩
      cases h1 : kidsB x.f.kind x.f.kids.length with
      | false =>
        have HR : Hid (c = true) := by refine Lib.hid ?_; rw [HC.out, h1]; rfl
        clear h1
        go_wp2_with fail
        go_meet
        exact ⟨by rw [HR.out], HB0.out, HX0.out⟩
      | true =>
      have H1 := Lib.hid h1
      clear h1
      go_wp2_with fail
      refine (l6Fields_any B x w0 (by omega) (InC.later (same_below (HB0.out.mono hB)) _ _ HV.out) hdz).mono ?_
      rintro e w1 ⟨rfl, hb1⟩
      have hw1 : w0.heap.size ≤ w1.heap.size := hb1.size
      have HB1 : Hid (Below w.heap.size w w1) := HB0.out.trans (hb1.mono (by omega))
      have HX1 : Hid (CoreBox w1 w.heap.size x) := HX0.out.later hb1
      clear hb1 x0 x1 x2 x3 x4 x5 x6 x7 x8 x9 x10
      obtain ⟨x0, x1, x2, x3, x4, x5, x6, x7, x8, x9, x10⟩ := HX1.out
      cases h2 : fieldsB x.f with
      | false =>
        have HR : Hid (c = true) := by refine Lib.hid ?_; rw [HC.out, H1.out, h2]; rfl
        clear h2
        go_wp2_with fail
        go_meet
        exact ⟨by first | (rw [HR.out]; done) | (rw [HR.out, hdb]; done) | (rw [HR.out, hdb]; rfl), HB1.out, HX1.out⟩
      | true =>
      have H2 := Lib.hid h2
      clear h2
      by_cases hk : x.f.kind = 1
      · have hkb : (x.f.kind == 1) = true := by simp [hk]
        have HR : Hid (c = !hasB sc x.f.id) := by refine Lib.hid ?_; rw [HC.out, H1.out, H2.out, if_pos hk]; rfl
        clear hk
        go_wp2_with fail
        refine (l2Has_any (· < B) sc _ x.f.id w1 (HSV.out.later (same_below (HB1.out.mono hB)))).mono ?_
        rintro e w2 ⟨rfl, rfl⟩
        go_wp2_with fail
        go_meet
        exact ⟨by first | (rw [HR.out]; done) | (rw [HR.out, hdb]; done) | (rw [HR.out, hdb]; rfl), HB1.out, HX1.out⟩
      · have hkb : (x.f.kind == 1) = false := by simp [hk]
        have HR : Hid (c = false) := by refine Lib.hid ?_; rw [HC.out, H1.out, H2.out, if_neg hk]; rfl
        clear hk
        go_wp2_with fail
        go_meet
        exact ⟨by first | (rw [HR.out]; done) | (rw [HR.out, hdb]; done) | (rw [HR.out, hdb]; rfl), HB1.out, HX1.out⟩
    case rest =>
    obtain ⟨rfl, hb1, hx1⟩ := hcut
    have HB1 := Lib.hid hb1
    have HX1 := Lib.hid hx1
    clear hb1 hx1 x0 x1 x2 x3 x4 x5 x6 x7 x8 x9 x10 HB0 HX0
    cases hcc : c with
    | true =>
      have HR : Hid (coreB (d + 1) sc x.f = false) := by
        refine Lib.hid ?_
        have h := HC.out
        rw [hcc] at h
        rw [HE.out, Bool.eq_false_iff]
        intro hh
        simp only [Bool.and_eq_true] at hh
        obtain ⟨h1, h2, h3, h4, h5⟩ := hh
        rw [h1, h2] at h
        unfold hasB at h
        rw [h3] at h
        exact absurd h (by decide)
      clear hcc
      go_wp2_with fail
      go_ret
      exact ⟨ret_bool HR.out.symm, HB1.out⟩
    | false =>
    have HR : Hid (coreB (d + 1) sc x.f = (idsB sc x.f.ids && coreAll d (sc ++ x.f.ids) x.f.kids)) := by
      refine Lib.hid ?_
      have h := HC.out
      rw [hcc, eq_comm, Bool.not_eq_false', Bool.and_eq_true, Bool.and_eq_true] at h
      obtain ⟨h1, h2, h3⟩ := h
      rw [HE.out, h1, h2]
      unfold hasB at h3
      rw [h3]
      rfl
    clear hcc HE HC
    go_wp2_with fail
    go_loopw [7, 8] (fun o i wr => ∃ j : Nat, j ≤ x.f.ids.length ∧ i = .int .i64 j ∧ IntRow (· < wr.heap.size) wr o (sc ++ x.f.ids.take j) ∧ idsB sc x.f.ids = idsB (sc ++ x.f.ids.take j) (x.f.ids.drop j) ∧ Below w.heap.size w wr ∧ CoreBox wr w.heap.size x) (fun _ i _ => x.f.ids.length - (intOf i).toNat)
    case atStart =>
      exact ⟨0, Nat.zero_le _, rfl, by rw [List.take_zero, List.append_nil]; exact IntRow.mono (fun k (hk : k < B) => by have := HB1.out.size; omega) (HSV.out.later (same_below (HB1.out.mono hB))), by rw [List.take_zero, List.append_nil, List.drop_zero], HB1.out, HX1.out⟩
    case round =>
      obtain ⟨j, hj, rfl, ho, hidb, hb, hx⟩ := hrel
      have HO := Lib.hid ho
      have HIDB := Lib.hid hidb
      have HB := Lib.hid hb
      have HX := Lib.hid hx
      obtain ⟨oa, ocap, rfl, _⟩ := ho
      have hsr : w.heap.size ≤ wr.heap.size := hb.size
      clear hidb hb hx HB1 HX1
      obtain ⟨x0, x1, x2, x3, x4, x5, x6, x7, x8, x9, x10⟩ := HX.out
      by_cases hlt : j < x.f.ids.length
      · have hIR := HIDS.out.later (same_below (HB.out.mono hB))
        obtain ⟨_, _, e0, _, _, _, hrow⟩ := hIR
        injection e0 with e1 _ e3
        subst e1 e3
        rcases hrow with h0 | ⟨ib, ioff, hib, hibB, hcells⟩
        · exfalso; rw [h0] at hlt; simp at hlt
        have hcj := hcells j hlt
        have HCJ := Lib.hid hcj
        clear hcells
        rw [hib] at x4
        have HIBE := Lib.hid hib
        clear hib
        obtain ⟨s1, hs1⟩ : ∃ s1, s1 = sc ++ x.f.ids.take j := ⟨_, rfl⟩
        have HST : Hid (idsB sc x.f.ids = (decide (1 ≤ x.f.ids[j]) && (decide (x.f.ids[j] ≤ 999) && (!(hasB s1 x.f.ids[j]) && idsB (sc ++ x.f.ids.take (j + 1)) (x.f.ids.drop (j + 1)))))) := by
          refine Lib.hid ?_
          rw [HIDB.out, List.drop_eq_getElem_cons hlt, idsB, List.take_succ_eq_append_getElem hlt, hs1, ← List.append_assoc]
          rfl
        have hs1l : s1.length ≤ 1048575 := by rw [hs1, List.length_append, List.length_take]; omega
        have HS1 := Lib.hid hs1
        rw [← hs1] at HO ⊢
        clear hs1 HIDB
        obtain ⟨y, hy⟩ : ∃ y, y = x.f.ids[j] := ⟨_, rfl⟩
        have HY := Lib.hid hy
        rw [← hy] at HST hcj HCJ
        clear hy
        cases hlo : decide (y < 1) with
        | true =>
          have HF : Hid (coreB (d + 1) sc x.f = false) := by refine Lib.hid ?_; have h := of_decide_eq_true hlo; rw [HR.out, HST.out, decide_eq_false (show ¬ 1 ≤ y by omega)]; rfl
          go_wp2_with fail
          go_ret
          exact ⟨ret_bool HF.out.symm, HB.out⟩
        | false =>
        have hlo' := of_decide_eq_false hlo
        cases hhi : decide (y > 999) with
        | true =>
          have HF : Hid (coreB (d + 1) sc x.f = false) := by refine Lib.hid ?_; have h := of_decide_eq_true hhi; rw [HR.out, HST.out, decide_eq_false (show ¬ y ≤ 999 by omega)]; simp
          go_wp2_with fail
          go_ret
          exact ⟨ret_bool HF.out.symm, HB.out⟩
        | false =>
        have hhi' := of_decide_eq_false hhi
        have HST2 : Hid (idsB sc x.f.ids = (!(hasB s1 y) && idsB (sc ++ x.f.ids.take (j + 1)) (x.f.ids.drop (j + 1)))) := by
          refine Lib.hid ?_
          rw [HST.out, decide_eq_true (show 1 ≤ y by omega), decide_eq_true (show y ≤ 999 by omega)]; rfl
        clear HST
        go_wp2_with fail
        refine (l2Has_any (· < wr.heap.size) s1 _ y wr HO.out).mono ?_
        rintro e w2 ⟨rfl, hw2⟩
        obtain rfl := hw2.symm
        clear hw2
        cases hh : hasB s1 y with
        | true =>
          have HF : Hid (coreB (d + 1) sc x.f = false) := by refine Lib.hid ?_; rw [HR.out, HST2.out, hh]; rfl
          clear hh
          go_wp2_with fail
          go_ret
          exact ⟨ret_bool HF.out.symm, HB.out⟩
        | false =>
        have HST3 : Hid (idsB sc x.f.ids = idsB (sc ++ x.f.ids.take (j + 1)) (x.f.ids.drop (j + 1))) := by refine Lib.hid ?_; rw [HST2.out, hh]; rfl
        clear hh HST2
        go_wp2_with fail
        refine upto_begin (fun W => CoreBox W w.heap.size x ∧ W.cell? ⟨ib, ioff + j, none⟩ = some (.int .i64 y)) 10 (by kernel_rfl) ?_
        obtain ⟨u, hu⟩ : ∃ u, u = wr.drew := ⟨_, rfl⟩
        rw [← hu]
        have hbu : Below wr.heap.size wr u := by rw [hu]; exact (Below.refl _ _).drew
        have hsu : wr.heap.size ≤ u.heap.size := hbu.size
        have hS' : CoreBox u w.heap.size x ∧ u.cell? ⟨ib, ioff + j, none⟩ = some (.int .i64 y) := ⟨HX.out.later hbu, cell_later' hbu HCJ.out⟩
        have hS := hS'
        have HO2 := Lib.hid (HO.out.later (same_below hbu))
        have HBu : Hid (Below w.heap.size w u) := HB.out.trans (hbu.mono (by omega))
        have hib2 : ib < w.heap.size := by omega
        have hwl : w.heap.size < wr.heap.size := HX.out.lt
        have HL : Hid (sc ++ x.f.ids.take (j + 1) = s1 ++ [y]) := by refine Lib.hid ?_; rw [List.take_succ_eq_append_getElem hlt, HS1.out, HY.out, List.append_assoc]
        have HBD : Hid (∀ n ∈ s1 ++ [y], -9223372036854775808 ≤ n ∧ n ≤ 9223372036854775807) := by
          refine Lib.hid fun n hn => ?_
          rcases List.mem_append.1 hn with hn | hn
          · obtain ⟨_, _, _, _, _, hbd, _⟩ := HO.out
            exact hbd n hn
          · obtain rfl := List.mem_singleton.1 hn
            omega
        have hL1 : s1.length + 1 ≤ maxLen := by unfold maxLen; omega
        have hL2 : (s1.length + 1) * 8 ≤ 140737488355328 := by omega
        clear hu hbu x0 x1 x2 x3 x4 x5 x6 x7 x8 x9 x10 hcj
        refine upto_take (i := 1) (d := some 70) (v := ?_) rfl rfl (by kernel_rfl) (by kernel_rfl) (by kernel_rfl) (by kernel_rfl) (fun _ _ _ h => h) (Or.inl ⟨by rfl, ?_⟩) hS ?_
        rotate_left
        · (intro wS hSw; obtain ⟨⟨_, _, _, _, y4, _, _, _, _, _, _⟩, _⟩ := hSw; rw [HIBE.out] at y4; go_simp; try with_reducible rfl)
        try simp only [Act.put, List.setIfInBounds_toArray, List.set_cons_zero, List.set_cons_succ]
        refine upto_take (i := 3) (d := some 72) (v := ?_) rfl rfl (by kernel_rfl) (by kernel_rfl) (by kernel_rfl) (by kernel_rfl) (fun _ _ _ h => h) (Or.inl ⟨by rfl, ?_⟩) hS ?_
        rotate_left
        · (intro wS hSw; obtain ⟨⟨_, _, _, _, y4, _, _, _, _, _, _⟩, _⟩ := hSw; rw [HIBE.out] at y4; go_simp; try with_reducible rfl)
        try simp only [Act.put, List.setIfInBounds_toArray, List.set_cons_zero, List.set_cons_succ]
        refine upto_take (i := 4) (d := some 73) (v := ?_) rfl rfl (by kernel_rfl) (by kernel_rfl) (by kernel_rfl) (by kernel_rfl) (fun _ _ _ h => h) (Or.inl ⟨by rfl, ?_⟩) hS ?_
        rotate_left
        · (intro wS hSw; obtain ⟨⟨_, _, _, _, y4, _, _, _, _, _, _⟩, _⟩ := hSw; rw [HIBE.out] at y4; go_simp; try with_reducible rfl)
        try simp only [Act.put, List.setIfInBounds_toArray, List.set_cons_zero, List.set_cons_succ]
        refine upto_take (i := 5) (d := some 74) (v := ?_) rfl rfl (by kernel_rfl) (by kernel_rfl) (by kernel_rfl) (by kernel_rfl) (fun _ _ _ h => h) (Or.inl ⟨by rfl, ?_⟩) hS ?_
        rotate_left
        · (intro wS hSw; obtain ⟨⟨_, _, _, _, y4, _, _, _, _, _, _⟩, _⟩ := hSw; rw [HIBE.out] at y4; go_simp; try with_reducible rfl)
        try simp only [Act.put, List.setIfInBounds_toArray, List.set_cons_zero, List.set_cons_succ]
        refine upto_take (i := 6) (d := some 75) (v := ?_) rfl rfl (by kernel_rfl) (by kernel_rfl) (by kernel_rfl) (by kernel_rfl) (fun _ _ _ h => h) (Or.inl ⟨by rfl, ?_⟩) hS ?_
        rotate_left
        · (intro wS hSw; obtain ⟨⟨_, _, _, _, y4, _, _, _, _, _, _⟩, _⟩ := hSw; rw [HIBE.out] at y4; go_simp; try with_reducible rfl)
        try simp only [Act.put, List.setIfInBounds_toArray, List.set_cons_zero, List.set_cons_succ]
        refine upto_take (i := 7) (d := some 76) (v := ?_) rfl rfl (by kernel_rfl) (by kernel_rfl) (by kernel_rfl) (by kernel_rfl) (fun _ _ _ h => h) (Or.inl ⟨by rfl, ?_⟩) hS ?_
        rotate_left
        · (intro wS hSw; obtain ⟨⟨_, _, _, _, y4, _, _, _, _, _, _⟩, _⟩ := hSw; rw [HIBE.out] at y4; go_simp; try with_reducible rfl)
        try simp only [Act.put, List.setIfInBounds_toArray, List.set_cons_zero, List.set_cons_succ]
        refine upto_two (i := 0) (j := 8) (by kernel_rfl) rfl rfl (fun K hK => ?_) (fun K hK => ?_)
        · go_simp
          have hbe : Below u.heap.size u (u.alloc (Obj.cells #[] 3)) := (below_alloc u _)
          have hown : World.ownsRow (u.alloc (Obj.cells #[] 3)) u.heap.size 3 1 (.slice (some ⟨u.heap.size, 0, none⟩) 0 0) 0 [] :=
            (World.ownsRow_lit (base := u.heap.size) (e := 3) (size := 1) u #[] 0 (Nat.le_refl _) (by unfold maxLen; omega) (by simp))
          have hS1 : CoreBox (u.alloc (Obj.cells #[] 3)) w.heap.size x ∧ (u.alloc (Obj.cells #[] 3)).cell? ⟨ib, ioff + j, none⟩ = some (.int .i64 y) := ⟨hS.1.later hbe, cell_later' hbe hS.2⟩
          refine hK.out _ _ (.inr hS1) ?_
          clear hK K
          refine upto_two (i := 2) (j := 8) (by kernel_rfl) rfl rfl (fun K hK => ?_) (fun K hK => ?_)
          · rw [if_pos (show Region.wanted _ _ = true by simp [Region.wanted])]
            refine wp_append_ints2 (.tmp 69) (.tmp 70) 22 3 rfl i0 Try.underlying22 hi0 hz0 hz1 hz2 u.heap.size (u.heap.size) s1 oa ocap (· < wr.heap.size) (by rfl) (by rfl) (HO2.out.later (same_below (B := wr.heap.size) (hbe.mono (by omega)))) (by omega) (hown) (by first | omega | (simp; done) | (simp; omega)) ?_
            intro sa2 scap2 w5 hg5 hi5 hq5
            have hb5 : Below u.heap.size u w5 := hbe.grown hg5 (by first | omega | (simp; done) | (simp; omega)) (fun k hk => by have h2 : some (u.heap.size) = some k := hk; injection h2 with h2; omega)
            have hsz5 := hb5.size
            have hS5 : CoreBox w5 w.heap.size x ∧ w5.cell? ⟨ib, ioff + j, none⟩ = some (.int .i64 y) := ⟨hS.1.later (hb5.mono (by omega)), cell_later' hb5 hS.2⟩
            have HQ5 := Lib.hid hq5.2
            have HO5 := Lib.hid hq5.1
            have HG5 := Lib.hid hg5
            refine hK.out _ _ (.inr hS5) ?_
            clear hK K hi5 hq5 hg5
            refine upto_one (i := 8) (by kernel_rfl) rfl (fun K hK => ?_)
            go_simp
            have hb6 : Below u.heap.size u (w5.alloc (Obj.cells #[.int .i64 y] 3)) := hb5.alloc hsz5 _
            have hS6 : CoreBox (w5.alloc (Obj.cells #[.int .i64 y] 3)) w.heap.size x ∧ (w5.alloc (Obj.cells #[.int .i64 y] 3)).cell? ⟨ib, ioff + j, none⟩ = some (.int .i64 y) := ⟨hS.1.later hb6, cell_later' hb6 hS.2⟩
            refine hK.out _ _ (.inr hS6) ?_
            clear hK K
            refine upto_oper (i := 9) ⟨some 78, .call { callee := .builtin .append, args := #[.tmp 71, .tmp 77], argTypes := #[22, 22] }, 22, _, _, _⟩ (by kernel_rfl) rfl rfl (fun K hK => ?_)
            refine wp_append_lies _ (.tmp 71) (.tmp 77) 22 rfl u.heap.size 3 i0 _ 1 8 Try.underlying22 hi0 hz0 hz1 hz2 rfl (by omega) _ s1.length (s1.map (Value.int .i64)) (by rfl) (HO5.out.alloc _) ⟨w5.heap.size, 0, none⟩ 1 1 [.int .i64 y] (by rfl) (by rfl) (World.news_of_block (cs := #[.int .i64 y]) (t := 3) (fr := (0, 0)) (heap_alloc_new w5 _)) (by simp [Value.oneCell']) (by omega) hL1 hL2 (by first | omega | (simp; omega)) (w5.heap.size + 1) (by simp) ?_
            intro gq qd w7 hown7 hgrow7 hat7 hlt7
            have hb7 : Below u.heap.size u w7 := (hb6).grown hgrow7 (by first | omega | (simp; omega)) (fun k hk => by have h2 := HQ5.out k hk; first | omega | (simp at h2; omega))
            have hS7 : CoreBox w7 w.heap.size x ∧ w7.cell? ⟨ib, ioff + j, none⟩ = some (.int .i64 y) := ⟨hS.1.later hb7, cell_later' hb7 hS.2⟩
            refine hK.out _ _ (.inr hS7) ?_
            clear hK K
            refine upto_one (i := 10) (by kernel_rfl) rfl (fun K hK => ?_)
            go_simp
            refine hK.out _ _ (.inl rfl) ?_
            clear hK K
            refine upto_done (by kernel_rfl) ?_ _
            have HN : Hid (IntRow (· < w7.heap.size) w7 (.slice (some ⟨gq, 0, none⟩) (s1.length + 1) qd) (sc ++ x.f.ids.take (j + 1))) := by
              refine Lib.hid ?_
              rw [HL.out]
              exact IntRow.mono (fun k hk => hk.2) (ownsRow_intRow (l := s1 ++ [y]) (by simpa using hown7) HBD.out)
            have HB7 : Hid (Below w.heap.size w w7) := HBu.out.trans (hb7.mono (by omega))
            have HX7 := Lib.hid hS7.1
            clear hown7 hgrow7 hat7 hlt7 hb7 hS7 hS hS5 hb5 HO5 HG5 HQ5
            go_wp2_with fail
            go_roundw
            case rel => exact ⟨j + 1, by omega, by go_num, HN.out, HST3.out, HB7.out, HX7.out⟩
            case measure => simp [intOf]; omega
          · go_simp
            have hbe2 : Below u.heap.size u ((u.alloc (Obj.cells #[] 3)).alloc (Obj.cells #[.int .i64 y] 3)) := ((below_alloc u _).alloc (by simp) _)
            have hS2 : CoreBox ((u.alloc (Obj.cells #[] 3)).alloc (Obj.cells #[.int .i64 y] 3)) w.heap.size x ∧ ((u.alloc (Obj.cells #[] 3)).alloc (Obj.cells #[.int .i64 y] 3)).cell? ⟨ib, ioff + j, none⟩ = some (.int .i64 y) := ⟨hS.1.later hbe2, cell_later' hbe2 hS.2⟩
            refine hK.out _ _ (.inr hS2) ?_
            clear hK K
            refine upto_one (i := 2) (by kernel_rfl) rfl (fun K hK => ?_)
            rw [if_pos (show Region.wanted _ _ = true by simp [Region.wanted])]
            refine wp_append_ints2 (.tmp 69) (.tmp 70) 22 3 rfl i0 Try.underlying22 hi0 hz0 hz1 hz2 u.heap.size (u.heap.size) s1 oa ocap (· < wr.heap.size) (by rfl) (by rfl) (HO2.out.later (same_below (B := wr.heap.size) (hbe2.mono (by omega)))) (by omega) (hown.alloc _) (by first | omega | (simp; done) | (simp; omega)) ?_
            intro sa2 scap2 w5 hg5 hi5 hq5
            have hb5 : Below u.heap.size u w5 := hbe2.grown hg5 (by first | omega | (simp; done) | (simp; omega)) (fun k hk => by have h2 : some (u.heap.size) = some k := hk; injection h2 with h2; omega)
            have hsz5 := hb5.size
            have hS5 : CoreBox w5 w.heap.size x ∧ w5.cell? ⟨ib, ioff + j, none⟩ = some (.int .i64 y) := ⟨hS.1.later (hb5.mono (by omega)), cell_later' hb5 hS.2⟩
            have HQ5 := Lib.hid hq5.2
            have HO5 := Lib.hid hq5.1
            have HG5 := Lib.hid hg5
            refine hK.out _ _ (.inr hS5) ?_
            clear hK K hi5 hq5 hg5
            have hob5 : w5.heap[u.heap.size + 1]? = some (.cells #[.int .i64 y] 3 (0, 0)) := by
              rw [HG5.out.block _ (by first | omega | (simp; done) | (simp; omega)) (by first | omega | (simp; done) | (simp; omega))]
              have := heap_alloc_new (u.alloc (Obj.cells #[] 3)) (Obj.cells #[.int .i64 y] 3)
              rw [size_alloc'] at this
              exact this
            have hsz6 : u.heap.size + 2 ≤ w5.heap.size := by have := HG5.out.size; simp at this; omega
            refine upto_oper (i := 9) ⟨some 78, .call { callee := .builtin .append, args := #[.tmp 71, .tmp 77], argTypes := #[22, 22] }, 22, _, _, _⟩ (by kernel_rfl) rfl rfl (fun K hK => ?_)
            refine wp_append_lies _ (.tmp 71) (.tmp 77) 22 rfl u.heap.size 3 i0 _ 1 8 Try.underlying22 hi0 hz0 hz1 hz2 rfl (by omega) _ s1.length (s1.map (Value.int .i64)) (by rfl) (HO5.out) ⟨u.heap.size + 1, 0, none⟩ 1 1 [.int .i64 y] (by rfl) (by rfl) (World.news_of_block (cs := #[.int .i64 y]) (t := 3) (fr := (0, 0)) hob5) (by simp [Value.oneCell']) (by omega) hL1 hL2 (by first | omega | (simp; omega)) (w5.heap.size) (by simp) ?_
            intro gq qd w7 hown7 hgrow7 hat7 hlt7
            have hb7 : Below u.heap.size u w7 := (hb5).grown hgrow7 (by first | omega | (simp; omega)) (fun k hk => by have h2 := HQ5.out k hk; first | omega | (simp at h2; omega))
            have hS7 : CoreBox w7 w.heap.size x ∧ w7.cell? ⟨ib, ioff + j, none⟩ = some (.int .i64 y) := ⟨hS.1.later hb7, cell_later' hb7 hS.2⟩
            refine hK.out _ _ (.inr hS7) ?_
            clear hK K
            refine upto_one (i := 10) (by kernel_rfl) rfl (fun K hK => ?_)
            go_simp
            refine hK.out _ _ (.inl rfl) ?_
            clear hK K
            refine upto_done (by kernel_rfl) ?_ _
            have HN : Hid (IntRow (· < w7.heap.size) w7 (.slice (some ⟨gq, 0, none⟩) (s1.length + 1) qd) (sc ++ x.f.ids.take (j + 1))) := by
              refine Lib.hid ?_
              rw [HL.out]
              exact IntRow.mono (fun k hk => hk.2) (ownsRow_intRow (l := s1 ++ [y]) (by simpa using hown7) HBD.out)
            have HB7 : Hid (Below w.heap.size w w7) := HBu.out.trans (hb7.mono (by omega))
            have HX7 := Lib.hid hS7.1
            clear hown7 hgrow7 hat7 hlt7 hb7 hS7 hS hS5 hb5 HO5 HG5 HQ5
            go_wp2_with fail
            go_roundw
            case rel => exact ⟨j + 1, by omega, by go_num, HN.out, HST3.out, HB7.out, HX7.out⟩
            case measure => simp [intOf]; omega
        · go_simp
          have hbe3 : Below u.heap.size u (u.alloc (Obj.cells #[.int .i64 y] 3)) := below_alloc u _
          have hS3 : CoreBox (u.alloc (Obj.cells #[.int .i64 y] 3)) w.heap.size x ∧ (u.alloc (Obj.cells #[.int .i64 y] 3)).cell? ⟨ib, ioff + j, none⟩ = some (.int .i64 y) := ⟨hS.1.later hbe3, cell_later' hbe3 hS.2⟩
          refine hK.out _ _ (.inr hS3) ?_
          clear hK K
          refine upto_one (i := 0) (by kernel_rfl) rfl (fun K hK => ?_)
          go_simp
          have hbe2 : Below u.heap.size u ((u.alloc (Obj.cells #[.int .i64 y] 3)).alloc (Obj.cells #[] 3)) := ((below_alloc u _).alloc (by simp) _)
          have hown : World.ownsRow ((u.alloc (Obj.cells #[.int .i64 y] 3)).alloc (Obj.cells #[] 3)) u.heap.size 3 1 (.slice (some ⟨u.heap.size + 1, 0, none⟩) 0 0) 0 [] := by
            have := (World.ownsRow_lit (base := u.heap.size) (e := 3) (size := 1) (u.alloc (Obj.cells #[.int .i64 y] 3)) #[] 0 (by simp) (by unfold maxLen; omega) (by simp))
            rw [size_alloc'] at this
            exact this
          have hS2 : CoreBox ((u.alloc (Obj.cells #[.int .i64 y] 3)).alloc (Obj.cells #[] 3)) w.heap.size x ∧ ((u.alloc (Obj.cells #[.int .i64 y] 3)).alloc (Obj.cells #[] 3)).cell? ⟨ib, ioff + j, none⟩ = some (.int .i64 y) := ⟨hS.1.later hbe2, cell_later' hbe2 hS.2⟩
          refine hK.out _ _ (.inr hS2) ?_
          clear hK K
          refine upto_one (i := 2) (by kernel_rfl) rfl (fun K hK => ?_)
          rw [if_pos (show Region.wanted _ _ = true by simp [Region.wanted])]
          refine wp_append_ints2 (.tmp 69) (.tmp 70) 22 3 rfl i0 Try.underlying22 hi0 hz0 hz1 hz2 u.heap.size (u.heap.size + 1) s1 oa ocap (· < wr.heap.size) (by rfl) (by rfl) (HO2.out.later (same_below (B := wr.heap.size) (hbe2.mono (by omega)))) (by omega) (hown) (by first | omega | (simp; done) | (simp; omega)) ?_
          intro sa2 scap2 w5 hg5 hi5 hq5
          have hb5 : Below u.heap.size u w5 := hbe2.grown hg5 (by first | omega | (simp; done) | (simp; omega)) (fun k hk => by have h2 : some (u.heap.size + 1) = some k := hk; injection h2 with h2; omega)
          have hsz5 := hb5.size
          have hS5 : CoreBox w5 w.heap.size x ∧ w5.cell? ⟨ib, ioff + j, none⟩ = some (.int .i64 y) := ⟨hS.1.later (hb5.mono (by omega)), cell_later' hb5 hS.2⟩
          have HQ5 := Lib.hid hq5.2
          have HO5 := Lib.hid hq5.1
          have HG5 := Lib.hid hg5
          refine hK.out _ _ (.inr hS5) ?_
          clear hK K hi5 hq5 hg5
          have hob5 : w5.heap[u.heap.size]? = some (.cells #[.int .i64 y] 3 (0, 0)) := by
            rw [HG5.out.block _ (by first | omega | (simp; done) | (simp; omega)) (by first | omega | (simp; done) | (simp; omega))]
            exact ((below_alloc (u.alloc (Obj.cells #[.int .i64 y] 3)) (Obj.cells #[] 3)).block u.heap.size (by simp)).trans (heap_alloc_new u _)
          have hsz6 : u.heap.size + 2 ≤ w5.heap.size := by have := HG5.out.size; simp at this; omega
          refine upto_oper (i := 9) ⟨some 78, .call { callee := .builtin .append, args := #[.tmp 71, .tmp 77], argTypes := #[22, 22] }, 22, _, _, _⟩ (by kernel_rfl) rfl rfl (fun K hK => ?_)
          refine wp_append_lies _ (.tmp 71) (.tmp 77) 22 rfl u.heap.size 3 i0 _ 1 8 Try.underlying22 hi0 hz0 hz1 hz2 rfl (by omega) _ s1.length (s1.map (Value.int .i64)) (by rfl) (HO5.out) ⟨u.heap.size, 0, none⟩ 1 1 [.int .i64 y] (by rfl) (by rfl) (World.news_of_block (cs := #[.int .i64 y]) (t := 3) (fr := (0, 0)) hob5) (by simp [Value.oneCell']) (by omega) hL1 hL2 (by first | omega | (simp; omega)) (w5.heap.size) (by simp) ?_
          intro gq qd w7 hown7 hgrow7 hat7 hlt7
          have hb7 : Below u.heap.size u w7 := (hb5).grown hgrow7 (by first | omega | (simp; omega)) (fun k hk => by have h2 := HQ5.out k hk; first | omega | (simp at h2; omega))
          have hS7 : CoreBox w7 w.heap.size x ∧ w7.cell? ⟨ib, ioff + j, none⟩ = some (.int .i64 y) := ⟨hS.1.later hb7, cell_later' hb7 hS.2⟩
          refine hK.out _ _ (.inr hS7) ?_
          clear hK K
          refine upto_one (i := 10) (by kernel_rfl) rfl (fun K hK => ?_)
          go_simp
          refine hK.out _ _ (.inl rfl) ?_
          clear hK K
          refine upto_done (by kernel_rfl) ?_ _
          have HN : Hid (IntRow (· < w7.heap.size) w7 (.slice (some ⟨gq, 0, none⟩) (s1.length + 1) qd) (sc ++ x.f.ids.take (j + 1))) := by
            refine Lib.hid ?_
            rw [HL.out]
            exact IntRow.mono (fun k hk => hk.2) (ownsRow_intRow (l := s1 ++ [y]) (by simpa using hown7) HBD.out)
          have HB7 : Hid (Below w.heap.size w w7) := HBu.out.trans (hb7.mono (by omega))
          have HX7 := Lib.hid hS7.1
          clear hown7 hgrow7 hat7 hlt7 hb7 hS7 hS hS5 hb5 HO5 HG5 HQ5
          go_wp2_with fail
          go_roundw
          case rel => exact ⟨j + 1, by omega, by go_num, HN.out, HST3.out, HB7.out, HX7.out⟩
          case measure => simp [intOf]; omega
      · obtain rfl : j = x.f.ids.length := by omega
        have HR2 : Hid (coreB (d + 1) sc x.f = coreAll d (sc ++ x.f.ids) x.f.kids) := by refine Lib.hid ?_; rw [HR.out, HIDB.out, List.drop_length, idsB]; rfl
        rw [List.take_length] at HO ⊢
        clear HIDB HR HIDS
        obtain ⟨s2, hs2⟩ : ∃ s2, s2 = sc ++ x.f.ids := ⟨_, rfl⟩
        have HS2 : Hid (s2.length = sc.length + x.f.ids.length) := by refine Lib.hid ?_; rw [hs2, List.length_append]
        rw [← hs2] at HO HR2 ⊢
        clear hs2
        go_wp2_with fail
        obtain ⟨wa, hwa⟩ : ∃ wa, wa = wr := ⟨_, rfl⟩
        obtain rfl := hwa
        go_loopw [9] (fun i wr => ∃ j : Nat, j ≤ x.f.kids.length ∧ i = .int .i64 j ∧ coreAll d s2 x.f.kids = coreAll d s2 (x.f.kids.drop j) ∧ Below wa.heap.size wa wr ∧ CoreBox wr w.heap.size x) (fun i _ => x.f.kids.length - (intOf i).toNat)
        case atStart => exact ⟨0, Nat.zero_le _, rfl, by rw [List.drop_zero], Below.refl _ _, HX.out⟩
        case round =>
          obtain ⟨j, hj, rfl, hall, hb, hx⟩ := hrel
          have HALL := Lib.hid hall
          have HB2 := Lib.hid hb
          have HX2 := Lib.hid hx
          have hsr2 : wa.heap.size ≤ wr.heap.size := hb.size
          clear hall hb hx x0 x1 x2 x3 x4 x5 x6 x7 x8 x9 x10
          obtain ⟨x0, x1, x2, x3, x4, x5, x6, x7, x8, x9, x10⟩ := HX2.out
          by_cases hlt : j < x.f.kids.length
          · have HIN := HKIDS.out
            rcases HIN.2.2 with h0 | ⟨kb, koff, hkb, hkB, hrow⟩
            · exfalso; rw [h0] at hlt; simp at hlt
            · have hBw : Below B w wr := (HB.out.trans (HB2.out.mono (by omega))).mono hB
              obtain ⟨q0, q1, q2, q3, q4, q5, q6, q7, h0, h1, h2, h3, h4, h5, h6, h7, h8, h9, h10, hin⟩ := (hrow.later (same_below hBw) kb hkB).at' j hlt
              have HKIN := Lib.hid hin
              have hszk := szCs_get x.f.kids j hlt
              have hkl := szCs_length x.f.kids
              have hs2l : s2.length + x.f.kids[j].sz ≤ 1048576 := by have := HS2.out; omega
              have HST : Hid (coreAll d s2 x.f.kids = (coreB d s2 x.f.kids[j] && coreAll d s2 (x.f.kids.drop (j + 1)))) := by
                refine Lib.hid ?_
                rw [HALL.out, List.drop_eq_getElem_cons hlt, coreAll]
              have hd1 : (d : Int) + 1 - 1 = d := by omega
              rw [hkb] at x10
              clear hkb hin hrow HALL
              go_wp2_with fail
              refine (HIH.out wr.heap.size ⟨x.f.kids[j], q0, q1, q2, q3, q4, q5, q6, q7⟩ s2 _ wr (by omega) (Nat.le_refl _) (InC.mono (fun k (hk : k < B) => by show k < wr.heap.size; have := hBw.size; omega) _ _ HKIN.out) (IntRow.mono (fun k (hk : k < wa.heap.size) => by show k < wr.heap.size; omega) (HO.out.later (same_below HB2.out))) hs2l).mono ?_
              rintro e w3 ⟨rfl, hb3⟩
              have hs3 : wr.heap.size ≤ w3.heap.size := hb3.size
              have HB3 : Hid (Below wa.heap.size wa w3) := HB2.out.trans (hb3.mono hsr2)
              have HX3 := Lib.hid (HX2.out.later hb3)
              clear hb3 x0 x1 x2 x3 x4 x5 x6 x7 x8 x9 x10 h0 h1 h2 h3 h4 h5 h6 h7 h8 h9 h10
              cases hk : coreB d s2 x.f.kids[j] with
              | false =>
                have HF : Hid (coreB (d + 1) sc x.f = false) := by refine Lib.hid ?_; rw [HR2.out, HST.out, hk]; rfl
                clear hk
                go_wp2_with fail
                go_ret
                exact ⟨ret_bool HF.out.symm, HB.out.trans (HB3.out.mono (by omega))⟩
              | true =>
                have HNX : Hid (coreAll d s2 x.f.kids = coreAll d s2 (x.f.kids.drop (j + 1))) := by refine Lib.hid ?_; rw [HST.out, hk]; rfl
                clear hk
                go_wp2_with fail
                go_roundw
                case rel => exact ⟨j + 1, by omega, by go_num, HNX.out, HB3.out, HX3.out⟩
                case measure => simp [intOf]; omega
          · obtain rfl : j = x.f.kids.length := by omega
            have HR3 : Hid (coreB (d + 1) sc x.f = true) := by refine Lib.hid ?_; rw [HR2.out, HALL.out, List.drop_length, coreAll]
            clear HALL HR2
            go_wp2_with fail
            go_ret
            exact ⟨ret_bool HR3.out.symm, HB.out.trans (HB2.out.mono (by omega))⟩
end
end Go.Proofs.Ytbclgmabidjegaa.CoreT
