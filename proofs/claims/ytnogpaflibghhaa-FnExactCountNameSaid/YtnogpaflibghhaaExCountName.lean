/- For every form, valid or not, and every name, the two say alike how many names of the form have it, and the program's leaves its argument as it was: the law FnExactCountName returns true, whatever the input, with no condition beyond the statement's own. -/
import Derived.Test.YtnogpaflibghhaaRows
import Derived.Test.YtnogpaflibghhaaCountN
import Derived.Test.YtnogpaflibghhaaFacts
import Derived.Test.YtnogpaflibghhaaEnds
import Derived.Test.YtnogpaflibghhaaSz
import Derived.Test.YtnogpaflibghhaaTo
import Derived.Test.YtnogpaflibghhaaEq
import Derived.Test.YtnogpaflibghhaaOpen
import Derived.Deep.RegionWith
namespace Go.Proofs.Ytnogpaflibghhaa.exCountName
open Go.ChangeShapes Go.WideShapes Go.ChangeAt Go.RowKit
open Go.ChangeMaps (open_string shut_string)
set_option linter.unusedVariables false
set_option maxRecDepth 100000 in
set_option maxHeartbeats 1000000 in
theorem walk (w : World) (f : Fm) (v : Value) (hv : InV (· < w.heap.size) w f v) (s : ByteArray) (hsm : s.size ≤ maxLen) :
    Calls Try.prog 14 #[v, .string s] w fun e w' => e = .returned (.bool true) ∧ Below w.heap.size w w' := by
  have HV := Lib.hid hv
  obtain ⟨sa, scap, a, cap, rfl⟩ := hv.form
  clear hv
  unfold maxLen at hsm
  by_cases hlong : 1048576 < s.size
  · go_enter Try.func14, Try.ntmps14
    go_wp2_with fail
    go_ret
    exact ⟨rfl, (Below.refl _ w).alloc (Nat.le_refl _) _⟩
  go_enter Try.func14, Try.ntmps14
  go_wp2_with fail
  refine (szForm_any w.heap.size f _ _ 1048576 (by simp) (InV.later (same_below ((Below.refl _ w).alloc (Nat.le_refl _) _)) _ _ HV.out) (by omega)).mono ?_
  rintro e w1 ⟨rfl, hb1⟩
  have hs1 : w.heap.size < w1.heap.size := by have := hb1.size; simp at this; omega
  have c0 : w1.cell? ⟨w.heap.size, 0, none⟩ = some (.int .i64 f.kind) := (hb1.cell (p := ⟨w.heap.size, 0, none⟩) (by simp)).trans (by simp)
  have c1 : w1.cell? ⟨w.heap.size, 1, none⟩ = some (.string f.name) := (hb1.cell (p := ⟨w.heap.size, 1, none⟩) (by simp)).trans (by simp)
  have c2 : w1.cell? ⟨w.heap.size, 2, none⟩ = some (.int .i64 f.n) := (hb1.cell (p := ⟨w.heap.size, 2, none⟩) (by simp)).trans (by simp)
  have c3 : w1.cell? ⟨w.heap.size, 3, none⟩ = some (.slice sa f.scopes.length scap) := (hb1.cell (p := ⟨w.heap.size, 3, none⟩) (by simp)).trans (by simp)
  have c4 : w1.cell? ⟨w.heap.size, 4, none⟩ = some (.slice a f.kids.length cap) := (hb1.cell (p := ⟨w.heap.size, 4, none⟩) (by simp)).trans (by simp)
  have HB1 : Hid (Below w.heap.size w w1) := ((Below.refl _ w).alloc (Nat.le_refl _) _).trans (hb1.mono (by simp))
  clear hb1
  by_cases hsz : (f.sz : Int) ≤ 1048576
  · have hg : leftOf 1048576 f.sz = 1048576 - f.sz := by unfold leftOf; rw [if_pos hsz]
    rw [hg]
    clear hg
    have hd : decide ((1048576 : Int) - f.sz < 0) = false := decide_eq_false (by omega)
    have hsz' : f.sz ≤ 1048576 := by omega
    have hcnt := f.count_le
    go_wp2_with fail
    refine (toForm_any w.heap.size f _ _ (by omega) (InV.later (same_below HB1.out) _ _ HV.out) hsz').mono ?_
    rintro e w2 hp
    obtain ⟨xa, xb, xc, xd, rfl, hx, hb2⟩ := hp.weak
    clear hp
    have HX := Lib.hid hx
    clear hx
    have c0_2 := cell_later' hb2 c0
    have c1_2 := cell_later' hb2 c1
    have c2_2 := cell_later' hb2 c2
    have c3_2 := cell_later' hb2 c3
    have c4_2 := cell_later' hb2 c4
    have hs2 := hb2.size
    have HB2 : Hid (Below w.heap.size w w2) := HB1.out.trans (hb2.mono (by omega))
    clear hb2 c0 c1 c2 c3 c4
    go_wp2_with fail
    refine (specCountName_any w2.heap.size s f _ _ (Nat.le_refl _) HX.out (by omega)).mono ?_
    rintro e w3 ⟨rfl, hb3⟩
    have c0_3 := cell_later' hb3 c0_2
    have c1_3 := cell_later' hb3 c1_2
    have c2_3 := cell_later' hb3 c2_2
    have c3_3 := cell_later' hb3 c3_2
    have c4_3 := cell_later' hb3 c4_2
    have hs3 := hb3.size
    have HB3 : Hid (Below w.heap.size w w3) := HB2.out.trans (hb3.mono (by omega))
    clear hb3 c0_2 c1_2 c2_2 c3_2 c4_2
    go_wp2_with fail
    refine (toForm_any w.heap.size f _ _ (by omega) (InV.later (same_below HB3.out) _ _ HV.out) hsz').mono ?_
    rintro e w4 hp
    obtain ⟨ya, yb, yc, yd, bz, rfl, hyo, hyn, hyp, hb4⟩ := hp
    have HY := Lib.hid (OwnV.inV (φ := (· < w4.heap.size)) f _ bz (fun c hm => (hyn.2 c hm).2) hyo)
    have HEA := Lib.hid (endlessAt_own f _ bz w4 hyo hyn.1 (fun c hm => (hyn.2 c hm).2) hyp (by omega))
    clear hyo hyn hyp
    have c0_4 := cell_later' hb4 c0_3
    have c1_4 := cell_later' hb4 c1_3
    have c2_4 := cell_later' hb4 c2_3
    have c3_4 := cell_later' hb4 c3_3
    have c4_4 := cell_later' hb4 c4_3
    have hs4 := hb4.size
    have HB4 : Hid (Below w.heap.size w w4) := HB3.out.trans (hb4.mono (by omega))
    clear hb4 c0_3 c1_3 c2_3 c3_3 c4_3
    go_wp2_with fail
    refine (implCountName_any s ⟨f, ya, yb, yc, yd⟩ _ (InV.mono (fun k (hk : k < w4.heap.size) => (by simp; omega)) _ _ (InV.later (same_below (below_alloc w4 (.cells #[.int .i64 f.kind, .string f.name, .int .i64 f.n, .slice ya f.scopes.length yb, .slice yc f.kids.length yd] 33))) _ _ HY.out)) (by show f.count ≤ _; omega) (HEA.out.later (below_alloc w4 _))).mono ?_
    rintro e w5 ⟨rfl, hb5'⟩
    have x0 : w5.cell? ⟨w4.heap.size, 0, none⟩ = some (.int .i64 f.kind) := (hb5'.cell (p := ⟨w4.heap.size, 0, none⟩) (by simp)).trans (by simp)
    have x1 : w5.cell? ⟨w4.heap.size, 1, none⟩ = some (.string f.name) := (hb5'.cell (p := ⟨w4.heap.size, 1, none⟩) (by simp)).trans (by simp)
    have x2 : w5.cell? ⟨w4.heap.size, 2, none⟩ = some (.int .i64 f.n) := (hb5'.cell (p := ⟨w4.heap.size, 2, none⟩) (by simp)).trans (by simp)
    have x3 : w5.cell? ⟨w4.heap.size, 3, none⟩ = some (.slice ya f.scopes.length yb) := (hb5'.cell (p := ⟨w4.heap.size, 3, none⟩) (by simp)).trans (by simp)
    have x4 : w5.cell? ⟨w4.heap.size, 4, none⟩ = some (.slice yc f.kids.length yd) := (hb5'.cell (p := ⟨w4.heap.size, 4, none⟩) (by simp)).trans (by simp)
    have hs45 : w4.heap.size < w5.heap.size := by have := hb5'.size; simp at this; omega
    have hb5 : Below w4.heap.size w4 w5 := ((Below.refl _ w4).alloc (Nat.le_refl _) _).trans (hb5'.mono (by simp))
    clear hb5'
    have HY5 := Lib.hid (InV.later (same_below hb5) _ _ HY.out)
    have c0_5 := cell_later' hb5 c0_4
    have c1_5 := cell_later' hb5 c1_4
    have c2_5 := cell_later' hb5 c2_4
    have c3_5 := cell_later' hb5 c3_4
    have c4_5 := cell_later' hb5 c4_4
    have hs5 := hb5.size
    have HB5 : Hid (Below w.heap.size w w5) := HB4.out.trans (hb5.mono (by omega))
    clear hb5 c0_4 c1_4 c2_4 c3_4 c4_4
    have hbb : ((cntF s f : Int) != (cntF s f : Int)) = false := by simp
    go_wp2_with fail
    go_region_with (first
      | (go_at_call 26; refine (toForm_any w.heap.size f _ w5.drew (by show _ ≤ w5.heap.size; omega) (InV.later (w := w) (w' := w5.drew) (same_below HB5.out.drew) _ _ HV.out) hsz').mono ?_; rintro e w6 hp; obtain ⟨za, zb, zc, zd, rfl, hz, hb6⟩ := hp.weak; clear hp; have HZ := Lib.hid hz; clear hz; have hb6' : Below w5.heap.size w5 w6 := ((Below.refl w5.heap.size w5).drew).trans hb6; have x0_6 := cell_later' hb6' x0; have x1_6 := cell_later' hb6' x1; have x2_6 := cell_later' hb6' x2; have x3_6 := cell_later' hb6' x3; have x4_6 := cell_later' hb6' x4; have hs6 : w5.heap.size ≤ w6.heap.size := hb6'.size; have HB6 : Hid (Below w.heap.size w w6) := HB5.out.trans (hb6'.mono (by omega)); have HY6 := Lib.hid (InV.later (w := w5) (w' := w6) (same_below (hb6'.mono (show w4.heap.size ≤ w5.heap.size by omega))) _ _ HY5.out); clear hb6 hb6')
      | (go_at_call 29; refine (eqForm_any w6.heap.size f f _ _ _ (Nat.le_refl _) (InV.mono (fun k hk => by omega) _ _ HY6.out) HZ.out).mono ?_; rintro e w7 ⟨rfl, hb7⟩; rw [sameB_refl]; have HB7 : Hid (Below w.heap.size w w7) := HB6.out.trans (hb7.mono (by omega)); clear hb7))
    all_goals
      go_wp2_with fail
      go_ret
      exact ⟨rfl, HB7.out⟩
  · have hg : leftOf 1048576 f.sz = -1 := by unfold leftOf; rw [if_neg hsz]
    rw [hg]
    clear hg
    go_wp2_with fail
    go_ret
    exact ⟨rfl, HB1.out⟩
theorem own : ownKnob Try.prog.godebug = none := by kernel_rfl
theorem laidOut : laidOutB Try.prog = true := by kernel_rfl
set_option maxRecDepth 100000 in
theorem lifted (os : Os) (started : os.Started) (H : Type) (enc : TypeId × Value → H) :
    ReturnsInHanded {} Try.checked os 14 .any (Rows.fnExactCountNameSpec.pre6 enc Try.prog Try.f14 Rows.fnExactCountNameRow.domain false) (Rows.fnExactCountNameSpec.post enc Try.prog Try.f14 false true false false) := by
  refine returnsInHanded_of_change (C := Try.checked) own started (by kernel_rfl) Try.func14
    (ChangeSpec.witness6 (enc := enc) (C := Try.checked) false ⟨#[], #[.agg #[.int .i64 0, .string ByteArray.empty, .int .i64 0, .slice none 0 0, .slice none 0 0], .string ByteArray.empty], []⟩ 12 (by kernel_rfl) (by kernel_rfl) (by kernel_rfl) (by kernel_rfl)) ?_
  intro W base args ds gs before hval0 hW hcnd _
  have hval : ∀ (j : Nat) t v, Try.f14.params[j]? = some t → args[j]? = some v → Value.okWide Try.prog W .any base t v := hval0
  have hW' := hW
  obtain ⟨p, q, hA0, hV, rfl, hfz, hnd⟩ := hW
  have hA : DataW.TrodAll enc Try.prog W 0 (fun _ => true) true Try.f14.params.toList args.toList ds p := hA0
  rw [Try.params14] at hA hval
  obtain ⟨v0, vs0, d0, ds0, p0, q0, hargs, rfl, rfl, h0, r0⟩ := trodAll_cons hA
  obtain ⟨v1, vs1, d1, ds1, p1, q1, rfl, rfl, rfl, h1, r1⟩ := trodAll_cons r0
  obtain ⟨rfl, rfl, rfl⟩ := trodAll_nil r1
  obtain rfl : args = #[v0, v1] := by cases args; simp_all
  obtain ⟨rfl, rfl⟩ := trodVars_none hV
  have k0 := h0
  have lt0 : ∀ x ∈ p0, x.block < W.heap.size := by obtain ⟨m, hm⟩ := k0; exact DataW.trod_lt m _ _ _ hm
  obtain ⟨f0, i0⟩ := open_form_arg (hval 0 25 v0 rfl rfl) h0
  obtain ⟨a1, rfl, rfl, rfl, w1⟩ := open_string Try.underlying9 (hval 1 9 v1 rfl rfl) h1
  clear hA0 hval0
  try simp only [List.append_nil] at hW'
  refine (walk W f0 v0 i0 a1 w1).mono fun e W' ⟨he, bel⟩ => ?_
  subst he
  exact ⟨_, rfl, _, _, _, [], _, [], hW', trodAll_mk1 (shut_bool Try.underlying4 _), (trodAll_cons_mk (Below.trod laidOut (by kernel_rfl) (of_decide_eq_true (by kernel_rfl)) k0 bel lt0) (trodAll_cons_mk (shut_string Try.underlying9 w1) trodAll_mk0)), rfl, bel.frame _, fun h => by cases h⟩
theorem over_named : Try.pinned.checked.prog.funcNamed Rows.fnExactCountNameRow.func = some 14 := by kernel_rfl
theorem c_inPlace : (Rows.fnExactCountNameRow.inPlace == Try.pinned.checked.prog.inPlace 14) = true := by kernel_rfl
theorem c_unfollowed : (Rows.fnExactCountNameRow.unfollowed == Try.pinned.checked.prog.unfollowed 14) = true := by kernel_rfl
theorem c_recurses : (Rows.fnExactCountNameRow.recurses == Try.pinned.checked.prog.recurses 14) = true := by kernel_rfl
theorem c_named : (Rows.fnExactCountNameRow.named == Try.pinned.checked.prog.varsNamed 14) = true := by kernel_rfl
theorem over_closed : joinedFacts Try.pinned.checked.prog 14 Try.f14 Rows.fnExactCountNameSpec Rows.fnExactCountNameRow = true := by
  unfold joinedFacts
  exact Facts.band (Facts.band (Facts.band (Facts.band (Facts.band (Facts.band (Facts.band (Facts.band (Facts.band (Facts.band (Facts.band (Facts.band (Facts.band (Facts.band (Facts.band (Facts.band (Facts.band (Facts.band (Facts.band (Facts.band (Facts.band (Facts.band (Facts.band (Facts.band (Facts.band (Facts.band (Facts.band (Facts.band (Facts.band (Facts.band (Facts.band (by kernel_rfl) Facts.laid) Facts.rowed) (by kernel_rfl)) (by kernel_rfl)) (by kernel_rfl)) Facts.stops) (by kernel_rfl)) Facts.knobs) c_inPlace) c_unfollowed) c_recurses) c_named) (by kernel_rfl)) (by kernel_rfl)) (by kernel_rfl)) (by kernel_rfl)) (by kernel_rfl)) (by kernel_rfl)) (by kernel_rfl)) (by kernel_rfl)) (by kernel_rfl)) (by rw [Facts.plain]; kernel_rfl)) (by kernel_rfl)) Facts.heard) Facts.enter) (by rw [Facts.lifts]; kernel_rfl)) (by rw [Facts.made]; kernel_rfl)) (by kernel_rfl)) (by kernel_rfl)) (by kernel_rfl)) (by kernel_rfl)
theorem over_inst : Func.isInstance Try.pinned.checked.prog Try.f14 Rows.fnExactCountNameRow.origin Rows.fnExactCountNameRow.targs := of_decide_eq_true (by kernel_rfl)
theorem over_wrap : Func.isWrapper Try.pinned.checked.prog Try.f14 Rows.fnExactCountNameRow.wrapper Rows.fnExactCountNameRow.mainSum := (by unfold Func.isWrapper; first | (rw [if_pos (by decide +kernel)]; kernel_rfl) | (rw [if_neg (by decide +kernel)]; exact ⟨rfl, rfl⟩))
theorem over : Rows.fnExactCountNameRow.holds Try.pinned (OpenSpec.ofChange Rows.fnExactCountNameSpec) :=
  OpenClaim.holds_of_wide 14 Try.f14 rfl rfl rfl rfl rfl rfl rfl ⟨rfl, rfl, rfl, rfl, rfl⟩ rfl rfl rfl rfl rfl over_named Try.func14 over_closed over_inst over_wrap
    (fun os started H enc _ => lifted os started H enc)
theorem proved : Rows.FnExactCountNameSaid := over
end Go.Proofs.Ytnogpaflibghhaa.exCountName
