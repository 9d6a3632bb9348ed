/- For every list of bindings, valid or not, the program's BindsValid answers as the model's and leaves the list as it was: the law FnExactBindsValid returns true, whatever the input, with no condition beyond the statement's own. -/
import Derived.Test.YtlgalpdjeojaaaaRows
import Derived.Test.YtlgalpdjeojaaaaImplCands
import Derived.Test.YtlgalpdjeojaaaaToB
import Derived.Test.YtlgalpdjeojaaaaBdLaw
import Derived.Test.YtlgalpdjeojaaaaOpenB
namespace Go.Proofs.Ytlgalpdjeojaaaa.exBindsValid
open Go.ChangeShapes Go.WideShapes Go.ChangeAt Go.RowKit
set_option linter.unusedVariables false
set_option linter.unusedSimpArgs false
theorem left2 (n : Nat) : (leftOf 1048576 n < 0) ∨ (n ≤ 1048576 ∧ leftOf 1048576 n = 1048576 - n) := by
  unfold leftOf; split <;> omega
theorem row_up {w w' : World} {v : Value} {l : List Bd} (h : BdRow (· < w.heap.size) w v l) (hb : Below w.heap.size w w') : BdRow (· < w'.heap.size) w' v l := by
  have h1 := h.later (Same.of_below hb (fun k hk => hk))
  obtain ⟨a, cap, rfl, g1, g2, g3, g4⟩ := h1
  refine ⟨a, cap, rfl, g1, g2, g3, ?_⟩
  rcases g4 with g4 | ⟨b, off, rfl, g5, g6⟩
  · exact .inl g4
  · refine .inr ⟨b, off, rfl, Nat.lt_of_lt_of_le g5 hb.size, fun i hi => ?_⟩
    obtain ⟨sa, scap, c0, c1, c2, hr⟩ := g6 i hi
    exact ⟨sa, scap, c0, c1, c2, hr.mono (fun k (hk : k < w.heap.size) => Nat.lt_of_lt_of_le hk hb.size)⟩
theorem post_row {w w' : World} {l : List Bd} {v : Value} {bs : List Nat} (h : BdsOwn w' l v bs) (hn : NewBs bs w.heap.size w'.heap.size) : BdRow (· < w'.heap.size) w' v l := h.inRow (fun c hc => (hn.2 c hc).2)
set_option maxRecDepth 100000 in
set_option maxHeartbeats 4000000 in
theorem walk (w : World) (l : List Bd) (v : Value) (hv : BdRow (· < w.heap.size) w v l) :
    Calls Try.prog 10 #[v] w fun e w' => e = .returned (.bool true) ∧ Below w.heap.size w w' := by
  obtain ⟨a, cap, rfl, _⟩ := id hv
  have HV := Lib.hid hv
  clear hv
  go_enter Try.func10, Try.ntmps10
  go_wp2_with fail
  refine (szBindS_any w.heap.size l _ 1048576 w (Nat.le_refl _) HV.out ⟨by omega, by omega⟩).mono ?_
  rintro e w1 ⟨rfl, hb1⟩
  have HB1 := Lib.hid hb1
  have HV1 := Lib.hid (row_up HV.out hb1)
  have hs1 := hb1.size
  clear hb1
  rcases left2 (l.length + szBds l) with hl | ⟨hsz, hl⟩
  · go_wp2_with fail
    go_ret
    exact ⟨rfl, HB1.out⟩
  · have hl0 : ¬ leftOf 1048576 (l.length + szBds l) < 0 := by omega
    clear hl
    go_wp2_with fail
    refine (toBindS_any w1.heap.size l _ w1 (Nat.le_refl _) HV1.out hsz).mono ?_
    rintro e w2 ⟨a2, cap2, bs2, rfl, ho2, hn2, hp2, hb2⟩
    have HR2 := Lib.hid (post_row ho2 hn2)
    have HB2 : Hid (Below w.heap.size w w2) := HB1.out.trans (hb2.mono (by omega))
    have HV2 := Lib.hid (row_up HV1.out hb2)
    have hs2 := hb2.size
    clear ho2 hn2 hp2 hb2
    go_wp2_with fail
    refine (specBindsValid_any w2.heap.size l _ w2 (Nat.le_refl _) HR2.out).mono ?_
    rintro e w3 ⟨rfl, hb3⟩
    have HB3 : Hid (Below w.heap.size w w3) := HB2.out.trans (hb3.mono (by omega))
    have HV3 := Lib.hid (row_up HV2.out hb3)
    have hs3 := hb3.size
    clear hb3
    go_wp2_with fail
    refine (toBindS_any w3.heap.size l _ w3 (Nat.le_refl _) HV3.out hsz).mono ?_
    rintro e w4 ⟨a4, cap4, bs4, rfl, ho4, hn4, hp4, hb4⟩
    have HR4 := Lib.hid (post_row ho4 hn4)
    have HB4 : Hid (Below w.heap.size w w4) := HB3.out.trans (hb4.mono (by omega))
    have HV4 := Lib.hid (row_up HV3.out hb4)
    have hs4 := hb4.size
    clear ho4 hn4 hp4 hb4
    go_wp2_with fail
    refine (implBindsValid_any w4.heap.size l _ w4 (Nat.le_refl _) HR4.out).mono ?_
    rintro e w5 ⟨rfl, hb5⟩
    have HB5 : Hid (Below w.heap.size w w5) := HB4.out.trans (hb5.mono (by omega))
    have HV5 := Lib.hid (row_up HV4.out hb5)
    have HR5 := Lib.hid (row_up HR4.out hb5)
    have hs5 := hb5.size
    have hne : (bindsB l != bindsB l) = false := by simp
    clear hb5
    go_wp2_with fail
    refine (toBindS_any w5.heap.size l _ w5 (Nat.le_refl _) HV5.out hsz).mono ?_
    rintro e w6 ⟨a6, cap6, bs6, rfl, ho6, hn6, hp6, hb6⟩
    have HR6 := Lib.hid (post_row ho6 hn6)
    have HB6 : Hid (Below w.heap.size w w6) := HB5.out.trans (hb6.mono (by omega))
    have HQ6 := Lib.hid (row_up HR5.out hb6)
    have hs6 := hb6.size
    clear ho6 hn6 hp6 hb6
    go_wp2_with fail
    refine (eqBindS_any w6.heap.size l _ _ w6 (Nat.le_refl _) HQ6.out HR6.out).mono ?_
    rintro e w7 ⟨rfl, hb7⟩
    have HB7 : Hid (Below w.heap.size w w7) := HB6.out.trans (hb7.mono (by omega))
    clear hb7
    go_wp2_with fail
    go_ret
    exact ⟨rfl, HB7.out⟩
theorem own : ownKnob Try.prog.godebug = none := by kernel_rfl
theorem laidOut : laidOutB Try.prog = true := by kernel_rfl
set_option maxRecDepth 100000 in
theorem lifted (os : Os) (started : os.Started) (H : Type) (enc : TypeId × Value → H) :
    ReturnsInHanded {} Try.checked os 10 .any (Rows.fnExactBindsValidSpec.pre6 enc Try.prog Try.f10 Rows.fnExactBindsValidRow.domain false) (Rows.fnExactBindsValidSpec.post enc Try.prog Try.f10 false true false false) := by
  refine returnsInHanded_of_change (C := Try.checked) own started (by kernel_rfl) Try.func10
    (ChangeSpec.witness6 (enc := enc) (C := Try.checked) false ⟨#[], #[.slice none 0 0], []⟩ 12 (by kernel_rfl) (by kernel_rfl) (by kernel_rfl) (by kernel_rfl)) ?_
  intro W base args ds gs before hval0 hW hcnd _
  have hval : ∀ (j : Nat) t v, Try.f10.params[j]? = some t → args[j]? = some v → Value.okWide Try.prog W .any base t v := hval0
  have hW' := hW
  obtain ⟨p, q, hA0, hV, rfl, hfz, hnd⟩ := hW
  have hA : DataW.TrodAll enc Try.prog W 0 (fun _ => true) true Try.f10.params.toList args.toList ds p := hA0
  rw [Try.params10] at hA hval
  obtain ⟨v0, vs0, d0, ds0, p0, q0, hargs, rfl, rfl, h0, r0⟩ := trodAll_cons hA
  obtain ⟨rfl, rfl, rfl⟩ := trodAll_nil r0
  obtain rfl : args = #[v0] := by cases args; simp_all
  obtain ⟨rfl, rfl⟩ := trodVars_none hV
  have k0 := h0
  have lt0 : ∀ x ∈ p0, x.block < W.heap.size := by obtain ⟨m, hm⟩ := k0; exact DataW.trod_lt m _ _ _ hm
  obtain ⟨f0, i0⟩ := open_binds_arg (hval 0 51 v0 rfl rfl) h0
  clear hA0 hval0
  try simp only [List.append_nil] at hW'
  refine (walk W f0 v0 i0).mono fun e W' ⟨he, bel⟩ => ?_
  subst he
  exact ⟨_, rfl, _, _, _, [], _, [], hW', trodAll_mk1 (shut_bool Try.underlying4 _), (trodAll_cons_mk (Below.trod laidOut (by kernel_rfl) (of_decide_eq_true (by kernel_rfl)) k0 bel lt0) trodAll_mk0), rfl, bel.frame _, fun h => by cases h⟩
theorem over_named : Try.pinned.checked.prog.funcNamed Rows.fnExactBindsValidRow.func = some 10 := by kernel_rfl
theorem over_closed : joinedFacts Try.pinned.checked.prog 10 Try.f10 Rows.fnExactBindsValidSpec Rows.fnExactBindsValidRow = true := by kernel_rfl
theorem over_inst : Func.isInstance Try.pinned.checked.prog Try.f10 Rows.fnExactBindsValidRow.origin Rows.fnExactBindsValidRow.targs := of_decide_eq_true (by kernel_rfl)
theorem over_wrap : Func.isWrapper Try.pinned.checked.prog Try.f10 Rows.fnExactBindsValidRow.wrapper Rows.fnExactBindsValidRow.mainSum := (by unfold Func.isWrapper; first | (rw [if_pos (by decide +kernel)]; kernel_rfl) | (rw [if_neg (by decide +kernel)]; exact ⟨rfl, rfl⟩))
theorem over : Rows.fnExactBindsValidRow.holds Try.pinned (OpenSpec.ofChange Rows.fnExactBindsValidSpec) :=
  OpenClaim.holds_of_wide 10 Try.f10 rfl rfl rfl rfl rfl rfl rfl ⟨rfl, rfl, rfl, rfl, rfl⟩ rfl rfl rfl rfl rfl over_named Try.func10 over_closed over_inst over_wrap
    (fun os started H enc _ => lifted os started H enc)
theorem proved : Rows.FnExactBindsValidSaid := over
end Go.Proofs.Ytlgalpdjeojaaaa.exBindsValid
