/- For every list of hits the two answers of HitsValid agree, and the program's leaves its argument as it was: the law FnExactHitsValid returns true, whatever the input, with no condition beyond the statement's own. -/
import Derived.Test.YtlmplfpdmelcjaaRows
import Derived.Test.YtlmplfpdmelcjaaFacts
import Derived.Test.YtlmplfpdmelcjaaOpenH
import Derived.Test.YtlmplfpdmelcjaaSzHit
import Derived.Test.YtlmplfpdmelcjaaEqHit
import Derived.Test.YtlmplfpdmelcjaaToHit2
import Derived.Test.YtlmplfpdmelcjaaFormsS
import Derived.Test.YtlmplfpdmelcjaaImplHV
namespace Go.Proofs.Ytlmplfpdmelcjaa.exHitsValid
open Go.ChangeShapes Go.WideShapes Go.ChangeAt Go.RowKit
open Go.ChangeMaps (open_string shut_string)
set_option linter.unusedVariables false
set_option linter.unusedSimpArgs false
theorem up {w w' : World} {l : List Ht} {a : Option Addr} {cap : Nat} (h : HitsIn (· < w.heap.size) w a cap l) (hb : Below w.heap.size w w') : HitsIn (· < w'.heap.size) w' a cap l :=
  (h.later (same_below hb)).mono (fun k (hk : k < w.heap.size) => Nat.lt_of_lt_of_le hk hb.size)
theorem copy (w : World) (l : List Ht) (a : Option Addr) (cap : Nat) (h : HitsIn (· < w.heap.size) w a cap l) (hsz : szHs l ≤ 1048576) :
    Calls Try.prog 17 #[.slice a l.length cap] w fun e w' => ∃ a' cap', e = .returned (.slice a' l.length cap') ∧ HitsIn (Pl w'.heap.size w') w' a' cap' l ∧ Below w.heap.size w w' := by
  refine (toHitS_of w.heap.size l (fun g _ => toHit_any w.heap.size g) a cap w (Nat.le_refl _) h.1 h.2.1 h.2.2 hsz).mono ?_
  rintro e w' ⟨a', cap', rfl, h1, h2, ⟨bs, h3, h4, h5⟩, h6⟩
  have HO : HitsOwn w' a' cap' l bs := ⟨h1, h2, h3⟩
  exact ⟨a', cap', rfl, HO.reads (fun b hb => ⟨(h4.2 b hb).2, h5 b hb⟩), h6⟩
theorem less {w : World} {l : List Ht} {a : Option Addr} {cap : Nat} (h : HitsIn (Pl w.heap.size w) w a cap l) : HitsIn (· < w.heap.size) w a cap l := h.mono (fun k hk => hk.1)
set_option maxRecDepth 100000 in
set_option maxHeartbeats 4000000 in
theorem walk (w : World) (l : List Ht) (v : Value) (hv : HitsV w l v) :
    Calls Try.prog 3 #[v] w fun e w' => e = .returned (.bool true) ∧ Below w.heap.size w w' := by
  obtain ⟨a, cap, rfl, hv⟩ := hv
  have HV := Lib.hid hv
  clear hv
  go_enter Try.func3, Try.ntmps3
  go_wp2_with fail
  refine (szHitS_row w.heap.size l a cap w 1048576 (Nat.le_refl _) HV.out ⟨by omega, by omega⟩).mono ?_
  rintro e w1 ⟨rfl, hb1⟩
  have HB1 := Lib.hid hb1
  have HV1 := Lib.hid (up HV.out hb1)
  have hs1 := hb1.size
  clear hb1
  rcases leftS2 (szHs l) with hl | ⟨hsz, hl⟩
  · go_wp2_with fail
    go_ret
    exact ⟨rfl, HB1.out⟩
  · have hl0 : ¬ leftOf 1048576 (szHs l) < 0 := by omega
    clear hl
    go_wp2_with fail
    refine (copy w1 l a cap HV1.out hsz).mono ?_
    rintro e w2 ⟨a2, cap2, rfl, hr2, hb2⟩
    have HR2 := Lib.hid (less hr2)
    have HB2 : Hid (Below w.heap.size w w2) := HB1.out.trans (hb2.mono (by omega))
    have HV2 := Lib.hid (up HV1.out hb2)
    have hs2 := hb2.size
    clear hr2 hb2
    go_wp2_with fail
    refine (specHitsValid_any w2.heap.size l a2 cap2 w2 (Nat.le_refl _) HR2.out hsz).mono ?_
    rintro e w3 ⟨rfl, hb3⟩
    have HB3 : Hid (Below w.heap.size w w3) := HB2.out.trans (hb3.mono (by omega))
    have HV3 := Lib.hid (up HV2.out hb3)
    have hs3 := hb3.size
    clear hb3
    go_wp2_with fail
    refine (copy w3 l a cap HV3.out hsz).mono ?_
    rintro e w4 ⟨a4, cap4, rfl, hr4, hb4⟩
    have HR4 := Lib.hid hr4
    have HB4 : Hid (Below w.heap.size w w4) := HB3.out.trans (hb4.mono (by omega))
    have HV4 := Lib.hid (up HV3.out hb4)
    have hs4 := hb4.size
    clear hr4 hb4
    go_wp2_with fail
    refine (implHitsValid_any l a4 cap4 w4 HR4.out hsz).mono ?_
    rintro e w5 ⟨rfl, hb5⟩
    have HB5 : Hid (Below w.heap.size w w5) := HB4.out.trans (hb5.mono (by omega))
    have HV5 := Lib.hid (up HV4.out hb5)
    have HR5 := Lib.hid (up (less HR4.out) hb5)
    have hs5 := hb5.size
    have hne : (hitsValidB l != hitsValidB l) = false := by simp
    clear hb5
    go_wp2_with fail
    refine (copy w5 l a cap HV5.out hsz).mono ?_
    rintro e w6 ⟨a6, cap6, rfl, hr6, hb6⟩
    have HR6 := Lib.hid (less hr6)
    have HB6 : Hid (Below w.heap.size w w6) := HB5.out.trans (hb6.mono (by omega))
    have HQ6 := Lib.hid (up HR5.out hb6)
    have hs6 := hb6.size
    clear hr6 hb6
    go_wp2_with fail
    refine (eqHitS_row w6.heap.size l a4 a6 cap4 cap6 w6 (Nat.le_refl _) HQ6.out HR6.out).mono ?_
    rintro e w7 ⟨rfl, hb7⟩
    have HB7 : Hid (Below w.heap.size w w7) := HB6.out.trans (hb7.mono (by omega))
    clear hb7
    go_wp2_with fail
    go_ret
    exact ⟨rfl, HB7.out⟩
theorem own : ownKnob Try.prog.godebug = none := by kernel_rfl
theorem laidOut : laidOutB Try.prog = true := by kernel_rfl
set_option maxRecDepth 100000 in
theorem lifted (os : Os) (started : os.Started) (H : Type) (enc : TypeId × Value → H) :
    ReturnsInHanded {} Try.checked os 3 .any (Rows.fnExactHitsValidSpec.pre6 enc Try.prog Try.f3 Rows.fnExactHitsValidRow.domain false) (Rows.fnExactHitsValidSpec.post enc Try.prog Try.f3 false true false false) := by
  refine returnsInHanded_of_change (C := Try.checked) own started (by kernel_rfl) Try.func3
    (ChangeSpec.witness6 (enc := enc) (C := Try.checked) false ⟨#[], #[.slice none 0 0], []⟩ 12 (by kernel_rfl) (by kernel_rfl) (by kernel_rfl) (by kernel_rfl)) ?_
  intro W base args ds gs before hval0 hW hcnd _
  have hval : ∀ (j : Nat) t v, Try.f3.params[j]? = some t → args[j]? = some v → Value.okWide Try.prog W .any base t v := hval0
  have hW' := hW
  obtain ⟨p, q, hA0, hV, rfl, hfz, hnd⟩ := hW
  have hA : DataW.TrodAll enc Try.prog W 0 (fun _ => true) true Try.f3.params.toList args.toList ds p := hA0
  rw [Try.params3] at hA hval
  obtain ⟨v0, vs0, d0, ds0, p0, q0, hargs, rfl, rfl, h0, r0⟩ := trodAll_cons hA
  obtain ⟨rfl, rfl, rfl⟩ := trodAll_nil r0
  obtain rfl : args = #[v0] := by cases args; simp_all
  obtain ⟨rfl, rfl⟩ := trodVars_none hV
  have k0 := h0
  have lt0 : ∀ x ∈ p0, x.block < W.heap.size := by obtain ⟨m, hm⟩ := k0; exact DataW.trod_lt m _ _ _ hm
  obtain ⟨f0, i0⟩ := open_hits_arg (hval 0 22 v0 rfl rfl) h0
  clear hA0 hval0
  try simp only [List.append_nil] at hW'
  refine (walk W f0 v0 i0).mono fun e W' ⟨he, bel⟩ => ?_
  subst he
  exact ⟨_, rfl, _, _, _, [], _, [], hW', trodAll_mk1 (shut_bool Try.underlying4 _), (trodAll_cons_mk (Below.trod laidOut (by kernel_rfl) (of_decide_eq_true (by kernel_rfl)) k0 bel lt0) trodAll_mk0), rfl, bel.frame _, fun h => by cases h⟩
theorem over_named : Try.pinned.checked.prog.funcNamed Rows.fnExactHitsValidRow.func = some 3 := by kernel_rfl
theorem c_inPlace : (Rows.fnExactHitsValidRow.inPlace == Try.pinned.checked.prog.inPlace 3) = true := by kernel_rfl
theorem c_unfollowed : (Rows.fnExactHitsValidRow.unfollowed == Try.pinned.checked.prog.unfollowed 3) = true := by kernel_rfl
theorem c_recurses : (Rows.fnExactHitsValidRow.recurses == Try.pinned.checked.prog.recurses 3) = true := by kernel_rfl
theorem c_named : (Rows.fnExactHitsValidRow.named == Try.pinned.checked.prog.varsNamed 3) = true := by kernel_rfl
theorem over_closed : joinedFacts Try.pinned.checked.prog 3 Try.f3 Rows.fnExactHitsValidSpec Rows.fnExactHitsValidRow = true := by
  unfold joinedFacts
  exact Facts.band (Facts.band (Facts.band (Facts.band (Facts.band (Facts.band (Facts.band (Facts.band (Facts.band (Facts.band (Facts.band (Facts.band (Facts.band (Facts.band (Facts.band (Facts.band (Facts.band (Facts.band (Facts.band (Facts.band (Facts.band (Facts.band (Facts.band (Facts.band (Facts.band (Facts.band (Facts.band (Facts.band (Facts.band (Facts.band (Facts.band (by kernel_rfl) Facts.laid) Facts.rowed) (by kernel_rfl)) (by kernel_rfl)) (by kernel_rfl)) Facts.stops) (by kernel_rfl)) Facts.knobs) c_inPlace) c_unfollowed) c_recurses) c_named) (by kernel_rfl)) (by kernel_rfl)) (by kernel_rfl)) (by kernel_rfl)) (by kernel_rfl)) (by kernel_rfl)) (by kernel_rfl)) (by kernel_rfl)) (by kernel_rfl)) (by rw [Facts.plain]; kernel_rfl)) (by kernel_rfl)) Facts.heard) Facts.enter) (by rw [Facts.lifts]; kernel_rfl)) (by rw [Facts.made]; kernel_rfl)) (by kernel_rfl)) (by kernel_rfl)) (by kernel_rfl)) (by kernel_rfl)
theorem over_inst : Func.isInstance Try.pinned.checked.prog Try.f3 Rows.fnExactHitsValidRow.origin Rows.fnExactHitsValidRow.targs := of_decide_eq_true (by kernel_rfl)
theorem over_wrap : Func.isWrapper Try.pinned.checked.prog Try.f3 Rows.fnExactHitsValidRow.wrapper Rows.fnExactHitsValidRow.mainSum := (by unfold Func.isWrapper; first | (rw [if_pos (by decide +kernel)]; kernel_rfl) | (rw [if_neg (by decide +kernel)]; exact ⟨rfl, rfl⟩))
theorem over : Rows.fnExactHitsValidRow.holds Try.pinned (OpenSpec.ofChange Rows.fnExactHitsValidSpec) :=
  OpenClaim.holds_of_wide 3 Try.f3 rfl rfl rfl rfl rfl rfl rfl ⟨rfl, rfl, rfl, rfl, rfl⟩ rfl rfl rfl rfl rfl over_named Try.func3 over_closed over_inst over_wrap
    (fun os started H enc _ => lifted os started H enc)
theorem proved : Rows.FnExactHitsValidSaid := over
end Go.Proofs.Ytlmplfpdmelcjaa.exHitsValid
