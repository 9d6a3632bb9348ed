/- The two states at the start agree, and the program's is made anew each time: the law FnExactStartExpansion returns true, with no condition beyond the statement's own. -/
import Derived.Test.YtlmplfpdmelcjaaRows
import Derived.Test.YtlmplfpdmelcjaaFacts
import Derived.Test.YtlmplfpdmelcjaaStState
namespace Go.Proofs.Ytlmplfpdmelcjaa.exStartExpansion
open Go.ChangeShapes Go.WideShapes Go.ChangeAt Go.RowKit
open Go.ChangeMaps (open_string shut_string)
set_option linter.unusedVariables false
set_option linter.unusedSimpArgs false
set_option maxRecDepth 100000 in
set_option maxHeartbeats 4000000 in
theorem walk (w : World) :
    Calls Try.prog 14 #[] w fun e w' => e = .returned (.bool true) ∧ Below w.heap.size w w' := by
  go_enter Try.func14, Try.ntmps14
  go_wp2_with fail
  refine (specStart_any w).mono ?_
  rintro e w1 ⟨g1, cap1, rfl, hr1, hb1⟩
  have hs1 := hb1.size
  have HR1 := Lib.hid hr1
  have HB1 := Lib.hid hb1
  clear hr1 hb1
  simp only [stateV]
  go_wp2_with fail
  obtain ⟨v1, hv1⟩ : ∃ v1, v1 = w1.alloc (.cells #[.slice (some ⟨g1, 0, none⟩) 5 cap1, .slice none 0 0, .int .i64 0, .int .i64 10, .int .i64 0] 93) := ⟨_, rfl⟩
  rw [← hv1]
  have hbv : Below w1.heap.size w1 v1 := by rw [hv1]; exact below_alloc _ _
  have hsv : v1.heap.size = w1.heap.size + 1 := by rw [hv1]; simp
  have HX1 : Hid (StBox v1 w1.heap.size (some ⟨g1, 0, none⟩) cap1) := by unfold Hid; rw [hv1]; exact StBox.fresh _ _ _ _
  have HR1a := Lib.hid (HR1.out.later (same_below hbv))
  have HB1a : Hid (Below w.heap.size w v1) := HB1.out.trans (hbv.mono hs1)
  clear hv1 hbv HR1 HB1
  refine (implStart_any v1).mono ?_
  rintro e w2 ⟨g2, rfl, ho2, hn2, hb2⟩
  have hs2 := hb2.size
  have HX1b := Lib.hid (HX1.out.later hb2)
  have HR1b := Lib.hid (HR1a.out.later (same_below (hb2.mono (by omega))))
  have HB2 : Hid (Below w.heap.size w w2) := HB1a.out.trans (hb2.mono (by omega))
  have HO2 := Lib.hid ho2
  have hg2 := hn2.2 g2 (by simp)
  have hlt12 : w1.heap.size < w2.heap.size := by omega
  clear ho2 hn2 hb2 HX1 HR1a HB1a
  simp only [stateV]
  obtain ⟨x0, x1, x2, x3, x4⟩ := HX1b.out
  go_wp2_with fail
  obtain ⟨v2, hv2⟩ : ∃ v2, v2 = w2.alloc (.cells #[.slice (some ⟨g2, 0, none⟩) 5 5, .slice none 0 0, .int .i64 0, .int .i64 10, .int .i64 0] 93) := ⟨_, rfl⟩
  rw [← hv2]
  have hbv : Below w2.heap.size w2 v2 := by rw [hv2]; exact below_alloc _ _
  have hsv2 : v2.heap.size = w2.heap.size + 1 := by rw [hv2]; simp
  have HX2 : Hid (StBox v2 w2.heap.size (some ⟨g2, 0, none⟩) 5) := by unfold Hid; rw [hv2]; exact StBox.fresh _ _ _ _
  have HX1c := Lib.hid (HX1b.out.later hbv)
  have HR1c := Lib.hid (HR1b.out.later (same_below (hbv.mono (by omega))))
  have HB2a : Hid (Below w.heap.size w v2) := HB2.out.trans (hbv.mono (by omega))
  have HO2a := Lib.hid (HO2.out.later (SameOn.of_below hbv (fun c hc => by rw [List.mem_singleton] at hc; omega)))
  clear hv2 hbv HR1b HB2 HX1b HO2 x0 x1 x2 x3 x4
  refine (eqState_any v2 (some ⟨g2, 0, none⟩) (some ⟨g1, 0, none⟩) 5 cap1 (HO2a.out.inRow (fun c hc => by rw [List.mem_singleton] at hc; omega)) (row_mono (fun k (hk : k < w1.heap.size) => by omega) HR1c.out)).mono ?_
  rintro e w3 ⟨rfl, hb3⟩
  have hs3 := hb3.size
  have HX1d := Lib.hid (HX1c.out.later hb3)
  have HX2d := Lib.hid (HX2.out.later hb3)
  have HR1d := Lib.hid (HR1c.out.later (same_below (hb3.mono (by omega))))
  have HB3 : Hid (Below w.heap.size w w3) := HB2a.out.trans (hb3.mono (by omega))
  have HO2d := Lib.hid (HO2a.out.later (SameOn.of_below hb3 (fun c hc => by rw [List.mem_singleton] at hc; omega)))
  clear hb3 HX1c HX2 HR1c HB2a HO2a
  obtain ⟨y0, y1, y2, y3, y4⟩ := HX2d.out
  go_wp2_with fail
  refine (markState_any w3 (some ⟨g2, 0, none⟩) 5 [g2] HO2d.out (by simp) (fun c hc => by rw [List.mem_singleton] at hc; omega)).mono ?_
  rintro e w4 ⟨rfl, hm4, ho4⟩
  have hs4 := ho4.size
  have HX1e := Lib.hid (HX1d.out.only ho4 (by simp; omega))
  have HX2e := Lib.hid (HX2d.out.only ho4 (by simp; omega))
  have HR1e := Lib.hid (HR1d.out.later (ho4.same (fun k (hk : k < w1.heap.size) => ⟨by omega, by simp; omega⟩)))
  have HB4 : Hid (Below w.heap.size w w4) := HB3.out.trans (ho4.below (fun c hc => by rw [List.mem_singleton] at hc; omega) (by omega))
  have HM4 := Lib.hid (hm4.inRow (φ := (· < w2.heap.size)) (fun c hc => by rw [List.mem_singleton] at hc; omega))
  clear hm4 ho4 HX1d HX2d HR1d HB3 HO2d y0 y1 y2 y3 y4
  obtain ⟨y0, y1, y2, y3, y4⟩ := HX2e.out
  go_wp2_with fail
  refine (heldState_any w2.heap.size w4 (some ⟨g2, 0, none⟩) 5 (by omega) HM4.out).mono ?_
  rintro e w5 ⟨rfl, hb5⟩
  have hs5 := hb5.size
  have HX1f := Lib.hid (HX1e.out.later hb5)
  have HX2f := Lib.hid (HX2e.out.later hb5)
  have HR1f := Lib.hid (HR1e.out.later (same_below (hb5.mono (by omega))))
  have HB5 : Hid (Below w.heap.size w w5) := HB4.out.trans (hb5.mono (by omega))
  have HM5 := Lib.hid (HM4.out.later (same_below (hb5.mono (by omega))))
  clear hb5 HX1e HX2e HR1e HB4 HM4 y0 y1 y2 y3 y4
  go_wp2_with fail
  refine (implStart_any w5).mono ?_
  rintro e w6 ⟨g6, rfl, ho6, hn6, hb6⟩
  have hs6 := hb6.size
  have HX1g := Lib.hid (HX1f.out.later hb6)
  have HX2g := Lib.hid (HX2f.out.later hb6)
  have HR1g := Lib.hid (HR1f.out.later (same_below (hb6.mono (by omega))))
  have HB6 : Hid (Below w.heap.size w w6) := HB5.out.trans (hb6.mono (by omega))
  have HM6 := Lib.hid (HM5.out.later (same_below (hb6.mono (by omega))))
  have hg6 := hn6.2 g6 (by simp)
  have HO6 := Lib.hid (ho6.inRow (φ := (· < w6.heap.size)) (fun c hc => by rw [List.mem_singleton] at hc; omega))
  have hlt16 : w1.heap.size < w6.heap.size := by omega
  clear ho6 hn6 hb6 HX1f HX2f HR1f HB5 HM5
  simp only [stateV]
  obtain ⟨x0, x1, x2, x3, x4⟩ := HX1g.out
  go_wp2_with fail
  obtain ⟨v6, hv6⟩ : ∃ v6, v6 = w6.alloc (.cells #[.slice (some ⟨g6, 0, none⟩) 5 5, .slice none 0 0, .int .i64 0, .int .i64 10, .int .i64 0] 93) := ⟨_, rfl⟩
  rw [← hv6]
  have hbv : Below w6.heap.size w6 v6 := by rw [hv6]; exact below_alloc _ _
  have hsv6 : v6.heap.size = w6.heap.size + 1 := by rw [hv6]; simp
  have HX2h := Lib.hid (HX2g.out.later hbv)
  have HR1h := Lib.hid (HR1g.out.later (same_below (hbv.mono (by omega))))
  have HB6a : Hid (Below w.heap.size w v6) := HB6.out.trans (hbv.mono (by omega))
  have HM6a := Lib.hid (HM6.out.later (same_below (hbv.mono (by omega))))
  have HO6a := Lib.hid (HO6.out.later (same_below hbv))
  clear hv6 hbv HX1g HX2g HR1g HB6 HM6 HO6 x0 x1 x2 x3 x4
  refine (eqState_any v6 (some ⟨g6, 0, none⟩) (some ⟨g1, 0, none⟩) 5 cap1 (row_mono (fun k (hk : k < w6.heap.size) => by omega) HO6a.out) (row_mono (fun k (hk : k < w1.heap.size) => by omega) HR1h.out)).mono ?_
  rintro e w7 ⟨rfl, hb7⟩
  have hs7 := hb7.size
  have HX2i := Lib.hid (HX2h.out.later hb7)
  have HB7 : Hid (Below w.heap.size w w7) := HB6a.out.trans (hb7.mono (by omega))
  have HM7 := Lib.hid (HM6a.out.later (same_below (hb7.mono (by omega))))
  clear hb7 HX2h HR1h HB6a HM6a HO6a
  obtain ⟨y0, y1, y2, y3, y4⟩ := HX2i.out
  go_wp2_with fail
  refine (heldState_any w2.heap.size w7 (some ⟨g2, 0, none⟩) 5 (by omega) HM7.out).mono ?_
  rintro e w8 ⟨rfl, hb8⟩
  have HB8 : Hid (Below w.heap.size w w8) := HB7.out.trans (hb8.mono (by omega))
  clear hb8 y0 y1 y2 y3 y4
  go_wp2_with fail
  go_ret
  exact ⟨rfl, HB8.out⟩
theorem own : ownKnob Try.prog.godebug = none := by kernel_rfl
theorem laidOut : laidOutB Try.prog = true := by kernel_rfl
set_option maxRecDepth 100000 in
theorem lifted (os : Os) (started : os.Started) (H : Type) (enc : TypeId × Value → H) :
    ReturnsInHanded {} Try.checked os 14 .any (Rows.fnExactStartExpansionSpec.pre6 enc Try.prog Try.f14 Rows.fnExactStartExpansionRow.domain false) (Rows.fnExactStartExpansionSpec.post enc Try.prog Try.f14 false true false false) := by
  refine returnsInHanded_of_change (C := Try.checked) own started (by kernel_rfl) Try.func14
    (ChangeSpec.witness6 (enc := enc) (C := Try.checked) false ⟨#[], #[], []⟩ 12 (by kernel_rfl) (by kernel_rfl) (by kernel_rfl) (by kernel_rfl)) ?_
  intro W base args ds gs before hval0 hW hcnd _
  have hval : ∀ (j : Nat) t v, Try.f14.params[j]? = some t → args[j]? = some v → Value.okWide Try.prog W .any base t v := hval0
  have hW' := hW
  obtain ⟨p, q, hA0, hV, rfl, hfz, hnd⟩ := hW
  have hA : DataW.TrodAll enc Try.prog W 0 (fun _ => true) true Try.f14.params.toList args.toList ds p := hA0
  rw [Try.params14] at hA hval
  obtain ⟨hargs, rfl, rfl⟩ := trodAll_nil hA
  obtain rfl : args = #[] := by cases args; simp_all
  obtain ⟨rfl, rfl⟩ := trodVars_none hV
  clear hA0 hval0
  try simp only [List.append_nil] at hW'
  refine (walk W ).mono fun e W' ⟨he, bel⟩ => ?_
  subst he
  exact ⟨_, rfl, _, _, _, [], _, [], hW', trodAll_mk1 (shut_bool Try.underlying4 _), trodAll_mk0, rfl, bel.frame _, fun h => by cases h⟩
theorem over_named : Try.pinned.checked.prog.funcNamed Rows.fnExactStartExpansionRow.func = some 14 := by kernel_rfl
theorem c_inPlace : (Rows.fnExactStartExpansionRow.inPlace == Try.pinned.checked.prog.inPlace 14) = true := by kernel_rfl
theorem c_unfollowed : (Rows.fnExactStartExpansionRow.unfollowed == Try.pinned.checked.prog.unfollowed 14) = true := by kernel_rfl
theorem c_recurses : (Rows.fnExactStartExpansionRow.recurses == Try.pinned.checked.prog.recurses 14) = true := by kernel_rfl
theorem c_named : (Rows.fnExactStartExpansionRow.named == Try.pinned.checked.prog.varsNamed 14) = true := by kernel_rfl
theorem over_closed : joinedFacts Try.pinned.checked.prog 14 Try.f14 Rows.fnExactStartExpansionSpec Rows.fnExactStartExpansionRow = true := by
  unfold joinedFacts
  exact Facts.band (Facts.band (Facts.band (Facts.band (Facts.band (Facts.band (Facts.band (Facts.band (Facts.band (Facts.band (Facts.band (Facts.band (Facts.band (Facts.band (Facts.band (Facts.band (Facts.band (Facts.band (Facts.band (Facts.band (Facts.band (Facts.band (Facts.band (Facts.band (Facts.band (Facts.band (Facts.band (Facts.band (Facts.band (Facts.band (Facts.band (by kernel_rfl) Facts.laid) Facts.rowed) (by kernel_rfl)) (by kernel_rfl)) (by kernel_rfl)) Facts.stops) (by kernel_rfl)) Facts.knobs) c_inPlace) c_unfollowed) c_recurses) c_named) (by kernel_rfl)) (by kernel_rfl)) (by kernel_rfl)) (by kernel_rfl)) (by kernel_rfl)) (by kernel_rfl)) (by kernel_rfl)) (by kernel_rfl)) (by kernel_rfl)) (by rw [Facts.plain]; kernel_rfl)) (by kernel_rfl)) Facts.heard) Facts.enter) (by rw [Facts.lifts]; kernel_rfl)) (by rw [Facts.made]; kernel_rfl)) (by kernel_rfl)) (by kernel_rfl)) (by kernel_rfl)) (by kernel_rfl)
theorem over_inst : Func.isInstance Try.pinned.checked.prog Try.f14 Rows.fnExactStartExpansionRow.origin Rows.fnExactStartExpansionRow.targs := of_decide_eq_true (by kernel_rfl)
theorem over_wrap : Func.isWrapper Try.pinned.checked.prog Try.f14 Rows.fnExactStartExpansionRow.wrapper Rows.fnExactStartExpansionRow.mainSum := (by unfold Func.isWrapper; first | (rw [if_pos (by decide +kernel)]; kernel_rfl) | (rw [if_neg (by decide +kernel)]; exact ⟨rfl, rfl⟩))
theorem over : Rows.fnExactStartExpansionRow.holds Try.pinned (OpenSpec.ofChange Rows.fnExactStartExpansionSpec) :=
  OpenClaim.holds_of_wide 14 Try.f14 rfl rfl rfl rfl rfl rfl rfl ⟨rfl, rfl, rfl, rfl, rfl⟩ rfl rfl rfl rfl rfl over_named Try.func14 over_closed over_inst over_wrap
    (fun os started H enc _ => lifted os started H enc)
theorem proved : Rows.FnExactStartExpansionSaid := over
end Go.Proofs.Ytlmplfpdmelcjaa.exStartExpansion
