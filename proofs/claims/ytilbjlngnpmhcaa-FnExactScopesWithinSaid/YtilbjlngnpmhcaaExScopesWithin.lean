/- For every two lists of numbers, sets or not, the program's ScopesWithin answers as the model's and leaves the lists as they were: the law FnExactScopesWithin returns true, whatever the input, with no condition beyond the statement's own. -/
import Derived.Test.YtilbjlngnpmhcaaRows
import Derived.Test.YtilbjlngnpmhcaaSetFns
import Derived.Test.YtilbjlngnpmhcaaWithin
import Derived.Test.YtilbjlngnpmhcaaTo
import Derived.Test.YtilbjlngnpmhcaaEq
import Derived.Test.YtilbjlngnpmhcaaOpenI
namespace Go.Proofs.Ytilbjlngnpmhcaa.exScopesWithin
open Go.ChangeShapes Go.WideShapes Go.ChangeAt Go.RowKit
set_option linter.unusedVariables false
set_option linter.unusedSimpArgs false
theorem row_later {w w' : World} {v : Value} {l : List Int} (h : IntRow (· < w.heap.size) w v l) (hb : Below w.heap.size w w') : IntRow (· < w'.heap.size) w' v l :=
  (h.later (Same.of_below hb (fun k hk => hk))).mono (fun k (hk : k < w.heap.size) => Nat.lt_of_lt_of_le hk hb.size)
theorem beq_self (l : List Int) : (l == l) = true := by simp
set_option maxRecDepth 100000 in
set_option maxHeartbeats 4000000 in
theorem walk (w : World) (f : List Int) (v : Value) (hv : IntRow (· < w.heap.size) w v f) (g : List Int) (u : Value) (hu : IntRow (· < w.heap.size) w u g) :
    Calls Try.prog 9 #[v, u] w fun e w' => e = .returned (.bool true) ∧ Below w.heap.size w w' := by
  obtain ⟨a, cap, rfl, h⟩ := id hv
  clear h
  obtain ⟨b, cap', rfl, h⟩ := id hu
  clear h
  have HV := Lib.hid hv
  have HU := Lib.hid hu
  clear hv hu
  have hEf := beq_self f
  have hEg := beq_self g
  have HEF := Lib.hid hEf
  have HEG := Lib.hid hEg
  clear hEf hEg
  go_enter Try.func9, Try.ntmps9
  by_cases hf : f.length ≤ 1048576
  · by_cases hg : g.length ≤ 1048576
    · go_wp2_with fail
      refine (toIntS_any (· < w.heap.size) f _ w (fun k hk => hk) HV.out hf).mono ?_
      rintro e w1 ⟨cA, pA, rfl, ⟨bA, ho, hn, _⟩, hb⟩
      have RA := Lib.hid (ho.inRow (φ := (· < w1.heap.size)) (fun c hc => (hn.2 c hc).2))
      have HBN := Lib.hid hb
      clear hb ho hn
      have HV2 := Lib.hid (row_later HV.out HBN.out)
      have HU2 := Lib.hid (row_later HU.out HBN.out)
      clear HV HU
      have HV := HV2
      have HU := HU2
      clear HV2 HU2
      have HB : Hid (Below w.heap.size w w1) := HBN.out
      clear HBN
      go_wp2_with fail
      refine (toIntS_any (· < w1.heap.size) g _ w1 (fun k hk => hk) HU.out hg).mono ?_
      rintro e w2 ⟨cB, pB, rfl, ⟨bB, ho, hn, _⟩, hb⟩
      have RB := Lib.hid (ho.inRow (φ := (· < w2.heap.size)) (fun c hc => (hn.2 c hc).2))
      have HBN := Lib.hid hb
      clear hb ho hn
      have HV2 := Lib.hid (row_later HV.out HBN.out)
      have HU2 := Lib.hid (row_later HU.out HBN.out)
      have RA2 := Lib.hid (row_later RA.out HBN.out)
      clear HV HU RA
      have HV := HV2
      have HU := HU2
      have RA := RA2
      clear HV2 HU2 RA2
      have HB2 : Hid (Below w.heap.size w w2) := HB.out.trans (HBN.out.mono HB.out.size)
      clear HB
      have HB := HB2
      clear HB2
      clear HBN
      go_wp2_with fail
      refine (specWithin_any (· < w2.heap.size) f g _ _ w2 RA.out RB.out).mono ?_
      rintro e wq ⟨rfl, hw⟩
      rw [hw]
      clear RA RB hw
      go_wp2_with fail
      refine (toIntS_any (· < w2.heap.size) f _ w2 (fun k hk => hk) HV.out hf).mono ?_
      rintro e w3 ⟨cC, pC, rfl, ⟨bC, ho, hn, _⟩, hb⟩
      have RC := Lib.hid (ho.inRow (φ := (· < w3.heap.size)) (fun c hc => (hn.2 c hc).2))
      have HBN := Lib.hid hb
      clear hb ho hn
      have HV2 := Lib.hid (row_later HV.out HBN.out)
      have HU2 := Lib.hid (row_later HU.out HBN.out)
      clear HV HU
      have HV := HV2
      have HU := HU2
      clear HV2 HU2
      have HB2 : Hid (Below w.heap.size w w3) := HB.out.trans (HBN.out.mono HB.out.size)
      clear HB
      have HB := HB2
      clear HB2
      clear HBN
      go_wp2_with fail
      refine (toIntS_any (· < w3.heap.size) g _ w3 (fun k hk => hk) HU.out hg).mono ?_
      rintro e w4 ⟨cD, pD, rfl, ⟨bD, ho, hn, _⟩, hb⟩
      have RD := Lib.hid (ho.inRow (φ := (· < w4.heap.size)) (fun c hc => (hn.2 c hc).2))
      have HBN := Lib.hid hb
      clear hb ho hn
      have HV2 := Lib.hid (row_later HV.out HBN.out)
      have HU2 := Lib.hid (row_later HU.out HBN.out)
      have RC2 := Lib.hid (row_later RC.out HBN.out)
      clear HV HU RC
      have HV := HV2
      have HU := HU2
      have RC := RC2
      clear HV2 HU2 RC2
      have HB2 : Hid (Below w.heap.size w w4) := HB.out.trans (HBN.out.mono HB.out.size)
      clear HB
      have HB := HB2
      clear HB2
      clear HBN
      go_wp2_with fail
      refine (implWithin_any (· < w4.heap.size) f g _ _ _ _ w4 (fun k hk => hk) RC.out RD.out hf hg).mono ?_
      rintro e w5 ⟨rfl, hb⟩
      have HBN := Lib.hid hb
      clear hb 
      have HV2 := Lib.hid (row_later HV.out HBN.out)
      have HU2 := Lib.hid (row_later HU.out HBN.out)
      have RC2 := Lib.hid (row_later RC.out HBN.out)
      have RD2 := Lib.hid (row_later RD.out HBN.out)
      clear HV HU RC RD
      have HV := HV2
      have HU := HU2
      have RC := RC2
      have RD := RD2
      clear HV2 HU2 RC2 RD2
      have HB2 : Hid (Below w.heap.size w w5) := HB.out.trans (HBN.out.mono HB.out.size)
      clear HB
      have HB := HB2
      clear HB2
      clear HBN
      go_wp2_with fail
      refine (toIntS_any (· < w5.heap.size) f _ w5 (fun k hk => hk) HV.out hf).mono ?_
      rintro e w6 ⟨cE, pE, rfl, ⟨bE, ho, hn, _⟩, hb⟩
      have RE := Lib.hid (ho.inRow (φ := (· < w6.heap.size)) (fun c hc => (hn.2 c hc).2))
      have HBN := Lib.hid hb
      clear hb ho hn
      have HV2 := Lib.hid (row_later HV.out HBN.out)
      have HU2 := Lib.hid (row_later HU.out HBN.out)
      have RC2 := Lib.hid (row_later RC.out HBN.out)
      have RD2 := Lib.hid (row_later RD.out HBN.out)
      clear HV HU RC RD
      have HV := HV2
      have HU := HU2
      have RC := RC2
      have RD := RD2
      clear HV2 HU2 RC2 RD2
      have HB2 : Hid (Below w.heap.size w w6) := HB.out.trans (HBN.out.mono HB.out.size)
      clear HB
      have HB := HB2
      clear HB2
      clear HBN
      go_wp2_with fail
      refine (eqIntS_any (· < w6.heap.size) (· < w6.heap.size) f f _ _ w6 RC.out RE.out).mono ?_
      rintro e w7 ⟨rfl, hb⟩
      rw [HEF.out]
      have HBN := Lib.hid hb
      clear hb 
      have HU2 := Lib.hid (row_later HU.out HBN.out)
      have RD2 := Lib.hid (row_later RD.out HBN.out)
      clear HU RD
      have HU := HU2
      have RD := RD2
      clear HU2 RD2
      have HB2 : Hid (Below w.heap.size w w7) := HB.out.trans (HBN.out.mono HB.out.size)
      clear HB
      have HB := HB2
      clear HB2
      clear HBN
      go_wp2_with fail
      refine (toIntS_any (· < w7.heap.size) g _ w7 (fun k hk => hk) HU.out hg).mono ?_
      rintro e w8 ⟨cG, pG, rfl, ⟨bG, ho, hn, _⟩, hb⟩
      have RG := Lib.hid (ho.inRow (φ := (· < w8.heap.size)) (fun c hc => (hn.2 c hc).2))
      have HBN := Lib.hid hb
      clear hb ho hn
      have RD2 := Lib.hid (row_later RD.out HBN.out)
      clear RD
      have RD := RD2
      clear RD2
      have HB2 : Hid (Below w.heap.size w w8) := HB.out.trans (HBN.out.mono HB.out.size)
      clear HB
      have HB := HB2
      clear HB2
      clear HBN
      go_wp2_with fail
      refine (eqIntS_any (· < w8.heap.size) (· < w8.heap.size) g g _ _ w8 RD.out RG.out).mono ?_
      rintro e w9 ⟨rfl, hb⟩
      rw [HEG.out]
      have HBN := Lib.hid hb
      clear hb 
      have HB2 : Hid (Below w.heap.size w w9) := HB.out.trans (HBN.out.mono HB.out.size)
      clear HB
      have HB := HB2
      clear HB2
      clear HBN
      go_wp2_with fail
      go_ret
      exact ⟨rfl, HB.out⟩
    · go_wp2_with fail
      go_ret
      exact ⟨rfl, Below.refl _ _⟩
  · go_wp2_with fail
    go_ret
    exact ⟨rfl, Below.refl _ _⟩
theorem own : ownKnob Try.prog.godebug = none := by kernel_rfl
theorem laidOut : laidOutB Try.prog = true := by kernel_rfl
set_option maxRecDepth 100000 in
theorem lifted (os : Os) (started : os.Started) (H : Type) (enc : TypeId × Value → H) :
    ReturnsInHanded {} Try.checked os 9 .any (Rows.fnExactScopesWithinSpec.pre6 enc Try.prog Try.f9 Rows.fnExactScopesWithinRow.domain false) (Rows.fnExactScopesWithinSpec.post enc Try.prog Try.f9 false true false false) := by
  refine returnsInHanded_of_change (C := Try.checked) own started (by kernel_rfl) Try.func9
    (ChangeSpec.witness6 (enc := enc) (C := Try.checked) false ⟨#[], #[.slice none 0 0, .slice none 0 0], []⟩ 12 (by kernel_rfl) (by kernel_rfl) (by kernel_rfl) (by kernel_rfl)) ?_
  intro W base args ds gs before hval0 hW hcnd _
  have hval : ∀ (j : Nat) t v, Try.f9.params[j]? = some t → args[j]? = some v → Value.okWide Try.prog W .any base t v := hval0
  have hW' := hW
  obtain ⟨p, q, hA0, hV, rfl, hfz, hnd⟩ := hW
  have hA : DataW.TrodAll enc Try.prog W 0 (fun _ => true) true Try.f9.params.toList args.toList ds p := hA0
  rw [Try.params9] at hA hval
  obtain ⟨v0, vs0, d0, ds0, p0, q0, hargs, rfl, rfl, h0, r0⟩ := trodAll_cons hA
  obtain ⟨v1, vs1, d1, ds1, p1, q1, rfl, rfl, rfl, h1, r1⟩ := trodAll_cons r0
  obtain ⟨rfl, rfl, rfl⟩ := trodAll_nil r1
  obtain rfl : args = #[v0, v1] := by cases args; simp_all
  obtain ⟨rfl, rfl⟩ := trodVars_none hV
  have k0 := h0
  have lt0 : ∀ x ∈ p0, x.block < W.heap.size := by obtain ⟨m, hm⟩ := k0; exact DataW.trod_lt m _ _ _ hm
  obtain ⟨f0, i0⟩ := open_ints_arg (hval 0 22 v0 rfl rfl) h0
  have k1 := h1
  have lt1 : ∀ x ∈ p1, x.block < W.heap.size := by obtain ⟨m, hm⟩ := k1; exact DataW.trod_lt m _ _ _ hm
  obtain ⟨f1, i1⟩ := open_ints_arg (hval 1 22 v1 rfl rfl) h1
  clear hA0 hval0
  try simp only [List.append_nil] at hW'
  refine (walk W f0 v0 i0 f1 v1 i1).mono fun e W' ⟨he, bel⟩ => ?_
  subst he
  exact ⟨_, rfl, _, _, _, [], _, [], hW', trodAll_mk1 (shut_bool Try.underlying4 _), (trodAll_cons_mk (Below.trod laidOut (by kernel_rfl) (of_decide_eq_true (by kernel_rfl)) k0 bel lt0) (trodAll_cons_mk (Below.trod laidOut (by kernel_rfl) (of_decide_eq_true (by kernel_rfl)) k1 bel lt1) trodAll_mk0)), rfl, bel.frame _, fun h => by cases h⟩
theorem over : Rows.fnExactScopesWithinRow.holds Try.pinned (OpenSpec.ofChange Rows.fnExactScopesWithinSpec) :=
  OpenClaim.holds_of_wide 9 Try.f9 rfl rfl rfl rfl rfl rfl rfl ⟨rfl, rfl, rfl, rfl, rfl⟩ rfl rfl rfl rfl rfl (by kernel_rfl) Try.func9 (by kernel_rfl)
    (of_decide_eq_true (by kernel_rfl)) (by unfold Func.isWrapper; first | (rw [if_pos (by decide +kernel)]; kernel_rfl) | (rw [if_neg (by decide +kernel)]; exact ⟨rfl, rfl⟩))
    (fun os started H enc _ => lifted os started H enc)
theorem proved : Rows.FnExactScopesWithinSaid := over
end Go.Proofs.Ytilbjlngnpmhcaa.exScopesWithin
