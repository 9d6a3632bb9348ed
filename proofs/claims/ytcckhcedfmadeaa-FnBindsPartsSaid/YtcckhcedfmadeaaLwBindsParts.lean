/- For every input the drawn bindings without their first and without their last are valid if all of them are, and the program and the model agree on them: the law FnBindsParts returns true, whatever the input, with no condition beyond the statement's own. -/
import Derived.Test.YtcckhcedfmadeaaRows
import Derived.Test.YtcckhcedfmadeaaImplCands
import Derived.Test.YtcckhcedfmadeaaDrawBValid
import Derived.Test.YtcckhcedfmadeaaBdParts
namespace Go.Proofs.Ytcckhcedfmadeaa.lwBindsParts
open Go.ChangeShapes Go.WideShapes Go.ChangeAt Go.RowKit
set_option linter.unusedVariables false
set_option linter.unusedSimpArgs false
theorem row_up {w w' : World} {v : Value} {l : List Bd} (h : BdRow (· < w.heap.size) w v l) (hb : Below w.heap.size w w') : BdRow (· < w'.heap.size) w' v l :=
  bd_mono (fun k (hk : k < w.heap.size) => Nat.lt_of_lt_of_le hk hb.size) (h.later (same_below hb))
set_option maxRecDepth 100000 in
set_option maxHeartbeats 4000000 in
theorem walk (w : World) (n : Nat) (v : Value) (hv : Bytes w v n) :
    Calls Try.prog 6 #[v] w fun e w' => e = .returned (.bool true) ∧ Below w.heap.size w w' := by
  have HV := Lib.hid hv
  obtain ⟨a0, c0, rfl, hn1, hn2, _⟩ := hv
  unfold maxLen at hn2
  by_cases hbig : (1048576 : Int) < n
  · go_enter Try.func6, Try.ntmps6
    go_wp2_with fail
    go_ret
    exact ⟨rfl, Below.refl _ _⟩
  go_enter Try.func6, Try.ntmps6
  go_wp2_with fail
  refine (drawBindsValid_any _ n w HV.out).mono ?_
  rintro e w1 ⟨l, v1, rfl, hrow, hl9, _, hb1⟩
  have HR1 : Hid (BdRow (· < w1.heap.size) w1 v1 l) := bd_mono (φ := fun k => w.heap.size ≤ k ∧ k < w1.heap.size) (fun k hk => hk.2) hrow
  obtain ⟨va, vc, rfl, hvc, hvm, _, hva⟩ := hrow
  have HVA := Lib.hid hva
  have hs1 := hb1.size
  have HB1 := Lib.hid hb1
  unfold maxLen at hvm
  clear hva hb1 HV
  obtain ⟨ok, hok⟩ : ∃ ok, bindsB l = ok := ⟨_, rfl⟩
  have HOK := Lib.hid hok
  clear hok
  go_wp2_with fail
  refine (implBindsValid_any w1.heap.size l _ w1 (Nat.le_refl _) HR1.out).mono ?_
  rintro e w2 ⟨rfl, hb2⟩
  rw [HOK.out]
  have hs2 := hb2.size
  have HB2 : Hid (Below w.heap.size w w2) := HB1.out.trans (hb2.mono (by omega))
  have HR2 := Lib.hid (row_up HR1.out hb2)
  clear hb2
  go_wp2_with fail
  refine (specBindsValid_any w2.heap.size l _ w2 (Nat.le_refl _) HR2.out).mono ?_
  rintro e w3 ⟨rfl, hb3⟩
  rw [HOK.out]
  have hs3 := hb3.size
  have HB3 : Hid (Below w.heap.size w w3) := HB2.out.trans (hb3.mono (by omega))
  have HR3 := Lib.hid (row_up HR2.out hb3)
  clear hb3
  cases ok with
  | false =>
    go_wp2_with fail
    refine (specBindsValid_any w3.heap.size l _ w3 (Nat.le_refl _) HR3.out).mono ?_
    rintro e w4 ⟨rfl, hb4⟩
    rw [HOK.out]
    have HB4 : Hid (Below w.heap.size w w4) := HB3.out.trans (hb4.mono (by omega))
    clear hb4
    go_wp2_with fail
    go_ret
    exact ⟨rfl, HB4.out⟩
  | true =>
    by_cases h0 : l.length = 0
    · have h0' : ((l.length : Int) == 0) = true := by rw [h0]; rfl
      have HZ := Lib.hid h0
      clear h0
      go_wp2_with fail
      refine (specBindsValid_any w3.heap.size l _ w3 (Nat.le_refl _) HR3.out).mono ?_
      rintro e w4 ⟨rfl, hb4⟩
      rw [HOK.out]
      have HB4 : Hid (Below w.heap.size w w4) := HB3.out.trans (hb4.mono (by omega))
      clear hb4
      go_wp2_with fail
      go_ret
      exact ⟨rfl, HB4.out⟩
    · have h0' : ((l.length : Int) == 0) = false := beq_false_of_ne (by omega)
      obtain ⟨x, r, rfl⟩ : ∃ x r, l = x :: r := by cases l with | nil => simp at h0 | cons x r => exact ⟨x, r, rfl⟩
      rcases HVA.out with h | ⟨bb, o, rfl, _, _⟩
      · cases h
      have hlen : (x :: r).length = r.length + 1 := rfl
      rw [hlen] at h0' hvc ⊢
      by_cases hv1 : vc = 1
      · obtain rfl : r = [] := List.length_eq_zero_iff.1 (by omega)
        subst hv1
        go_wp2_with fail
        have HT : Hid (BdRow (· < w3.heap.size) w3 (.slice (some ⟨bb, o, none⟩) 0 0) []) := ⟨_, 0, rfl, Nat.le_refl _, Nat.zero_le _, fun x hx => (by cases hx), .inl rfl⟩
        refine (implBindsValid_any w3.heap.size [] _ w3 (Nat.le_refl _) HT.out).mono ?_
        rintro e w4 ⟨rfl, hb4⟩
        rw [bindsB_tail HOK.out]
        have hs4 := hb4.size
        have HB4 : Hid (Below w.heap.size w w4) := HB3.out.trans (hb4.mono (by omega))
        have HF : Hid (BdRow (· < w4.heap.size) w4 (.slice (some ⟨bb, o, none⟩) 0 1) [x].dropLast) := BdRow.front (row_up HR3.out hb4)
        clear hb4
        go_wp2_with fail
        refine (implBindsValid_any w4.heap.size [x].dropLast _ w4 (Nat.le_refl _) HF.out).mono ?_
        rintro e w5 ⟨rfl, hb5⟩
        rw [bindsB_front HOK.out]
        have HB5 : Hid (Below w.heap.size w w5) := HB4.out.trans (hb5.mono (by omega))
        clear hb5
        go_wp2_with fail
        go_ret
        exact ⟨rfl, HB5.out⟩
      · go_wp2_with fail
        have HT : Hid (BdRow (· < w3.heap.size) w3 (.slice (some ⟨bb, o + 3, none⟩) r.length (vc - 1)) r) := BdRow.tail HR3.out
        refine (implBindsValid_any w3.heap.size r _ w3 (Nat.le_refl _) HT.out).mono ?_
        rintro e w4 ⟨rfl, hb4⟩
        rw [bindsB_tail HOK.out]
        have hs4 := hb4.size
        have HB4 : Hid (Below w.heap.size w w4) := HB3.out.trans (hb4.mono (by omega))
        have HF : Hid (BdRow (· < w4.heap.size) w4 (.slice (some ⟨bb, o, none⟩) r.length vc) (x :: r).dropLast) := BdRow.front (row_up HR3.out hb4)
        clear hb4
        go_wp2_with fail
        refine (implBindsValid_any w4.heap.size (x :: r).dropLast _ w4 (Nat.le_refl _) HF.out).mono ?_
        rintro e w5 ⟨rfl, hb5⟩
        rw [bindsB_front HOK.out]
        have HB5 : Hid (Below w.heap.size w w5) := HB4.out.trans (hb5.mono (by omega))
        clear hb5
        go_wp2_with fail
        go_ret
        exact ⟨rfl, HB5.out⟩
theorem own : ownKnob Try.prog.godebug = none := by kernel_rfl
theorem laidOut : laidOutB Try.prog = true := by kernel_rfl
set_option maxRecDepth 100000 in
theorem lifted (os : Os) (started : os.Started) (H : Type) (enc : TypeId × Value → H) :
    ReturnsInHanded {} Try.checked os 6 .any (Rows.fnBindsPartsSpec.pre6 enc Try.prog Try.f6 Rows.fnBindsPartsRow.domain false) (Rows.fnBindsPartsSpec.post enc Try.prog Try.f6 false true false false) := by
  refine returnsInHanded_of_change (C := Try.checked) own started (by kernel_rfl) Try.func6
    (ChangeSpec.witness6 (enc := enc) (C := Try.checked) false ⟨#[], #[.slice none 0 0], []⟩ 12 (by kernel_rfl) (by kernel_rfl) (by kernel_rfl) (by kernel_rfl)) ?_
  intro W base args ds gs before hval0 hW hcnd _
  have hval : ∀ (j : Nat) t v, Try.f6.params[j]? = some t → args[j]? = some v → Value.okWide Try.prog W .any base t v := hval0
  have hW' := hW
  obtain ⟨p, q, hA0, hV, rfl, hfz, hnd⟩ := hW
  have hA : DataW.TrodAll enc Try.prog W 0 (fun _ => true) true Try.f6.params.toList args.toList ds p := hA0
  rw [Try.params6] at hA hval
  obtain ⟨v0, vs0, d0, ds0, p0, q0, hargs, rfl, rfl, h0, r0⟩ := trodAll_cons hA
  obtain ⟨rfl, rfl, rfl⟩ := trodAll_nil r0
  obtain rfl : args = #[v0] := by cases args; simp_all
  obtain ⟨rfl, rfl⟩ := trodVars_none hV
  have k0 := h0
  have lt0 : ∀ x ∈ p0, x.block < W.heap.size := by obtain ⟨m, hm⟩ := k0; exact DataW.trod_lt m _ _ _ hm
  obtain ⟨f0, i0⟩ := open_bytes_arg (hval 0 22 v0 rfl rfl) h0
  clear hA0 hval0
  try simp only [List.append_nil] at hW'
  refine (walk W f0 v0 i0).mono fun e W' ⟨he, bel⟩ => ?_
  subst he
  exact ⟨_, rfl, _, _, _, [], _, [], hW', trodAll_mk1 (shut_bool Try.underlying4 _), (trodAll_cons_mk (Below.trod laidOut (by kernel_rfl) (of_decide_eq_true (by kernel_rfl)) k0 bel lt0) trodAll_mk0), rfl, bel.frame _, fun h => by cases h⟩
theorem over_named : Try.pinned.checked.prog.funcNamed Rows.fnBindsPartsRow.func = some 6 := by kernel_rfl
theorem over_closed : joinedFacts Try.pinned.checked.prog 6 Try.f6 Rows.fnBindsPartsSpec Rows.fnBindsPartsRow = true := by kernel_rfl
theorem over_inst : Func.isInstance Try.pinned.checked.prog Try.f6 Rows.fnBindsPartsRow.origin Rows.fnBindsPartsRow.targs := of_decide_eq_true (by kernel_rfl)
theorem over_wrap : Func.isWrapper Try.pinned.checked.prog Try.f6 Rows.fnBindsPartsRow.wrapper Rows.fnBindsPartsRow.mainSum := (by unfold Func.isWrapper; first | (rw [if_pos (by decide +kernel)]; kernel_rfl) | (rw [if_neg (by decide +kernel)]; exact ⟨rfl, rfl⟩))
theorem over : Rows.fnBindsPartsRow.holds Try.pinned (OpenSpec.ofChange Rows.fnBindsPartsSpec) :=
  OpenClaim.holds_of_wide 6 Try.f6 rfl rfl rfl rfl rfl rfl rfl ⟨rfl, rfl, rfl, rfl, rfl⟩ rfl rfl rfl rfl rfl over_named Try.func6 over_closed over_inst over_wrap
    (fun os started H enc _ => lifted os started H enc)
theorem proved : Rows.FnBindsPartsSaid := over
end Go.Proofs.Ytcckhcedfmadeaa.lwBindsParts
