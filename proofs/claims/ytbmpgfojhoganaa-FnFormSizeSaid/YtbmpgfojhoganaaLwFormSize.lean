/- For every input the nodes of the parts of the drawn form add up to its own; the program and the model agree: the law FnFormSize returns true, whatever the input, with no condition beyond the statement's own. -/
import Derived.Test.YtbmpgfojhoganaaRows
import Derived.Test.YtbmpgfojhoganaaLwKidEnds
import Derived.Test.YtbmpgfojhoganaaLwSizesS
import Derived.Test.YtbmpgfojhoganaaPValidFormSize
namespace Go.Proofs.Ytbmpgfojhoganaa.lwFormSize
open Go.ChangeShapes Go.WideShapes Go.ChangeAt Go.RowKit
open Go.ChangeMaps (open_string shut_string)
set_option linter.unusedVariables false
set_option linter.unusedSimpArgs false
set_option maxRecDepth 100000 in
set_option maxHeartbeats 4000000 in
theorem walk (w : World) (n : Nat) (v : Value) (hv : Bytes w v n) :
    Calls Try.prog 7 #[v] w fun e w' => e = .returned (.bool true) ∧ Below w.heap.size w w' := by
  have HV := Lib.hid hv
  obtain ⟨a0, c0, rfl, hn1, hn2, _⟩ := hv
  unfold maxLen at hn2
  by_cases hbig : (1048576 : Int) < n
  · go_enter Try.func7, Try.ntmps7
    go_wp2_with fail
    go_ret
    exact ⟨rfl, Below.refl _ _⟩
  go_enter Try.func7, Try.ntmps7
  go_wp2_with fail
  refine (P.drawFormSize_any _ n w HV.out).mono ?_
  rintro e w1 hpost
  obtain ⟨f, f0, f1, f2, f3, rfl, hin, hsl, hb⟩ := hpost.pl
  clear hpost
  have hs1 : w.heap.size ≤ w1.heap.size := hb.size
  have HL := Lib.hid hb
  have hszf : f.sz ≤ 1048576 := by have := hsl.sz; omega
  have hcf : f.count ≤ 1048577 := by have := hsl.1; omega
  have HCF : Hid (f.count ≤ 4294967296) := by have := hsl.1; unfold Hid; omega
  have HSL := Lib.hid hsl
  clear hsl HV
  clear hb
  have Pf := Lib.hid hin
  clear hin
  obtain ⟨n0, hn0⟩ : ∃ n0, f.count = n0 := ⟨_, rfl⟩
  have HN0 := Lib.hid hn0
  have hn0b : n0 ≤ 1048577 := by omega
  have hkl : f.kids.length ≤ 1048576 := Nat.le_trans (sz_scopes f).2 hszf
  clear hn0
  go_wp2_with fail
  have hba0 := below_alloc w1 (.cells #[.int .i64 f.kind, .string f.name, .int .i64 f.n, .slice f0 f.scopes.length f1, .slice f2 f.kids.length f3] 26)
  have Bf : Hid (FormBox (w1.alloc (.cells #[.int .i64 f.kind, .string f.name, .int .i64 f.n, .slice f0 f.scopes.length f1, .slice f2 f.kids.length f3] 26)) w1.heap.size f f0 f1 f2 f3) := box_lit w1 f w1.heap.size f0 f2 f1 f3 26 (by simp)
  refine (implSize_law f f0 f1 f2 f3 (w1.alloc (.cells #[.int .i64 f.kind, .string f.name, .int .i64 f.n, .slice f0 f.scopes.length f1, .slice f2 f.kids.length f3] 26)) (inv_pl (InV.pl hba0 Pf.out)) hcf (end_pl (InV.pl hba0 Pf.out) hcf) n0 HN0.out).mono ?_
  rintro e w2 ⟨rfl, hb0⟩
  have hb : Below w1.heap.size w1 w2 := hba0.trans (hb0.mono hba0.size)
  have hs2 : w1.heap.size + 1 ≤ w2.heap.size := by have h := hb0.size; simp at h; omega
  have HL_1 := Lib.hid (HL.out.trans (hb.mono (by omega)))
  have Pf_1 := Lib.hid (InV.pl hb Pf.out)
  have Bf_1 := Lib.hid (FormBox.later Bf.out hb0)
  clear HL Pf Bf
  clear hb0 hba0
  clear hb
  obtain ⟨ld0, ld1, ld2, ld3, ld4⟩ := Bf_1.out
  have hx0 : w1.heap.size < w2.heap.size := Bf_1.out.lt
  go_wp2_with fail
  refine (specSize_law f _ w2 (inv_pl Pf_1.out) hcf n0 HN0.out).mono ?_
  rintro e w3 ⟨rfl, hb⟩
  have hs3 : w2.heap.size ≤ w3.heap.size := hb.size
  clear ld0 ld1 ld2 ld3 ld4 hx0
  have HL_2 := Lib.hid (HL_1.out.trans (hb.mono (by omega)))
  have Pf_2 := Lib.hid (InV.pl hb Pf_1.out)
  have Bf_2 := Lib.hid (FormBox.later Bf_1.out hb)
  clear HL_1 Pf_1 Bf_1
  clear hb
  obtain ⟨ld0, ld1, ld2, ld3, ld4⟩ := Bf_2.out
  have hx0 : w1.heap.size < w3.heap.size := Bf_2.out.lt
  go_wp2_with fail
  clear ld0 ld1 ld2 ld3 ld4 hx0
  go_loopw [5, 6] (fun m i wr => (∃ j : Nat, m = .int .i64 ((countAll (f.kids.take j) + 1 : Nat) : Int) ∧ i = .int .i64 j ∧ j ≤ f.kids.length) ∧ Below w3.heap.size w3 wr) (fun m i _ => f.kids.length - (intOf i).toNat)
  case atStart => exact ⟨⟨0, by simp [countAll], rfl, Nat.zero_le _⟩, Below.refl _ _⟩
  case round =>
    obtain ⟨⟨j, rfl, rfl, hj⟩, hbl⟩ := hrel
    have hsr : w3.heap.size ≤ wr.heap.size := hbl.size
    have HBL := Lib.hid hbl
    have HL_3 := Lib.hid (HL_2.out.trans (hbl.mono (by omega)))
    have Pf_3 := Lib.hid (InV.pl hbl Pf_2.out)
    have Bf_3 := Lib.hid (FormBox.later Bf_2.out hbl)
    clear HL_2 Pf_2 Bf_2
    clear hbl
    by_cases hlt : j < f.kids.length
    · have hltI : (j : Int) < (f.kids.length : Int) := by omega
      have hj0 : (0 : Int) ≤ (j : Int) := by omega
      obtain ⟨fb, fo, ka, kb, kc, kd, hf2, hfc, hkb, hki⟩ := kid_pl Pf_3.out j hlt
      obtain ⟨G, hG⟩ : ∃ G, f.kids[j] = G := ⟨_, rfl⟩
      have hmem : G ∈ f.kids := by rw [← hG]; exact List.getElem_mem hlt
      rw [hG] at hkb hki
      subst hf2
      have HKB := Lib.hid hkb
      have PK := Lib.hid hki
      have HG := Lib.hid hG
      have hszG : G.sz ≤ 1048576 := Nat.le_trans (sz_kid hmem) hszf
      have hcG : G.count ≤ 1048577 := by have h1 := count_kid hmem; omega
      have HMEM := Lib.hid hmem
      clear hki hG hmem
      obtain ⟨m0, hm0⟩ : ∃ m0, G.count = m0 := ⟨_, rfl⟩
      have HM0 := Lib.hid hm0
      obtain ⟨c0, hc0⟩ : ∃ c0, countAll (f.kids.take j) + 1 = c0 := ⟨_, rfl⟩
      have hcj : countAll (f.kids.take (j + 1)) + 1 = c0 + m0 := by rw [countAll_take_succ f.kids j hlt, HG.out]; omega
      have hcl := countAll_take_le f.kids (j + 1)
      have hce := count_eq f
      have hn1 := HN0.out
      have hcb : c0 + m0 ≤ 1048577 := by omega
      have HCJ := Lib.hid hcj
      rw [hc0]
      clear hm0 hcj hcl hce hn1 hc0
      obtain ⟨kc0, kc1, kc2, kc3, kc4⟩ := hkb
      obtain ⟨ld0, ld1, ld2, ld3, ld4⟩ := Bf_3.out
      have hx0 : w1.heap.size < wr.heap.size := Bf_3.out.lt
      go_wp2_with fail
      refine (implSize_law G ka kb kc kd wr (inv_pl PK.out) hcG (end_pl PK.out hcG) m0 HM0.out).mono ?_
      rintro e w4 ⟨rfl, hb⟩
      have hs4 : wr.heap.size ≤ w4.heap.size := hb.size
      have HL_4 := Lib.hid (HL_3.out.trans (hb.mono (by omega)))
      have Pf_4 := Lib.hid (InV.pl hb Pf_3.out)
      have Bf_4 := Lib.hid (FormBox.later Bf_3.out hb)
      have HBL_1 := Lib.hid (HBL.out.trans (hb.mono (by omega)))
      have HKB_1 := Lib.hid (KidBox.later HKB.out hb)
      have PK_1 := Lib.hid (InV.pl hb PK.out)
      clear HL_3 Pf_3 Bf_3 HBL HKB PK
      clear hb
      clear kc0 kc1 kc2 kc3 kc4 ld0 ld1 ld2 ld3 ld4 hx0
      go_wp2_with fail
      go_roundw
      case rel => exact ⟨⟨j + 1, by rw [HCJ.out]; go_num, by go_num, by omega⟩, HBL_1.out⟩
      case measure => simp [intOf]; omega
    · have hnb : ¬ ((j : Int) < (f.kids.length : Int)) := by omega
      obtain rfl : j = f.kids.length := by omega
      have hsum : countAll (f.kids.take f.kids.length) + 1 = n0 := by rw [List.take_length, ← HN0.out, count_eq f]
      rw [hsum]
      have hself : ((n0 : Int) == (n0 : Int)) = true := by simp
      obtain ⟨ld0, ld1, ld2, ld3, ld4⟩ := Bf_3.out
      have hx0 : w1.heap.size < wr.heap.size := Bf_3.out.lt
      go_wp2_with fail
      go_ret
      exact ⟨rfl, HL_3.out⟩
theorem own : ownKnob Try.prog.godebug = none := by kernel_rfl
theorem laidOut : laidOutB Try.prog = true := by kernel_rfl
set_option maxRecDepth 100000 in
theorem lifted (os : Os) (started : os.Started) (H : Type) (enc : TypeId × Value → H) :
    ReturnsInHanded {} Try.checked os 7 .any (Rows.fnFormSizeSpec.pre6 enc Try.prog Try.f7 Rows.fnFormSizeRow.domain false) (Rows.fnFormSizeSpec.post enc Try.prog Try.f7 false true false false) := by
  refine returnsInHanded_of_change (C := Try.checked) own started (by kernel_rfl) Try.func7
    (ChangeSpec.witness6 (enc := enc) (C := Try.checked) false ⟨#[], #[.slice none 0 0], []⟩ 12 (by kernel_rfl) (by kernel_rfl) (by kernel_rfl) (by kernel_rfl)) ?_
  intro W base args ds gs before hval0 hW hcnd _
  have hval : ∀ (j : Nat) t v, Try.f7.params[j]? = some t → args[j]? = some v → Value.okWide Try.prog W .any base t v := hval0
  have hW' := hW
  obtain ⟨p, q, hA0, hV, rfl, hfz, hnd⟩ := hW
  have hA : DataW.TrodAll enc Try.prog W 0 (fun _ => true) true Try.f7.params.toList args.toList ds p := hA0
  rw [Try.params7] at hA hval
  obtain ⟨v0, vs0, d0, ds0, p0, q0, hargs, rfl, rfl, h0, r0⟩ := trodAll_cons hA
  obtain ⟨rfl, rfl, rfl⟩ := trodAll_nil r0
  obtain rfl : args = #[v0] := by cases args; simp_all
  obtain ⟨rfl, rfl⟩ := trodVars_none hV
  have k0 := h0
  have lt0 : ∀ x ∈ p0, x.block < W.heap.size := by obtain ⟨m, hm⟩ := k0; exact DataW.trod_lt m _ _ _ hm
  obtain ⟨f0, i0⟩ := open_bytes_arg (hval 0 22 v0 rfl rfl) h0
  clear hA0 hval0
  try simp only [List.append_nil] at hW'
  refine (walk W f0 v0 i0).mono fun e W' ⟨he, bel⟩ => ?_
  subst he
  exact ⟨_, rfl, _, _, _, [], _, [], hW', trodAll_mk1 (shut_bool Try.underlying4 _), (trodAll_cons_mk (Below.trod laidOut (by kernel_rfl) (of_decide_eq_true (by kernel_rfl)) k0 bel lt0) trodAll_mk0), rfl, bel.frame _, fun h => by cases h⟩
theorem over_named : Try.pinned.checked.prog.funcNamed Rows.fnFormSizeRow.func = some 7 := by kernel_rfl
theorem over_closed : joinedFacts Try.pinned.checked.prog 7 Try.f7 Rows.fnFormSizeSpec Rows.fnFormSizeRow = true := by kernel_rfl
theorem over_inst : Func.isInstance Try.pinned.checked.prog Try.f7 Rows.fnFormSizeRow.origin Rows.fnFormSizeRow.targs := of_decide_eq_true (by kernel_rfl)
theorem over_wrap : Func.isWrapper Try.pinned.checked.prog Try.f7 Rows.fnFormSizeRow.wrapper Rows.fnFormSizeRow.mainSum := (by unfold Func.isWrapper; first | (rw [if_pos (by decide +kernel)]; kernel_rfl) | (rw [if_neg (by decide +kernel)]; exact ⟨rfl, rfl⟩))
theorem over : Rows.fnFormSizeRow.holds Try.pinned (OpenSpec.ofChange Rows.fnFormSizeSpec) :=
  OpenClaim.holds_of_wide 7 Try.f7 rfl rfl rfl rfl rfl rfl rfl ⟨rfl, rfl, rfl, rfl, rfl⟩ rfl rfl rfl rfl rfl over_named Try.func7 over_closed over_inst over_wrap
    (fun os started H enc _ => lifted os started H enc)
theorem proved : Rows.FnFormSizeSaid := over
end Go.Proofs.Ytbmpgfojhoganaa.lwFormSize
