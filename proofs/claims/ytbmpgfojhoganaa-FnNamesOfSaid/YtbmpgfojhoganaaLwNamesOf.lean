/- For every input each name of the drawn form is told once; the program and the model agree: the law FnNamesOf returns true, whatever the input, with no condition beyond the statement's own. -/
import Derived.Test.YtbmpgfojhoganaaRows
import Derived.Test.YtbmpgfojhoganaaLwKidEnds
import Derived.Test.YtbmpgfojhoganaaLwSizes
import Derived.Test.YtbmpgfojhoganaaLwTexts
import Derived.Test.YtbmpgfojhoganaaPValidNamesOf
namespace Go.Proofs.Ytbmpgfojhoganaa.lwNamesOf
open Go.ChangeShapes Go.WideShapes Go.ChangeAt Go.RowKit
open Go.ChangeMaps (open_string shut_string)
set_option linter.unusedVariables false
set_option linter.unusedSimpArgs false
theorem inB_append (l : List ByteArray) (x s : ByteArray) : inB (l ++ [x]) s = (inB l s || x.toList == s.toList) := by
  unfold inB
  rw [List.any_append]
  simp
theorem inB_addN (out : List ByteArray) (g : Fm) (s : ByteArray) : inB (addN out g) s = (inB out s || (g.kind == 1 && g.name.toList == s.toList)) := by
  unfold addN
  cases hk : (g.kind == 1) with
  | false => simp
  | true =>
    cases hi : inB out g.name with
    | false => simp [inB_append]
    | true =>
      simp only [Bool.not_true, Bool.and_false, Bool.false_eq_true, if_false, Bool.true_and]
      cases he : (g.name.toList == s.toList) with
      | false => simp
      | true =>
        have hh : inB out s = true := by
          unfold inB at hi ⊢
          rw [eq_of_beq he] at hi
          exact hi
        rw [hh]; rfl
theorem inB_namesF : ∀ (V : List Fm) (out : List ByteArray) (s : ByteArray), inB (namesF out V) s = (inB out s || V.any fun g => g.kind == 1 && g.name.toList == s.toList)
  | [], out, s => by simp [namesF]
  | g :: V, out, s => by
    show inB (namesF (addN out g) V) s = _
    rw [inB_namesF V (addN out g) s, inB_addN, List.any_cons, Bool.or_assoc]
def DistS (l : List ByteArray) : Prop := l.Pairwise fun x y => (x.toList == y.toList) = false
theorem dist_addN {out : List ByteArray} (h : DistS out) (g : Fm) : DistS (addN out g) := by
  unfold addN
  split
  · rename_i hc
    rw [Bool.and_eq_true] at hc
    refine List.pairwise_append.2 ⟨h, List.pairwise_singleton _ _, fun x hx y hy => ?_⟩
    rw [List.mem_singleton] at hy
    subst hy
    have h2 := hc.2
    unfold inB at h2
    rw [Bool.not_eq_true', List.any_eq_false] at h2
    exact Bool.eq_false_iff.2 (h2 x hx)
  · exact h
theorem dist_namesF : ∀ (V : List Fm) (out : List ByteArray), DistS out → DistS (namesF out V)
  | [], _, h => h
  | g :: V, out, h => dist_namesF V (addN out g) (dist_addN h g)
theorem dist_at {l : List ByteArray} (h : DistS l) {i k : Nat} (hi : i < l.length) (hk : k < i) : (l[i].toList == l[k].toList) = false := by
  have := List.pairwise_iff_getElem.1 h k i (by omega) hi hk
  rw [BEq.comm]
  exact this
theorem namesF_len : ∀ (V : List Fm) (out : List ByteArray), (namesF out V).length ≤ out.length + V.length
  | [], out => by simp [namesF]
  | g :: V, out => by
    have h1 := namesF_len V (addN out g)
    have h2 := addN_length out g
    show (namesF (addN out g) V).length ≤ _
    simp only [List.length_cons]
    omega
theorem names_count (f : Fm) : (namesF [] f.pre).length ≤ f.count := by
  have := namesF_len f.pre []
  rw [pre_length] at this
  simpa using this
theorem strs_at {w : World} {pa : Option Addr} {ca : Nat} {l : List ByteArray} (h : StrRow w (.slice pa l.length ca) l) (j : Nat) (hj : j < l.length) : ∃ b o, pa = some ⟨b, o, none⟩ ∧ l.length ≤ ca ∧ w.cell? ⟨b, o + j, none⟩ = some (.string l[j]) := by
  obtain ⟨a, cap, e, h1, h2, h3⟩ := h
  simp only [Value.slice.injEq] at e
  obtain ⟨rfl, _, rfl⟩ := e
  rcases h3 with h3 | ⟨b, o, rfl, h3⟩
  · rw [h3] at hj; simp at hj
  · exact ⟨b, o, rfl, h1, h3 j hj⟩
theorem names_kid {f G : Fm} (h : G ∈ f.kids) (s : ByteArray) (hs : s ∈ namesF [] G.pre) : inB (namesF [] f.pre) s = true := by
  have h1 : inB (namesF [] G.pre) s = true := by unfold inB; rw [List.any_eq_true]; exact ⟨s, hs, by simp⟩
  rw [inB_namesF] at h1 ⊢
  have h0 : inB [] s = false := rfl
  rw [h0, Bool.false_or, List.any_eq_true] at h1 ⊢
  obtain ⟨g, hg, hgs⟩ := h1
  refine ⟨g, ?_, hgs⟩
  rw [pre_eq]
  exact List.mem_cons_of_mem _ (mem_preAll'.2 ⟨G, h, hg⟩)
theorem names_self {f : Fm} (h : f.kind = 1) : inB (namesF [] f.pre) f.name = true := by
  rw [inB_namesF]
  have h0 : inB [] f.name = false := rfl
  rw [h0, Bool.false_or, List.any_eq_true]
  exact ⟨f, by rw [pre_eq]; simp, by simp [h]⟩
set_option maxRecDepth 100000 in
set_option maxHeartbeats 4000000 in
theorem walk (w : World) (n : Nat) (v : Value) (hv : Bytes w v n) :
    Calls Try.prog 4 #[v] w fun e w' => e = .returned (.bool true) ∧ Below w.heap.size w w' := by
  have HV := Lib.hid hv
  obtain ⟨a0, c0, rfl, hn1, hn2, _⟩ := hv
  unfold maxLen at hn2
  by_cases hbig : (1048576 : Int) < n
  · go_enter Try.func4, Try.ntmps4
    go_wp2_with fail
    go_ret
    exact ⟨rfl, Below.refl _ _⟩
  go_enter Try.func4, Try.ntmps4
  go_wp2_with fail
  refine (P.drawNamesOf_any _ n w HV.out).mono ?_
  rintro e w1 hpost
  obtain ⟨f, f0, f1, f2, f3, rfl, hin, hsl, hb⟩ := hpost.pl
  clear hpost
  have hs1 : w.heap.size ≤ w1.heap.size := hb.size
  have HL := Lib.hid hb
  have hszf : f.sz ≤ 1048576 := by have := hsl.sz; omega
  have hcf : f.count ≤ 1048577 := by have := hsl.1; omega
  have HCF : Hid (f.count ≤ 4294967296) := by have := hsl.1; unfold Hid; omega
  have HSL := Lib.hid hsl
  clear hsl HV
  clear hb
  have Pf := Lib.hid hin
  clear hin
  obtain ⟨n0, hn0⟩ : ∃ n0, f.count = n0 := ⟨_, rfl⟩
  obtain ⟨L, hL⟩ : ∃ L, namesF [] f.pre = L := ⟨_, rfl⟩
  have HN0 := Lib.hid hn0
  have HL0 := Lib.hid hL
  have hll : L.length ≤ n0 := by rw [← hL, ← hn0]; exact names_count f
  have hn0b : n0 ≤ 1048577 := by omega
  have HDI : Hid (DistS L) := by rw [← hL]; exact dist_namesF _ _ List.Pairwise.nil
  have hkl : f.kids.length ≤ 1048576 := Nat.le_trans (sz_scopes f).2 hszf
  clear hn0 hL
  go_wp2_with fail
  have hba0 := below_alloc w1 (.cells #[.int .i64 f.kind, .string f.name, .int .i64 f.n, .slice f0 f.scopes.length f1, .slice f2 f.kids.length f3] 26)
  have Bf : Hid (FormBox (w1.alloc (.cells #[.int .i64 f.kind, .string f.name, .int .i64 f.n, .slice f0 f.scopes.length f1, .slice f2 f.kids.length f3] 26)) w1.heap.size f f0 f1 f2 f3) := box_lit w1 f w1.heap.size f0 f2 f1 f3 26 (by simp)
  refine (implNames_law f f0 f1 f2 f3 (w1.alloc (.cells #[.int .i64 f.kind, .string f.name, .int .i64 f.n, .slice f0 f.scopes.length f1, .slice f2 f.kids.length f3] 26)) (inv_pl (InV.pl hba0 Pf.out)) hszf (end_pl (InV.pl hba0 Pf.out) hcf) L HL0.out).mono ?_
  rintro e w2 ⟨la, lb, rfl, hrow, hb0⟩
  have hb : Below w1.heap.size w1 w2 := hba0.trans (hb0.mono hba0.size)
  have hs2 : w1.heap.size + 1 ≤ w2.heap.size := by have h := hb0.size; simp at h; omega
  have HL_1 := Lib.hid (HL.out.trans (hb.mono (by omega)))
  have Pf_1 := Lib.hid (InV.pl hb Pf.out)
  have Bf_1 := Lib.hid (FormBox.later Bf.out hb0)
  clear HL Pf Bf
  clear hb0 hba0
  clear hb
  have SL := Lib.hid hrow
  clear hrow
  obtain ⟨ld0, ld1, ld2, ld3, ld4⟩ := Bf_1.out
  have hx0 : w1.heap.size < w2.heap.size := Bf_1.out.lt
  go_wp2_with fail
  refine (specNames_law f _ w2 (inv_pl Pf_1.out) hszf L HL0.out).mono ?_
  rintro e w3 ⟨lc, ld, rfl, hrow, hb⟩
  have hs3 : w2.heap.size ≤ w3.heap.size := hb.size
  clear ld0 ld1 ld2 ld3 ld4 hx0
  have HL_2 := Lib.hid (HL_1.out.trans (hb.mono (by omega)))
  have Pf_2 := Lib.hid (InV.pl hb Pf_1.out)
  have Bf_2 := Lib.hid (FormBox.later Bf_1.out hb)
  have SL_1 := Lib.hid (StrRow.later hb SL.out)
  clear HL_1 Pf_1 Bf_1 SL
  clear hb
  have SM := Lib.hid hrow
  clear hrow
  go_wp2_with fail
  refine (mxTexts_same L _ _ w3 SL_1.out SM.out).mono ?_
  rintro e w4 ⟨rfl, hb⟩
  have hs4 : w3.heap.size ≤ w4.heap.size := hb.size
  have HL_3 := Lib.hid (HL_2.out.trans (hb.mono (by omega)))
  have Pf_3 := Lib.hid (InV.pl hb Pf_2.out)
  have Bf_3 := Lib.hid (FormBox.later Bf_2.out hb)
  have SL_2 := Lib.hid (StrRow.later hb SL_1.out)
  have SM_1 := Lib.hid (StrRow.later hb SM.out)
  clear HL_2 Pf_2 Bf_2 SL_1 SM
  clear hb
  clear SM_1
  go_wp2_with fail
  go_loopw [5, 6] (fun i k wr => (∃ j : Nat, i = .int .i64 j ∧ j ≤ L.length) ∧ Below w4.heap.size w4 wr) (fun i k _ => L.length - (intOf i).toNat)
  case atStart => exact ⟨⟨0, rfl, Nat.zero_le _⟩, Below.refl _ _⟩
  case round =>
    obtain ⟨⟨j, rfl, hj⟩, hbl⟩ := hrel
    have hsr : w4.heap.size ≤ wr.heap.size := hbl.size
    have HBL := Lib.hid hbl
    have HL_4 := Lib.hid (HL_3.out.trans (hbl.mono (by omega)))
    have Pf_4 := Lib.hid (InV.pl hbl Pf_3.out)
    have Bf_4 := Lib.hid (FormBox.later Bf_3.out hbl)
    have SL_3 := Lib.hid (StrRow.later hbl SL_2.out)
    clear HL_3 Pf_3 Bf_3 SL_2
    clear hbl
    by_cases hlt : j < L.length
    · have hltI : (j : Int) < (L.length : Int) := by omega
      have hj0 : (0 : Int) ≤ (j : Int) := by omega
      obtain ⟨w9, hw9⟩ : ∃ w9, w9 = wr := ⟨_, rfl⟩
      have hsr9 : w4.heap.size ≤ w9.heap.size := by rw [hw9]; exact hsr
      rw [← hw9]
      rw [← hw9] at HL_4
      rw [← hw9] at Pf_4
      rw [← hw9] at Bf_4
      rw [← hw9] at SL_3
      rw [← hw9] at HBL
      clear hw9 hsr
      go_wp2_with fail
      go_loopw [6] (fun k wr => (∃ m : Nat, k = .int .i64 m ∧ m ≤ j) ∧ Below w9.heap.size w9 wr) (fun k _ => j - (intOf k).toNat)
      case atStart => exact ⟨⟨0, rfl, Nat.zero_le _⟩, Below.refl _ _⟩
      case round =>
        obtain ⟨⟨m, rfl, hm⟩, hbl⟩ := hrel
        have hsr : w9.heap.size ≤ wr.heap.size := hbl.size
        have HBM := Lib.hid hbl
        have HL_5 := Lib.hid (HL_4.out.trans (hbl.mono (by omega)))
        have Pf_5 := Lib.hid (InV.pl hbl Pf_4.out)
        have Bf_5 := Lib.hid (FormBox.later Bf_4.out hbl)
        have SL_4 := Lib.hid (StrRow.later hbl SL_3.out)
        have HBL_1 := Lib.hid (HBL.out.trans (hbl.mono (by omega)))
        clear HL_4 Pf_4 Bf_4 SL_3 HBL
        clear hbl
        by_cases hlm : m < j
        · have hmI : (m : Int) < (j : Int) := by omega
          have hm0 : (0 : Int) ≤ (m : Int) := by omega
          have hmL : (m : Int) < (L.length : Int) := by omega
          obtain ⟨sb, so, rfl, hsc, hcj⟩ := strs_at SL_4.out j hlt
          obtain ⟨sb2, so2, e2, _, hcm⟩ := strs_at SL_4.out m (by omega)
          injection e2 with e2
          injection e2 with e3 e4 _
          subst e3; subst e4
          have hne : (L[j].toList == L[m].toList) = false := dist_at HDI.out hlt hlm
          obtain ⟨sj, hsj⟩ : ∃ sj, L[j] = sj := ⟨_, rfl⟩
          obtain ⟨sm, hsm⟩ : ∃ sm, L[m]'(by omega) = sm := ⟨_, rfl⟩
          rw [hsj] at hcj hne
          rw [hsm] at hcm hne
          clear hsj hsm
          go_wp2_with fail
          go_quiet (fail)
          go_wp2_with fail
          go_roundw
          case rel => exact ⟨⟨m + 1, by go_num, by omega⟩, below_drewN HBM.out _⟩
          case measure => simp [intOf]; omega
        · have hnm : ¬ ((m : Int) < (j : Int)) := by omega
          go_wp2_with fail
          go_roundw
          case rel => exact ⟨⟨j + 1, by go_num, by omega⟩, HBL_1.out⟩
          case measure => simp [intOf]; omega
    · have hnb : ¬ ((j : Int) < (L.length : Int)) := by omega
      have hle : (L.length : Int) ≤ (n0 : Int) := by omega
      obtain ⟨ld0, ld1, ld2, ld3, ld4⟩ := Bf_4.out
      have hx0 : w1.heap.size < wr.heap.size := Bf_4.out.lt
      go_wp2_with fail
      refine (implSize_law f f0 f1 f2 f3 wr (inv_pl Pf_4.out) hcf (end_pl Pf_4.out hcf) n0 HN0.out).mono ?_
      rintro e w5 ⟨rfl, hb⟩
      have hs5 : wr.heap.size ≤ w5.heap.size := hb.size
      clear ld0 ld1 ld2 ld3 ld4 hx0
      have HL_5 := Lib.hid (HL_4.out.trans (hb.mono (by omega)))
      have Pf_5 := Lib.hid (InV.pl hb Pf_4.out)
      have Bf_5 := Lib.hid (FormBox.later Bf_4.out hb)
      have SL_4 := Lib.hid (StrRow.later hb SL_3.out)
      have HBL_1 := Lib.hid (HBL.out.trans (hb.mono (by omega)))
      clear HL_4 Pf_4 Bf_4 SL_3 HBL
      clear hb
      go_wp2_with fail
      go_ret
      exact ⟨rfl, HL_5.out⟩
theorem own : ownKnob Try.prog.godebug = none := by kernel_rfl
theorem laidOut : laidOutB Try.prog = true := by kernel_rfl
set_option maxRecDepth 100000 in
theorem lifted (os : Os) (started : os.Started) (H : Type) (enc : TypeId × Value → H) :
    ReturnsInHanded {} Try.checked os 4 .any (Rows.fnNamesOfSpec.pre6 enc Try.prog Try.f4 Rows.fnNamesOfRow.domain false) (Rows.fnNamesOfSpec.post enc Try.prog Try.f4 false true false false) := by
  refine returnsInHanded_of_change (C := Try.checked) own started (by kernel_rfl) Try.func4
    (ChangeSpec.witness6 (enc := enc) (C := Try.checked) false ⟨#[], #[.slice none 0 0], []⟩ 12 (by kernel_rfl) (by kernel_rfl) (by kernel_rfl) (by kernel_rfl)) ?_
  intro W base args ds gs before hval0 hW hcnd _
  have hval : ∀ (j : Nat) t v, Try.f4.params[j]? = some t → args[j]? = some v → Value.okWide Try.prog W .any base t v := hval0
  have hW' := hW
  obtain ⟨p, q, hA0, hV, rfl, hfz, hnd⟩ := hW
  have hA : DataW.TrodAll enc Try.prog W 0 (fun _ => true) true Try.f4.params.toList args.toList ds p := hA0
  rw [Try.params4] at hA hval
  obtain ⟨v0, vs0, d0, ds0, p0, q0, hargs, rfl, rfl, h0, r0⟩ := trodAll_cons hA
  obtain ⟨rfl, rfl, rfl⟩ := trodAll_nil r0
  obtain rfl : args = #[v0] := by cases args; simp_all
  obtain ⟨rfl, rfl⟩ := trodVars_none hV
  have k0 := h0
  have lt0 : ∀ x ∈ p0, x.block < W.heap.size := by obtain ⟨m, hm⟩ := k0; exact DataW.trod_lt m _ _ _ hm
  obtain ⟨f0, i0⟩ := open_bytes_arg (hval 0 22 v0 rfl rfl) h0
  clear hA0 hval0
  try simp only [List.append_nil] at hW'
  refine (walk W f0 v0 i0).mono fun e W' ⟨he, bel⟩ => ?_
  subst he
  exact ⟨_, rfl, _, _, _, [], _, [], hW', trodAll_mk1 (shut_bool Try.underlying4 _), (trodAll_cons_mk (Below.trod laidOut (by kernel_rfl) (of_decide_eq_true (by kernel_rfl)) k0 bel lt0) trodAll_mk0), rfl, bel.frame _, fun h => by cases h⟩
theorem over_named : Try.pinned.checked.prog.funcNamed Rows.fnNamesOfRow.func = some 4 := by kernel_rfl
theorem over_closed : joinedFacts Try.pinned.checked.prog 4 Try.f4 Rows.fnNamesOfSpec Rows.fnNamesOfRow = true := by kernel_rfl
theorem over_inst : Func.isInstance Try.pinned.checked.prog Try.f4 Rows.fnNamesOfRow.origin Rows.fnNamesOfRow.targs := of_decide_eq_true (by kernel_rfl)
theorem over_wrap : Func.isWrapper Try.pinned.checked.prog Try.f4 Rows.fnNamesOfRow.wrapper Rows.fnNamesOfRow.mainSum := (by unfold Func.isWrapper; first | (rw [if_pos (by decide +kernel)]; kernel_rfl) | (rw [if_neg (by decide +kernel)]; exact ⟨rfl, rfl⟩))
theorem over : Rows.fnNamesOfRow.holds Try.pinned (OpenSpec.ofChange Rows.fnNamesOfSpec) :=
  OpenClaim.holds_of_wide 4 Try.f4 rfl rfl rfl rfl rfl rfl rfl ⟨rfl, rfl, rfl, rfl, rfl⟩ rfl rfl rfl rfl rfl over_named Try.func4 over_closed over_inst over_wrap
    (fun os started H enc _ => lifted os started H enc)
theorem proved : Rows.FnNamesOfSaid := over
end Go.Proofs.Ytbmpgfojhoganaa.lwNamesOf
