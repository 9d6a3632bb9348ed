/- For every input containment of the drawn sets of scopes is by elements, agrees with the model's, and sets within each other have the same length: the law FnWithinSame returns true, whatever the input, with no condition beyond the statement's own. -/
import Derived.Test.YtaihblfabaijoaaRows
import Derived.Test.YtaihblfabaijoaaWithinLaw
namespace Go.Proofs.Ytaihblfabaijoaa.lwWithinSame
open Go.ChangeShapes Go.WideShapes Go.ChangeAt Go.RowKit
open Go.ChangeMaps (open_string shut_string)
set_option linter.unusedVariables false
set_option linter.unusedSimpArgs false
theorem same_length : ∀ a ∈ setsTwo, ∀ b ∈ setsTwo, within a b = true → within b a = true → a.length = b.length := by decide
theorem two_length : ∀ l ∈ setsTwo, l.length ≤ 1000 := by decide
theorem two_bounds : ∀ l ∈ setsTwo, ∀ n ∈ l, 0 ≤ n ∧ n ≤ 999 := by decide
theorem within_take_succ (a b : List Int) (j : Nat) (h : j < a.length) : within (a.take (j + 1)) b = (within (a.take j) b && within [a[j]] b) := by
  unfold within
  rw [List.take_succ_eq_append_getElem h, List.all_append]
set_option maxRecDepth 100000 in
set_option maxHeartbeats 2000000 in
theorem walk (w : World) (n : Nat) (v : Value) (hv : Bytes w v n) :
    Calls Try.prog 4 #[v] w fun e w' => e = .returned (.bool true) ∧ Below w.heap.size w w' := by
  have HV := Lib.hid hv
  obtain ⟨a0, c0, rfl, hn1, hn2, _⟩ := hv
  unfold maxLen at hn2
  by_cases hbig : (1048576 : Int) < n
  · go_enter Try.func4, Try.ntmps4
    go_wp2_with fail
    go_ret
    exact ⟨rfl, Below.refl _ _⟩
  go_enter Try.func4, Try.ntmps4
  go_wp2_with fail
  refine (drawTwo_any _ n w HV.out).mono ?_
  rintro e w1 ⟨pa, pb, a, b, rfl, ha, hb, ra, rb, hb1⟩
  have hz1 := hb1.size
  have HA1 := Lib.hid ra
  have HB1 := Lib.hid rb
  have HL1 := Lib.hid hb1
  have hla := two_length a ha
  have hlb := two_length b hb
  have HBD := Lib.hid (two_bounds a ha)
  obtain ⟨X, hX⟩ : ∃ X, within a b = X := ⟨_, rfl⟩
  obtain ⟨Y, hY⟩ : ∃ Y, within b a = Y := ⟨_, rfl⟩
  have HLEN : Hid (X = true → Y = true → a.length = b.length) := fun h g => same_length a ha b hb (hX.trans h) (hY.trans g)
  have HX := Lib.hid hX
  have HY := Lib.hid hY
  clear ra rb hb1 ha hb hX hY
  go_wp2_with fail
  refine (call_within a b pa pb _ _ w1 (fun k hk => by omega) (fun k hk => by omega) HA1.out HB1.out hla hlb X HX.out).mono ?_
  rintro e w3 ⟨rfl, hb3⟩
  have hz3 := hb3.size
  have HA3 := Lib.hid (row_later HA1.out hb3 fun k hk => by omega)
  have HB3 := Lib.hid (row_later HB1.out hb3 fun k hk => by omega)
  have HL3 : Hid (Below w.heap.size w w3) := HL1.out.trans (hb3.mono (by omega))
  clear hb3
  go_wp2_with fail
  refine (call_within b a pb pa _ _ w3 (fun k hk => by omega) (fun k hk => by omega) HB3.out HA3.out hlb hla Y HY.out).mono ?_
  rintro e w4 ⟨rfl, hb4⟩
  have hz4 := hb4.size
  have HA4 := Lib.hid (row_later HA3.out hb4 fun k hk => by omega)
  have HB4 := Lib.hid (row_later HB3.out hb4 fun k hk => by omega)
  have HL4 : Hid (Below w.heap.size w w4) := HL3.out.trans (hb4.mono (by omega))
  clear hb4
  go_wp2_with fail
  refine (call_model a b pa pb _ _ w4 HA4.out HB4.out (fun k hk => by omega) (fun k hk => by omega) X HX.out).mono ?_
  rintro e w5 ⟨rfl, rfl⟩
  have hbA := below_alloc w5 (.cells #[] 3)
  have hE : IntRow (· < (w5.alloc (.cells #[] 3)).heap.size) (w5.alloc (.cells #[] 3)) (.slice (some ⟨w5.heap.size, 0, none⟩) ([] : List Int).length 0) [] := ⟨_, 0, rfl, Nat.le_refl _, Nat.zero_le _, by simp, .inl rfl⟩
  have HE := Lib.hid hE
  have HBA := Lib.hid hbA
  have hzA : (w5.alloc (.cells #[] 3)).heap.size = w5.heap.size + 1 := size_alloc' _ _
  have HZA := Lib.hid hzA
  clear hE hbA hzA
  go_wp2_with fail
  refine (call_within [] a _ pa 0 _ _ (fun k hk => hk) (fun k hk => by rw [HZA.out]; omega) HE.out (row_later HA4.out HBA.out fun k hk => by omega) (by simp) hla true rfl).mono ?_
  rintro e w6 ⟨rfl, hb6⟩
  have hb6' : Below w5.heap.size w5 w6 := HBA.out.trans (hb6.mono (by rw [HZA.out]; omega))
  have hz6 := hb6'.size
  have HA6 := Lib.hid (row_later HA4.out hb6' fun k hk => by omega)
  have HB6 := Lib.hid (row_later HB4.out hb6' fun k hk => by omega)
  have HL6 : Hid (Below w.heap.size w w6) := HL4.out.trans (hb6'.mono (by omega))
  clear hb6 hb6'
  go_wp2_with fail
  go_loopw [7, 8] (fun x i wr => ∃ j : Nat, j ≤ a.length ∧ i = .int .i64 j ∧ x = .bool (within (a.take j) b) ∧ Below w6.heap.size w6 wr) (fun x i _ => a.length - (intOf i).toNat)
  case atStart => exact ⟨0, Nat.zero_le _, rfl, rfl, Below.refl _ _⟩
  case round =>
    obtain ⟨j, hj, rfl, rfl, hbr⟩ := hrel
    have hzr := hbr.size
    have HAr := Lib.hid (row_later HA6.out hbr fun k hk => by omega)
    have HBr := Lib.hid (row_later HB6.out hbr fun k hk => by omega)
    have HBW := Lib.hid hbr
    clear hbr
    by_cases hlt : j < a.length
    · obtain ⟨T, hT⟩ : ∃ T, within (a.take j) b = T := ⟨_, rfl⟩
      have HTS := Lib.hid (within_take_succ a b j hlt)
      rw [hT]
      have HT := Lib.hid hT
      clear hT
      have hcell : ∃ c off, pa = some ⟨c, off, none⟩ ∧ wr.cell? ⟨c, off + j, none⟩ = some (.int .i64 a[j]) := by
        obtain ⟨a', cap', e, _, _, _, hrow⟩ := HAr.out
        injection e with e1 e2 e3
        subst e1
        rcases hrow with h0 | ⟨c, off, rfl, _, hc⟩
        · rw [h0] at hlt; simp at hlt
        · exact ⟨c, off, rfl, hc j hlt⟩
      obtain ⟨c, off, hpa, hcell⟩ := hcell
      have hj0 : (0 : Int) ≤ (j : Int) := by omega
      have hj1 : (j : Int) < (a.length : Int) := by omega
      cases T with
      | false =>
        go_wp2_with fail
        go_roundw
        case rel => exact ⟨j + 1, by omega, by go_num, by rw [HTS.out, HT.out]; rfl, HBW.out⟩
        case measure => simp [intOf]; omega
      | true =>
        have hbN := row_new wr 3 [a[j]] (by simp) (fun n hn => by rw [List.mem_singleton] at hn; subst hn; exact HBD.out _ (List.getElem_mem hlt))
        have HBN := Lib.hid hbN
        have HAL := Lib.hid (below_alloc wr (.cells ([a[j]].map (Value.int .i64)).toArray 3))
        have HZ := Lib.hid (size_alloc' wr (.cells ([a[j]].map (Value.int .i64)).toArray 3))
        obtain ⟨U, hU⟩ : ∃ U, within [a[j]] b = U := ⟨_, rfl⟩
        have HU := Lib.hid hU
        clear hbN hU
        subst hpa
        go_wp2_with fail
        refine (call_within [a[j]] b _ pb 1 _ _ (fun k (hk : k = wr.heap.size) => by rw [hk, size_alloc']; omega) (fun k hk => by rw [size_alloc']; omega) HBN.out (row_later HBr.out HAL.out fun k hk => by omega) (by simp) hlb U HU.out).mono ?_
        rintro e w7 ⟨rfl, hb7⟩
        have HB7 : Hid (Below w6.heap.size w6 w7) := HBW.out.trans ((HAL.out.trans (hb7.mono (by rw [size_alloc']; omega))).mono hzr)
        clear hb7
        go_wp2_with fail
        go_roundw
        case rel => exact ⟨j + 1, by omega, by go_num, by rw [HTS.out, HT.out, HU.out]; rfl, HB7.out⟩
        case measure => simp [intOf]; omega
    · have hT : within (a.take j) b = X := by rw [List.take_of_length_le (by omega)]; exact HX.out
      rw [hT]
      have HBF : Hid (Below w.heap.size w wr) := HL6.out.trans (HBW.out.mono (by omega))
      clear hT
      cases X with
      | false =>
        go_wp2_with fail
        go_ret
        exact ⟨rfl, HBF.out⟩
      | true =>
        cases Y with
        | false =>
          go_wp2_with fail
          go_ret
          exact ⟨rfl, HBF.out⟩
        | true =>
          have hlen := HLEN.out (by simp) (by simp)
          have hlen' : ((a.length : Int) == (b.length : Int)) = true := by simp [hlen]
          go_wp2_with fail
          go_ret
          exact ⟨ret_bool (by simp [hlen]), HBF.out⟩
theorem own : ownKnob Try.prog.godebug = none := by kernel_rfl
theorem laidOut : laidOutB Try.prog = true := by kernel_rfl
set_option maxRecDepth 100000 in
theorem lifted (os : Os) (started : os.Started) (H : Type) (enc : TypeId × Value → H) :
    ReturnsInHanded {} Try.checked os 4 .any (Rows.fnWithinSameSpec.pre6 enc Try.prog Try.f4 Rows.fnWithinSameRow.domain false) (Rows.fnWithinSameSpec.post enc Try.prog Try.f4 false true false false) := by
  refine returnsInHanded_of_change (C := Try.checked) own started (by kernel_rfl) Try.func4
    (ChangeSpec.witness6 (enc := enc) (C := Try.checked) false ⟨#[], #[.slice none 0 0], []⟩ 12 (by kernel_rfl) (by kernel_rfl) (by kernel_rfl) (by kernel_rfl)) ?_
  intro W base args ds gs before hval0 hW hcnd _
  have hval : ∀ (j : Nat) t v, Try.f4.params[j]? = some t → args[j]? = some v → Value.okWide Try.prog W .any base t v := hval0
  have hW' := hW
  obtain ⟨p, q, hA0, hV, rfl, hfz, hnd⟩ := hW
  have hA : DataW.TrodAll enc Try.prog W 0 (fun _ => true) true Try.f4.params.toList args.toList ds p := hA0
  rw [Try.params4] at hA hval
  obtain ⟨v0, vs0, d0, ds0, p0, q0, hargs, rfl, rfl, h0, r0⟩ := trodAll_cons hA
  obtain ⟨rfl, rfl, rfl⟩ := trodAll_nil r0
  obtain rfl : args = #[v0] := by cases args; simp_all
  obtain ⟨rfl, rfl⟩ := trodVars_none hV
  have k0 := h0
  have lt0 : ∀ x ∈ p0, x.block < W.heap.size := by obtain ⟨m, hm⟩ := k0; exact DataW.trod_lt m _ _ _ hm
  obtain ⟨f0, i0⟩ := open_bytes_arg (hval 0 22 v0 rfl rfl) h0
  clear hA0 hval0
  try simp only [List.append_nil] at hW'
  refine (walk W f0 v0 i0).mono fun e W' ⟨he, bel⟩ => ?_
  subst he
  exact ⟨_, rfl, _, _, _, [], _, [], hW', trodAll_mk1 (shut_bool Try.underlying4 _), (trodAll_cons_mk (Below.trod laidOut (by kernel_rfl) (of_decide_eq_true (by kernel_rfl)) k0 bel lt0) trodAll_mk0), rfl, bel.frame _, fun h => by cases h⟩
theorem over_named : Try.pinned.checked.prog.funcNamed Rows.fnWithinSameRow.func = some 4 := by kernel_rfl
theorem over_closed : joinedFacts Try.pinned.checked.prog 4 Try.f4 Rows.fnWithinSameSpec Rows.fnWithinSameRow = true := by kernel_rfl
theorem over_inst : Func.isInstance Try.pinned.checked.prog Try.f4 Rows.fnWithinSameRow.origin Rows.fnWithinSameRow.targs := of_decide_eq_true (by kernel_rfl)
theorem over_wrap : Func.isWrapper Try.pinned.checked.prog Try.f4 Rows.fnWithinSameRow.wrapper Rows.fnWithinSameRow.mainSum := (by unfold Func.isWrapper; first | (rw [if_pos (by decide +kernel)]; kernel_rfl) | (rw [if_neg (by decide +kernel)]; exact ⟨rfl, rfl⟩))
theorem over : Rows.fnWithinSameRow.holds Try.pinned (OpenSpec.ofChange Rows.fnWithinSameSpec) :=
  OpenClaim.holds_of_wide 4 Try.f4 rfl rfl rfl rfl rfl rfl rfl ⟨rfl, rfl, rfl, rfl, rfl⟩ rfl rfl rfl rfl rfl over_named Try.func4 over_closed over_inst over_wrap
    (fun os started H enc _ => lifted os started H enc)
theorem proved : Rows.FnWithinSameSaid := over
end Go.Proofs.Ytaihblfabaijoaa.lwWithinSame
