/- For every two inputs the drawn sets of scopes agree with the model's containment, each set is within itself, and containment is transitive on them: the law FnScopesWithin returns true, whatever the inputs, with no condition beyond the statement's own. -/
import Derived.Test.YtaihblfabaijoaaRows
import Derived.Test.YtaihblfabaijoaaDrawTwo
import Derived.Test.YtaihblfabaijoaaWithin
import Derived.Test.YtaihblfabaijoaaSetFns2
namespace Go.Proofs.Ytaihblfabaijoaa.lwScopesWithin
open Go.ChangeShapes Go.WideShapes Go.ChangeAt Go.RowKit
open Go.ChangeMaps (open_string shut_string)
set_option linter.unusedVariables false
set_option linter.unusedSimpArgs false
def within (a b : List Int) : Bool := a.all fun x => hasB b x
theorem within_iff (a b : List Int) : within a b = true ↔ ∀ x ∈ a, x ∈ b := by
  unfold within
  rw [List.all_eq_true]
  exact ⟨fun h x hx => (hasB_iff b x).1 (h x hx), fun h x hx => (hasB_iff b x).2 (h x hx)⟩
theorem within_self (a : List Int) : within a a = true := (within_iff a a).2 fun x hx => hx
theorem within_trans {a b c : List Int} (h : within a b = true) (g : within b c = true) : within a c = true :=
  (within_iff a c).2 fun x hx => (within_iff b c).1 g x ((within_iff a b).1 h x hx)
theorem setsTwo_length : ∀ l ∈ setsTwo, l.length ≤ 1048576 := by decide
/-- one call of the program's containment -/
theorem call_within {φ ψ : Nat → Prop} (a b : List Int) (pa pb : Option Addr) (w : World) (hφ : ∀ k, φ k → k < w.heap.size) (hψ : ∀ k, ψ k → k < w.heap.size) (ha : IntRow φ w (.slice pa a.length a.length) a) (hb : IntRow ψ w (.slice pb b.length b.length) b)
    (hl : a ∈ setsTwo) (hlb : b ∈ setsTwo) (R : Bool) (hR : within a b = R) :
    Calls Try.prog 16 #[.slice pa a.length a.length, .slice pb b.length b.length] w fun e w' => e = .returned (.bool R) ∧ Below w.heap.size w w' := by
  rw [← hR]
  exact implWithin_any (· < w.heap.size) a b pa pb a.length b.length w (fun k hk => hk) (ha.mono hφ) (hb.mono hψ) (setsTwo_length a hl) (setsTwo_length b hlb)
theorem call_model {φ ψ : Nat → Prop} (a b : List Int) (pa pb : Option Addr) (w : World) (ha : IntRow φ w (.slice pa a.length a.length) a) (hb : IntRow ψ w (.slice pb b.length b.length) b) (hφ : ∀ k, φ k → k < w.heap.size) (hψ : ∀ k, ψ k → k < w.heap.size)
    (R : Bool) (hR : within a b = R) :
    Calls Try.prog 17 #[.slice pa a.length a.length, .slice pb b.length b.length] w fun e w' => e = .returned (.bool R) ∧ w' = w := by
  rw [← hR]
  exact specWithin_any (· < w.heap.size) a b _ _ w (ha.mono hφ) (hb.mono hψ)
set_option maxRecDepth 100000 in
set_option maxHeartbeats 2000000 in
theorem walk (w : World) (n : Nat) (v : Value) (hv : Bytes w v n) (m : Nat) (u : Value) (hu : Bytes w u m) :
    Calls Try.prog 3 #[v, u] w fun e w' => e = .returned (.bool true) ∧ Below w.heap.size w w' := by
  have HV := Lib.hid hv
  have HU := Lib.hid hu
  obtain ⟨a0, c0, rfl, hn1, hn2, _⟩ := hv
  obtain ⟨a1, c1, rfl, hm1, hm2, _⟩ := hu
  unfold maxLen at hn2 hm2
  by_cases hbig : (1048576 : Int) < n
  · go_enter Try.func3, Try.ntmps3
    go_wp2_with fail
    go_ret
    exact ⟨rfl, Below.refl _ _⟩
  by_cases hbig2 : (1048576 : Int) < m
  · go_enter Try.func3, Try.ntmps3
    go_wp2_with fail
    go_ret
    exact ⟨rfl, Below.refl _ _⟩
  go_enter Try.func3, Try.ntmps3
  go_wp2_with fail
  refine (drawTwo_any _ n w HV.out).mono ?_
  rintro e w1 ⟨pa, pb, a, b, rfl, ha, hb, ra, rb, hb1⟩
  have hz1 := hb1.size
  have HA1 := Lib.hid ra
  have HB1 := Lib.hid rb
  have HL1 := Lib.hid hb1
  have HMA := Lib.hid ha
  have HMB := Lib.hid hb
  clear ra rb hb1 ha hb
  go_wp2_with fail
  refine (drawTwo_any _ m w1 (by
    obtain ⟨x, y, e, z1, z2, z3⟩ := HU.out
    exact ⟨x, y, e, z1, z2, z3.later (same_below HL1.out) fun k hk => by omega⟩)).mono ?_
  rintro e w2 ⟨pd, pc, d, c, rfl, hd, hc, rd, rc, hb2⟩
  have hz2 := hb2.size
  have HA2 : Hid (IntRow (fun k => w.heap.size ≤ k ∧ k < w1.heap.size) w2 (.slice pa a.length a.length) a) := row_later HA1.out hb2 fun k hk => hk.2
  have HB2 : Hid (IntRow (fun k => w.heap.size ≤ k ∧ k < w1.heap.size) w2 (.slice pb b.length b.length) b) := row_later HB1.out hb2 fun k hk => hk.2
  have HC2 := Lib.hid rc
  have HL2 : Hid (Below w.heap.size w w2) := HL1.out.trans (hb2.mono (by omega))
  have HMC := Lib.hid hc
  clear rd rc hb2 hd hc
  obtain ⟨X, hX⟩ : ∃ X, within a b = X := ⟨_, rfl⟩
  obtain ⟨Y, hY⟩ : ∃ Y, within b c = Y := ⟨_, rfl⟩
  obtain ⟨Z, hZ⟩ : ∃ Z, within a c = Z := ⟨_, rfl⟩
  have HXYZ : Hid (X = true → Y = true → Z = true) := fun h g => by rw [← hZ]; exact within_trans (hX.trans h) (hY.trans g)
  have HX := Lib.hid hX
  have HY := Lib.hid hY
  have HZ := Lib.hid hZ
  clear hX hY hZ
  go_wp2_with fail
  refine (call_within a b pa pb w2 (fun k hk => by omega) (fun k hk => by omega) HA2.out HB2.out HMA.out HMB.out X HX.out).mono ?_
  rintro e w3 ⟨rfl, hb3⟩
  have hz3 := hb3.size
  have HA3 := Lib.hid (row_later HA2.out hb3 fun k hk => by omega)
  have HB3 := Lib.hid (row_later HB2.out hb3 fun k hk => by omega)
  have HC3 := Lib.hid (row_later HC2.out hb3 fun k hk => hk.2)
  have HL3 : Hid (Below w.heap.size w w3) := HL2.out.trans (hb3.mono (by omega))
  clear hb3
  go_wp2_with fail
  refine (call_model a b pa pb w3 HA3.out HB3.out (fun k hk => by omega) (fun k hk => by omega) X HX.out).mono ?_
  rintro e w4 ⟨rfl, rfl⟩
  go_wp2_with fail
  refine (call_within a a pa pa w4 (fun k hk => by omega) (fun k hk => by omega) HA3.out HA3.out HMA.out HMA.out true (within_self a)).mono ?_
  rintro e w5 ⟨rfl, hb5⟩
  have hz5 := hb5.size
  have HA5 := Lib.hid (row_later HA3.out hb5 fun k hk => by omega)
  have HB5 := Lib.hid (row_later HB3.out hb5 fun k hk => by omega)
  have HC5 := Lib.hid (row_later HC3.out hb5 fun k hk => by omega)
  have HL5 : Hid (Below w.heap.size w w5) := HL3.out.trans (hb5.mono (by omega))
  clear hb5
  cases X with
  | false =>
    go_wp2_with fail
    go_ret
    exact ⟨rfl, HL5.out⟩
  | true =>
    go_wp2_with fail
    refine (call_within b c pb pc w5 (fun k hk => by omega) (fun k hk => by omega) HB5.out HC5.out HMB.out HMC.out Y HY.out).mono ?_
    rintro e w6 ⟨rfl, hb6⟩
    have hz6 := hb6.size
    have HA6 := Lib.hid (row_later HA5.out hb6 fun k hk => by omega)
    have HC6 := Lib.hid (row_later HC5.out hb6 fun k hk => by omega)
    have HL6 : Hid (Below w.heap.size w w6) := HL5.out.trans (hb6.mono (by omega))
    clear hb6
    cases Y with
    | false =>
      go_wp2_with fail
      go_ret
      exact ⟨rfl, HL6.out⟩
    | true =>
      obtain rfl : Z = true := HXYZ.out (by simp) (by simp)
      go_wp2_with fail
      refine (call_within a c pa pc w6 (fun k hk => by omega) (fun k hk => by omega) HA6.out HC6.out HMA.out HMC.out true HZ.out).mono ?_
      rintro e w7 ⟨rfl, hb7⟩
      have HL7 : Hid (Below w.heap.size w w7) := HL6.out.trans (hb7.mono (by omega))
      go_wp2_with fail
      go_ret
      exact ⟨rfl, HL7.out⟩
theorem own : ownKnob Try.prog.godebug = none := by kernel_rfl
theorem laidOut : laidOutB Try.prog = true := by kernel_rfl
set_option maxRecDepth 100000 in
theorem lifted (os : Os) (started : os.Started) (H : Type) (enc : TypeId × Value → H) :
    ReturnsInHanded {} Try.checked os 3 .any (Rows.fnScopesWithinSpec.pre6 enc Try.prog Try.f3 Rows.fnScopesWithinRow.domain false) (Rows.fnScopesWithinSpec.post enc Try.prog Try.f3 false true false false) := by
  refine returnsInHanded_of_change (C := Try.checked) own started (by kernel_rfl) Try.func3
    (ChangeSpec.witness6 (enc := enc) (C := Try.checked) false ⟨#[], #[.slice none 0 0, .slice none 0 0], []⟩ 12 (by kernel_rfl) (by kernel_rfl) (by kernel_rfl) (by kernel_rfl)) ?_
  intro W base args ds gs before hval0 hW hcnd _
  have hval : ∀ (j : Nat) t v, Try.f3.params[j]? = some t → args[j]? = some v → Value.okWide Try.prog W .any base t v := hval0
  have hW' := hW
  obtain ⟨p, q, hA0, hV, rfl, hfz, hnd⟩ := hW
  have hA : DataW.TrodAll enc Try.prog W 0 (fun _ => true) true Try.f3.params.toList args.toList ds p := hA0
  rw [Try.params3] at hA hval
  obtain ⟨v0, vs0, d0, ds0, p0, q0, hargs, rfl, rfl, h0, r0⟩ := trodAll_cons hA
  obtain ⟨v1, vs1, d1, ds1, p1, q1, rfl, rfl, rfl, h1, r1⟩ := trodAll_cons r0
  obtain ⟨rfl, rfl, rfl⟩ := trodAll_nil r1
  obtain rfl : args = #[v0, v1] := by cases args; simp_all
  obtain ⟨rfl, rfl⟩ := trodVars_none hV
  have k0 := h0
  have lt0 : ∀ x ∈ p0, x.block < W.heap.size := by obtain ⟨m, hm⟩ := k0; exact DataW.trod_lt m _ _ _ hm
  obtain ⟨f0, i0⟩ := open_bytes_arg (hval 0 22 v0 rfl rfl) h0
  have k1 := h1
  have lt1 : ∀ x ∈ p1, x.block < W.heap.size := by obtain ⟨m, hm⟩ := k1; exact DataW.trod_lt m _ _ _ hm
  obtain ⟨f1, i1⟩ := open_bytes_arg (hval 1 22 v1 rfl rfl) h1
  clear hA0 hval0
  try simp only [List.append_nil] at hW'
  refine (walk W f0 v0 i0 f1 v1 i1).mono fun e W' ⟨he, bel⟩ => ?_
  subst he
  exact ⟨_, rfl, _, _, _, [], _, [], hW', trodAll_mk1 (shut_bool Try.underlying4 _), (trodAll_cons_mk (Below.trod laidOut (by kernel_rfl) (of_decide_eq_true (by kernel_rfl)) k0 bel lt0) (trodAll_cons_mk (Below.trod laidOut (by kernel_rfl) (of_decide_eq_true (by kernel_rfl)) k1 bel lt1) trodAll_mk0)), rfl, bel.frame _, fun h => by cases h⟩
theorem over_named : Try.pinned.checked.prog.funcNamed Rows.fnScopesWithinRow.func = some 3 := by kernel_rfl
theorem over_closed : joinedFacts Try.pinned.checked.prog 3 Try.f3 Rows.fnScopesWithinSpec Rows.fnScopesWithinRow = true := by kernel_rfl
theorem over_inst : Func.isInstance Try.pinned.checked.prog Try.f3 Rows.fnScopesWithinRow.origin Rows.fnScopesWithinRow.targs := of_decide_eq_true (by kernel_rfl)
theorem over_wrap : Func.isWrapper Try.pinned.checked.prog Try.f3 Rows.fnScopesWithinRow.wrapper Rows.fnScopesWithinRow.mainSum := (by unfold Func.isWrapper; first | (rw [if_pos (by decide +kernel)]; kernel_rfl) | (rw [if_neg (by decide +kernel)]; exact ⟨rfl, rfl⟩))
theorem over : Rows.fnScopesWithinRow.holds Try.pinned (OpenSpec.ofChange Rows.fnScopesWithinSpec) :=
  OpenClaim.holds_of_wide 3 Try.f3 rfl rfl rfl rfl rfl rfl rfl ⟨rfl, rfl, rfl, rfl, rfl⟩ rfl rfl rfl rfl rfl over_named Try.func3 over_closed over_inst over_wrap
    (fun os started H enc _ => lifted os started H enc)
theorem proved : Rows.FnScopesWithinSaid := over
end Go.Proofs.Ytaihblfabaijoaa.lwScopesWithin
