/- For every two lists of hits the two answers of HitsSame agree, and the program's leaves its arguments as they were: the law FnExactHitsSame returns true, whatever the input, with no condition beyond the statement's own. -/
import Derived.Test.YtlmplfpdmelcjaaRows
import Derived.Test.YtlmplfpdmelcjaaFacts
import Derived.Test.YtlmplfpdmelcjaaOpenH
import Derived.Test.YtlmplfpdmelcjaaSzHit
import Derived.Test.YtlmplfpdmelcjaaEqHit
import Derived.Test.YtlmplfpdmelcjaaToHit2
import Derived.Test.YtlmplfpdmelcjaaFormsS
import Derived.Test.YtlmplfpdmelcjaaImplSameH
import Derived.Test.YtlmplfpdmelcjaaSpecSameH
namespace Go.Proofs.Ytlmplfpdmelcjaa.exHitsSame
open Go.ChangeShapes Go.WideShapes Go.ChangeAt Go.RowKit
open Go.ChangeMaps (open_string shut_string)
open Go.Proofs.Ytlmplfpdmelcjaa.HitT
set_option linter.unusedVariables false
set_option linter.unusedSimpArgs false
theorem up {w w' : World} {l : List Ht} {a : Option Addr} {cap : Nat} (h : HitsIn (· < w.heap.size) w a cap l) (hb : Below w.heap.size w w') : HitsIn (· < w'.heap.size) w' a cap l :=
  (h.later (same_below hb)).mono (fun k (hk : k < w.heap.size) => Nat.lt_of_lt_of_le hk hb.size)
/-- a list of hits in fresh blocks -/
def Fresh (w : World) (a : Option Addr) (cap : Nat) (l : List Ht) (bs : List Nat) : Prop := HitsOwn w a cap l bs ∧ bs.Nodup ∧ (∀ c ∈ bs, c < w.heap.size) ∧ AllPlain w bs
theorem Fresh.later {w w' : World} {a : Option Addr} {cap : Nat} {l : List Ht} {bs : List Nat} (h : Fresh w a cap l bs) (hb : Below w.heap.size w w') : Fresh w' a cap l bs :=
  ⟨h.1.later (SameOn.of_below hb h.2.2.1), h.2.1, fun c hc => Nat.lt_of_lt_of_le (h.2.2.1 c hc) hb.size, fun c hc => (h.2.2.2 c hc).later hb⟩
theorem Fresh.reads {w : World} {a : Option Addr} {cap : Nat} {l : List Ht} {bs : List Nat} (h : Fresh w a cap l bs) : HitsIn (Pl w.heap.size w) w a cap l := h.1.reads (fun b hb => ⟨h.2.2.1 b hb, h.2.2.2 b hb⟩)
theorem copy (w : World) (l : List Ht) (a : Option Addr) (cap : Nat) (h : HitsIn (· < w.heap.size) w a cap l) (hsz : szHs l ≤ 1048576) :
    Calls Try.prog 17 #[.slice a l.length cap] w fun e w' => ∃ a' cap' bs, e = .returned (.slice a' l.length cap') ∧ Fresh w' a' cap' l bs ∧ Below w.heap.size w w' := by
  refine (toHitS_of w.heap.size l (fun g _ => toHit_any w.heap.size g) a cap w (Nat.le_refl _) h.1 h.2.1 h.2.2 hsz).mono ?_
  rintro e w' ⟨a', cap', rfl, h1, h2, ⟨bs, h3, h4, h5⟩, h6⟩
  exact ⟨a', cap', bs, rfl, ⟨⟨h1, h2, h3⟩, h4.1, fun b hb => (h4.2 b hb).2, h5⟩, h6⟩
theorem less {w : World} {l : List Ht} {a : Option Addr} {cap : Nat} (h : HitsIn (Pl w.heap.size w) w a cap l) : HitsIn (· < w.heap.size) w a cap l := h.mono (fun k hk => hk.1)
set_option maxRecDepth 100000 in
set_option maxHeartbeats 4000000 in
theorem walk (w : World) (l : List Ht) (v : Value) (hv : HitsV w l v) (m : List Ht) (u : Value) (hu : HitsV w m u) :
    Calls Try.prog 6 #[v, u] w fun e w' => e = .returned (.bool true) ∧ Below w.heap.size w w' := by
  obtain ⟨a, cap, rfl, hv⟩ := hv
  obtain ⟨b, bcap, rfl, hu⟩ := hu
  have HV := Lib.hid hv
  have HU := Lib.hid hu
  clear hv hu
  go_enter Try.func6, Try.ntmps6
  go_wp2_with fail
  refine (szHitS_row w.heap.size l a cap w 1048576 (Nat.le_refl _) HV.out ⟨by omega, by omega⟩).mono ?_
  rintro e w1 ⟨rfl, hb1⟩
  have HB1 := Lib.hid hb1
  have HV1 := Lib.hid (up HV.out hb1)
  have HU1 := Lib.hid (up HU.out hb1)
  have hs1 := hb1.size
  clear hb1
  rcases leftS2 (szHs l) with hl | ⟨hsz, hl⟩
  · go_wp2_with fail
    go_ret
    exact ⟨rfl, HB1.out⟩
  rw [hl]
  have hl0 : ¬ (1048576 - (szHs l : Int)) < 0 := by omega
  clear hl
  go_wp2_with fail
  refine (szHitS_row w1.heap.size m b bcap w1 (1048576 - szHs l) (Nat.le_refl _) HU1.out ⟨by omega, by omega⟩).mono ?_
  rintro e w2 ⟨rfl, hb2⟩
  have HB2 : Hid (Below w.heap.size w w2) := HB1.out.trans (hb2.mono (by omega))
  have HV2 := Lib.hid (up HV1.out hb2)
  have HU2 := Lib.hid (up HU1.out hb2)
  have hs2 := hb2.size
  clear hb2
  rcases leftS3 (szHs l) (szHs m) hsz with hl | ⟨hszb, hl⟩
  · go_wp2_with fail
    go_ret
    exact ⟨rfl, HB2.out⟩
  have hl1 : ¬ leftOf (1048576 - szHs l) (szHs m) < 0 := by omega
  have hszm : szHs m ≤ 1048576 := by omega
  clear hl
  go_wp2_with fail
  refine (copy w2 l a cap HV2.out hsz).mono ?_
  rintro e w3 ⟨c3, ccap3, cs3, rfl, hr, hb⟩
  have HR3 := Lib.hid hr
  clear hr
  have HB3 : Hid (Below w.heap.size w w3) := HB2.out.trans (hb.mono (by omega))
  have HV3 := Lib.hid (up HV2.out hb)
  have HU3 := Lib.hid (up HU2.out hb)
  have hs3 := hb.size
  clear hb
  go_wp2_with fail
  refine (copy w3 m b bcap HU3.out hszm).mono ?_
  rintro e w4 ⟨d4, dcap4, ds4, rfl, hr, hb⟩
  have HR4 := Lib.hid hr
  have HR3_4 := Lib.hid (HR3.out.later hb)
  clear hr
  have HB4 : Hid (Below w.heap.size w w4) := HB3.out.trans (hb.mono (by omega))
  have HV4 := Lib.hid (up HV3.out hb)
  have HU4 := Lib.hid (up HU3.out hb)
  have hs4 := hb.size
  clear hb
  go_wp2_with fail
  refine (specHitsSame_any w4.heap.size l m c3 d4 ccap3 dcap4 w4 (Nat.le_refl _) (less (HR3_4.out.reads)) (less HR4.out.reads)).mono ?_
  rintro e w5 ⟨rfl, hb⟩
  have HB5 : Hid (Below w.heap.size w w5) := HB4.out.trans (hb.mono (by omega))
  have HV5 := Lib.hid (up HV4.out hb)
  have HU5 := Lib.hid (up HU4.out hb)
  have hs5 := hb.size
  clear hb
  go_wp2_with fail
  refine (copy w5 l a cap HV5.out hsz).mono ?_
  rintro e w6 ⟨x6, xcap6, xs6, rfl, hr, hb⟩
  have HQ6 := Lib.hid hr
  clear hr
  have HB6 : Hid (Below w.heap.size w w6) := HB5.out.trans (hb.mono (by omega))
  have HV6 := Lib.hid (up HV5.out hb)
  have HU6 := Lib.hid (up HU5.out hb)
  have hs6 := hb.size
  clear hb
  go_wp2_with fail
  refine (copy w6 m b bcap HU6.out hszm).mono ?_
  rintro e w7 ⟨y7, ycap7, ys7, rfl, hr, hb⟩
  have HQ7 := Lib.hid hr
  have HQ6_7 := Lib.hid (HQ6.out.later hb)
  clear hr
  have HB7 : Hid (Below w.heap.size w w7) := HB6.out.trans (hb.mono (by omega))
  have HV7 := Lib.hid (up HV6.out hb)
  have HU7 := Lib.hid (up HU6.out hb)
  have hs7 := hb.size
  clear hb
  go_wp2_with fail
  obtain ⟨ho, hnd, hlt, hpl⟩ := HQ6_7.out
  refine (implHitsSame_any l m x6 y7 xcap6 ycap7 xs6 w7 ho hnd hlt hpl HQ7.out.reads (by omega) (by omega)).mono ?_
  rintro e w8 ⟨rfl, hb⟩
  clear ho hnd hlt hpl
  have HQ6_8 := Lib.hid (HQ6_7.out.later hb)
  have HQ7_8 := Lib.hid (HQ7.out.later hb)
  have HB8 : Hid (Below w.heap.size w w8) := HB7.out.trans (hb.mono (by omega))
  have HV8 := Lib.hid (up HV7.out hb)
  have HU8 := Lib.hid (up HU7.out hb)
  have hs8 := hb.size
  clear hb
  have hne : (sameHs l m != sameHs l m) = false := by simp
  go_wp2_with fail
  refine (copy w8 l a cap HV8.out hsz).mono ?_
  rintro e w9 ⟨z9, zcap9, zs9, rfl, hr, hb⟩
  have HT9 := Lib.hid hr
  have HQ6_9 := Lib.hid (HQ6_8.out.later hb)
  have HQ7_9 := Lib.hid (HQ7_8.out.later hb)
  clear hr
  have HB9 : Hid (Below w.heap.size w w9) := HB8.out.trans (hb.mono (by omega))
  have HV9 := Lib.hid (up HV8.out hb)
  have HU9 := Lib.hid (up HU8.out hb)
  have hs9 := hb.size
  clear hb
  go_wp2_with fail
  refine (eqHitS_row w9.heap.size l x6 z9 xcap6 zcap9 w9 (Nat.le_refl _) (less HQ6_9.out.reads) (less HT9.out.reads)).mono ?_
  rintro e w10 ⟨rfl, hb⟩
  have HQ7_10 := Lib.hid (HQ7_9.out.later hb)
  have HB10 : Hid (Below w.heap.size w w10) := HB9.out.trans (hb.mono (by omega))
  have HV10 := Lib.hid (up HV9.out hb)
  have HU10 := Lib.hid (up HU9.out hb)
  have hs10 := hb.size
  clear hb
  go_wp2_with fail
  refine (copy w10 m b bcap HU10.out hszm).mono ?_
  rintro e w11 ⟨z11, zcap11, zs11, rfl, hr, hb⟩
  have HT11 := Lib.hid hr
  have HQ7_11 := Lib.hid (HQ7_10.out.later hb)
  clear hr
  have HB11 : Hid (Below w.heap.size w w11) := HB10.out.trans (hb.mono (by omega))
  have HV11 := Lib.hid (up HV10.out hb)
  have HU11 := Lib.hid (up HU10.out hb)
  have hs11 := hb.size
  clear hb
  go_wp2_with fail
  refine (eqHitS_row w11.heap.size m y7 z11 ycap7 zcap11 w11 (Nat.le_refl _) (less HQ7_11.out.reads) (less HT11.out.reads)).mono ?_
  rintro e w12 ⟨rfl, hb⟩
  have HB12 : Hid (Below w.heap.size w w12) := HB11.out.trans (hb.mono (by omega))
  have HV12 := Lib.hid (up HV11.out hb)
  have HU12 := Lib.hid (up HU11.out hb)
  have hs12 := hb.size
  clear hb
  go_wp2_with fail
  go_ret
  exact ⟨rfl, HB12.out⟩
theorem own : ownKnob Try.prog.godebug = none := by kernel_rfl
theorem laidOut : laidOutB Try.prog = true := by kernel_rfl
set_option maxRecDepth 100000 in
theorem lifted (os : Os) (started : os.Started) (H : Type) (enc : TypeId × Value → H) :
    ReturnsInHanded {} Try.checked os 6 .any (Rows.fnExactHitsSameSpec.pre6 enc Try.prog Try.f6 Rows.fnExactHitsSameRow.domain false) (Rows.fnExactHitsSameSpec.post enc Try.prog Try.f6 false true false false) := by
  refine returnsInHanded_of_change (C := Try.checked) own started (by kernel_rfl) Try.func6
    (ChangeSpec.witness6 (enc := enc) (C := Try.checked) false ⟨#[], #[.slice none 0 0, .slice none 0 0], []⟩ 12 (by kernel_rfl) (by kernel_rfl) (by kernel_rfl) (by kernel_rfl)) ?_
  intro W base args ds gs before hval0 hW hcnd _
  have hval : ∀ (j : Nat) t v, Try.f6.params[j]? = some t → args[j]? = some v → Value.okWide Try.prog W .any base t v := hval0
  have hW' := hW
  obtain ⟨p, q, hA0, hV, rfl, hfz, hnd⟩ := hW
  have hA : DataW.TrodAll enc Try.prog W 0 (fun _ => true) true Try.f6.params.toList args.toList ds p := hA0
  rw [Try.params6] at hA hval
  obtain ⟨v0, vs0, d0, ds0, p0, q0, hargs, rfl, rfl, h0, r0⟩ := trodAll_cons hA
  obtain ⟨v1, vs1, d1, ds1, p1, q1, rfl, rfl, rfl, h1, r1⟩ := trodAll_cons r0
  obtain ⟨rfl, rfl, rfl⟩ := trodAll_nil r1
  obtain rfl : args = #[v0, v1] := by cases args; simp_all
  obtain ⟨rfl, rfl⟩ := trodVars_none hV
  have k0 := h0
  have lt0 : ∀ x ∈ p0, x.block < W.heap.size := by obtain ⟨m, hm⟩ := k0; exact DataW.trod_lt m _ _ _ hm
  obtain ⟨f0, i0⟩ := open_hits_arg (hval 0 22 v0 rfl rfl) h0
  have k1 := h1
  have lt1 : ∀ x ∈ p1, x.block < W.heap.size := by obtain ⟨m, hm⟩ := k1; exact DataW.trod_lt m _ _ _ hm
  obtain ⟨f1, i1⟩ := open_hits_arg (hval 1 22 v1 rfl rfl) h1
  clear hA0 hval0
  try simp only [List.append_nil] at hW'
  refine (walk W f0 v0 i0 f1 v1 i1).mono fun e W' ⟨he, bel⟩ => ?_
  subst he
  exact ⟨_, rfl, _, _, _, [], _, [], hW', trodAll_mk1 (shut_bool Try.underlying4 _), (trodAll_cons_mk (Below.trod laidOut (by kernel_rfl) (of_decide_eq_true (by kernel_rfl)) k0 bel lt0) (trodAll_cons_mk (Below.trod laidOut (by kernel_rfl) (of_decide_eq_true (by kernel_rfl)) k1 bel lt1) trodAll_mk0)), rfl, bel.frame _, fun h => by cases h⟩
theorem over_named : Try.pinned.checked.prog.funcNamed Rows.fnExactHitsSameRow.func = some 6 := by kernel_rfl
theorem c_inPlace : (Rows.fnExactHitsSameRow.inPlace == Try.pinned.checked.prog.inPlace 6) = true := by kernel_rfl
theorem c_unfollowed : (Rows.fnExactHitsSameRow.unfollowed == Try.pinned.checked.prog.unfollowed 6) = true := by kernel_rfl
theorem c_recurses : (Rows.fnExactHitsSameRow.recurses == Try.pinned.checked.prog.recurses 6) = true := by kernel_rfl
theorem c_named : (Rows.fnExactHitsSameRow.named == Try.pinned.checked.prog.varsNamed 6) = true := by kernel_rfl
theorem over_closed : joinedFacts Try.pinned.checked.prog 6 Try.f6 Rows.fnExactHitsSameSpec Rows.fnExactHitsSameRow = true := by
  unfold joinedFacts
  exact Facts.band (Facts.band (Facts.band (Facts.band (Facts.band (Facts.band (Facts.band (Facts.band (Facts.band (Facts.band (Facts.band (Facts.band (Facts.band (Facts.band (Facts.band (Facts.band (Facts.band (Facts.band (Facts.band (Facts.band (Facts.band (Facts.band (Facts.band (Facts.band (Facts.band (Facts.band (Facts.band (Facts.band (Facts.band (Facts.band (Facts.band (by kernel_rfl) Facts.laid) Facts.rowed) (by kernel_rfl)) (by kernel_rfl)) (by kernel_rfl)) Facts.stops) (by kernel_rfl)) Facts.knobs) c_inPlace) c_unfollowed) c_recurses) c_named) (by kernel_rfl)) (by kernel_rfl)) (by kernel_rfl)) (by kernel_rfl)) (by kernel_rfl)) (by kernel_rfl)) (by kernel_rfl)) (by kernel_rfl)) (by kernel_rfl)) (by rw [Facts.plain]; kernel_rfl)) (by kernel_rfl)) Facts.heard) Facts.enter) (by rw [Facts.lifts]; kernel_rfl)) (by rw [Facts.made]; kernel_rfl)) (by kernel_rfl)) (by kernel_rfl)) (by kernel_rfl)) (by kernel_rfl)
theorem over_inst : Func.isInstance Try.pinned.checked.prog Try.f6 Rows.fnExactHitsSameRow.origin Rows.fnExactHitsSameRow.targs := of_decide_eq_true (by kernel_rfl)
theorem over_wrap : Func.isWrapper Try.pinned.checked.prog Try.f6 Rows.fnExactHitsSameRow.wrapper Rows.fnExactHitsSameRow.mainSum := (by unfold Func.isWrapper; first | (rw [if_pos (by decide +kernel)]; kernel_rfl) | (rw [if_neg (by decide +kernel)]; exact ⟨rfl, rfl⟩))
theorem over : Rows.fnExactHitsSameRow.holds Try.pinned (OpenSpec.ofChange Rows.fnExactHitsSameSpec) :=
  OpenClaim.holds_of_wide 6 Try.f6 rfl rfl rfl rfl rfl rfl rfl ⟨rfl, rfl, rfl, rfl, rfl⟩ rfl rfl rfl rfl rfl over_named Try.func6 over_closed over_inst over_wrap
    (fun os started H enc _ => lifted os started H enc)
theorem proved : Rows.FnExactHitsSameSaid := over
end Go.Proofs.Ytlmplfpdmelcjaa.exHitsSame
