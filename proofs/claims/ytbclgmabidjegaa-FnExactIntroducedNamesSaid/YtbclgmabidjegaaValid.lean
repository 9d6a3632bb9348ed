/- The first texts of this seat: letters and names, forms as data, sets of scopes, validity, small walks. -/
import Derived.Test.YtbclgmabidjegaaFirst
import Derived.Test.YtbclgmabidjegaaCount
namespace Go.Proofs.Ytbclgmabidjegaa
section
open Go.RowKit
set_option linter.unusedVariables false
/-- what a check of a form leaves -/
def HoldsPost (f : Fm) (b o n d : Nat) (w : World) (e : Ending) (w' : World) : Prop :=
  e = .returned (.bool (isB (40 - d) f && decide (n + f.count ≤ 400))) ∧
    (∃ n' d', n' ≤ 401 ∧ d ≤ d' ∧ d' ≤ d + 1 ∧ RoomAt w' b o n' d' ∧ ((isB (40 - d) f && decide (n + f.count ≤ 400)) = true → n' = n + f.count ∧ d' = d)) ∧ Kept b o (o + 2) w w'
theorem holdsPost_of {f : Fm} {b o n d n' d' : Nat} {w w' : World} {r : Bool} (h : (isB (40 - d) f && decide (n + f.count ≤ 400)) = r) (hn : n' ≤ 401) (h1 : d ≤ d') (h2 : d' ≤ d + 1)
    (hr : RoomAt w' b o n' d') (ht : r = true → n' = n + f.count ∧ d' = d) (hk : Kept b o (o + 2) w w') : HoldsPost f b o n d w (.returned (.bool r)) w' :=
  ⟨by rw [h], ⟨n', d', hn, h1, h2, hr, by rw [h]; exact ht⟩, hk⟩
theorem holds_list_eq {d n : Nat} (ks : List Fm) (hd : d + 1 ≤ 40) :
    (isB (40 - d) (.mk 3 ByteArray.empty 0 [] ks) && decide (n + (Fm.mk 3 ByteArray.empty 0 [] ks).count ≤ 400)) = (ks.all (isB (40 - (d + 1))) && decide (n + 1 + countAll ks ≤ 400)) := by
  rw [show 40 - d = (40 - (d + 1)) + 1 from by omega, isB_list, show (Fm.mk 3 ByteArray.empty 0 [] ks).count = 1 + countAll ks from by unfold Fm.count; omega, Nat.add_assoc]
theorem fields_false {d n : Nat} (ks : List Fm) (j : Nat) (hj : j < ks.length) (h : (isB (40 - d) ks[j] && decide (n + countAll (ks.take j) + ks[j].count ≤ 400)) = false) :
    (ks.all (isB (40 - d)) && decide (n + countAll ks ≤ 400)) = false := by
  cases hi : isB (40 - d) ks[j] with
  | false =>
    have : ks.all (isB (40 - d)) = false := by
      cases ha : ks.all (isB (40 - d)) with
      | false => rfl
      | true => rw [List.all_eq_true.1 ha ks[j] (List.getElem_mem hj)] at hi; cases hi
    rw [this, Bool.false_and]
  | true =>
    rw [hi, Bool.true_and, decide_eq_false_iff_not] at h
    have h1 := countAll_take_succ ks j hj
    have h2 := countAll_take_le ks (j + 1)
    rw [decide_eq_false (by omega), Bool.and_false]
/-- what a check of the forms in a node leaves -/
def FieldsPost (ks : List Fm) (b o n d : Nat) (w : World) (e : Ending) (w' : World) : Prop :=
  e = .returned (.bool (ks.all (isB (40 - d)) && decide (n + countAll ks ≤ 400))) ∧
    (∃ n' d', n' ≤ 401 ∧ d ≤ d' ∧ d' ≤ d + 1 ∧ RoomAt w' b o n' d' ∧ ((ks.all (isB (40 - d)) && decide (n + countAll ks ≤ 400)) = true → n' = n + countAll ks ∧ d' = d)) ∧ Kept b o (o + 2) w w'
theorem fieldsPost_of {ks : List Fm} {b o n d n' d' : Nat} {w w' : World} {r : Bool} (h : (ks.all (isB (40 - d)) && decide (n + countAll ks ≤ 400)) = r) (hn : n' ≤ 401) (h1 : d ≤ d') (h2 : d' ≤ d + 1)
    (hr : RoomAt w' b o n' d') (ht : r = true → n' = n + countAll ks ∧ d' = d) (hk : Kept b o (o + 2) w w') : FieldsPost ks b o n d w (.returned (.bool r)) w' :=
  ⟨by rw [h], ⟨n', d', hn, h1, h2, hr, by rw [h]; exact ht⟩, hk⟩
set_option maxRecDepth 100000 in
set_option maxHeartbeats 400000 in
theorem fields_name_any (B : Nat) (p : Value) (w : World) (hB : B ≤ w.heap.size) (nm : ByteArray) (sc : List Int) (sa : Option Addr) (scap : Nat) (hnm : nm.size ≤ maxLen)
    (hvs : IntRow (· < B) w (.slice sa sc.length scap) sc) :
    Calls Try.prog 134 #[p, .iface 227 (.agg #[.string nm, .slice sa sc.length scap])] w
      fun e w' => e = .returned (.bool (nameB nm.data.toList && scopesB sc)) ∧ Below w.heap.size w w' := by
  have HVS := Lib.hid hvs
  clear hvs
  have ta1 := as_nn
  go_enter Try.func134, Try.ntmps134
  go_wp2_with fail
  refine (implNameValid_any _ _ hnm).mono ?_
  rintro e w3 ⟨rfl, hb3⟩
  have hs3 : w3.heap.size ≥ w.heap.size + 1 := by have := hb3.size; simpa using this
  have hx0 := hb3.cell (p := ⟨w.heap.size, 0, none⟩) (by simp)
  have hx1 := hb3.cell (p := ⟨w.heap.size, 1, none⟩) (by simp)
  simp at hx0 hx1
  have HB3 : Hid (Below w.heap.size w w3) := ((Below.refl _ _).alloc (Nat.le_refl _) _).trans (hb3.mono (by simp))
  clear hb3
  cases hnb : nameB nm.data.toList with
  | false =>
    have HE : Hid ((nameB nm.data.toList && scopesB sc) = false) := by unfold Hid; rw [hnb, Bool.false_and]
    go_wp2_with fail
    go_ret
    exact ⟨by rw [HE.out]; rfl, HB3.out⟩
  | true =>
    go_wp2_with fail
    refine (implScopes_any (· < B) sc _ _ (HVS.out.later (same_below (HB3.out.mono hB)))).mono ?_
    rintro e w4 ⟨rfl, hb4⟩
    have HB4 : Hid (Below w.heap.size w w4) := HB3.out.trans (hb4.mono (by omega))
    clear hb4
    have HE : Hid ((nameB nm.data.toList && scopesB sc) = scopesB sc) := by unfold Hid; rw [hnb, Bool.true_and]
    go_wp2_with fail
    go_ret
    exact ⟨by rw [HE.out]; rfl, HB4.out⟩
set_option maxRecDepth 100000 in
set_option maxHeartbeats 400000 in
theorem fields_num_any (p : Value) (w : World) (x : Int) :
    Calls Try.prog 134 #[p, .iface 229 (.agg #[.int .i64 x])] w
      fun e w' => e = .returned (.bool (decide (0 ≤ x) && decide (x ≤ 999))) ∧ Below w.heap.size w w' := by
  have ta1 := as_un
  have ta2 := as_uu
  go_enter Try.func134, Try.ntmps134
  by_cases hx : 0 ≤ x
  · have HX : Hid ((decide (0 ≤ x) && decide (x ≤ 999)) = decide (x ≤ 999)) := by unfold Hid; rw [decide_eq_true hx, Bool.true_and]
    go_wp2_with fail
    go_ret
    exact ⟨by rw [HX.out]; rfl, (Below.refl _ _).alloc (Nat.le_refl _) _⟩
  · have HX : Hid ((decide (0 ≤ x) && decide (x ≤ 999)) = false) := by unfold Hid; rw [decide_eq_false hx, Bool.false_and]
    go_wp2_with fail
    go_ret
    exact ⟨by rw [HX.out]; rfl, (Below.refl _ _).alloc (Nat.le_refl _) _⟩
set_option maxRecDepth 100000 in
set_option maxHeartbeats 400000 in
theorem fields_zero_any (p : Value) (w : World) :
    Calls Try.prog 134 #[p, .nilIface] w fun e w' => e = .returned (.bool false) ∧ w' = w := by
  have ta1 := as_zn
  have ta2 := as_zu
  have ta3 := as_zl
  go_enter Try.func134, Try.ntmps134
  go_wp2_with fail
  go_ret
  exact ⟨rfl, rfl⟩
set_option maxRecDepth 100000 in
set_option maxHeartbeats 400000 in
theorem fields_list_any (B : Nat) (w : World) (b o n d : Nat) (hb : B ≤ b) (hB : B ≤ w.heap.size) (hr : RoomAt w b o n d) (hn : n ≤ 400) (hd : d ≤ 40) (ks : List Fm) (a : Option Addr) (cap : Nat) (hcap : ks.length ≤ cap) (hmax : cap ≤ maxLen)
    (hks : ks = [] ∨ ∃ kb off, a = some ⟨kb, off, none⟩ ∧ kb < B ∧ RowIn (· < B) w kb off ks)
    (ih : ∀ g ∈ ks, ∀ (v : Value) (w : World) (b o n d : Nat), B ≤ b → B ≤ w.heap.size → InV (· < B) w g v → RoomAt w b o n d → n ≤ 400 → d ≤ 40 →
      Calls Try.prog 152 #[.pointer (some ⟨b, o, none⟩), v] w (HoldsPost g b o n d w)) :
    Calls Try.prog 134 #[.pointer (some ⟨b, o, none⟩), .iface 238 (.agg #[.slice a ks.length cap])] w (FieldsPost ks b o n d w) := by
  unfold maxLen at hmax
  have hbl := hr.lt
  have HR2 : Hid (RoomAt (w.alloc (.cells #[.slice a ks.length cap] 238)) b o n d) := hr.later ((Below.refl _ _).alloc (Nat.le_refl _) _)
  have HK2 : Hid (Kept b o (o + 2) w (w.alloc (.cells #[.slice a ks.length cap] 238))) := (Kept.refl b o (o + 2) w).alloc _ hbl
  have HIH := Lib.hid ih
  have HKS := Lib.hid hks
  clear ih hks hr
  have ta1 := as_ln
  have ta2 := as_lu
  have ta3 := as_ll
  go_enter Try.func134, Try.ntmps134
  go_wp2_with fail
  go_loopw [39] (fun i wr => ∃ j : Nat, j ≤ ks.length ∧ i = .int .i64 j ∧ RoomAt wr b o (n + countAll (ks.take j)) d ∧ Kept b o (o + 2) w wr ∧
      (ks.take j).all (isB (40 - d)) = true ∧ n + countAll (ks.take j) ≤ 400) (fun i _ => ks.length - (intOf i).toNat)
  case atStart => exact ⟨0, Nat.zero_le _, rfl, by simpa [countAll] using HR2.out, HK2.out, rfl, by simpa [countAll] using hn⟩
  case round =>
    obtain ⟨j, hj, rfl, hrj, hkj, haj, hnj⟩ := hrel
    have HRJ := Lib.hid hrj
    have HKJ := Lib.hid hkj
    have HAJ := Lib.hid haj
    clear hrj hkj haj
    by_cases hlt : j < ks.length
    · rcases HKS.out with h0 | ⟨kb, off, rfl, hkb, hrow⟩
      · exfalso; rw [h0] at hlt; simp at hlt
      · obtain ⟨ga, gcap, ka, kcap, h0, h1, h2, h3, h4, hin⟩ := (hrow.later (same_below (HKJ.out.below hb hB)) kb hkb).at' j hlt
        have HIN := Lib.hid hin
        have HIHJ := Lib.hid (HIH.out ks[j] (List.getElem_mem hlt))
        clear hin hrow
        have hwr : w.heap.size ≤ wr.heap.size := HKJ.out.size
        have hts := countAll_take_succ ks j hlt
        have HTS := Lib.hid hts
        clear hts
        go_wp2_with fail
        refine (HIHJ.out _ _ b o (n + countAll (ks.take j)) d hb (by simp; omega) (InV.later (same_below ((Below.refl B wr).alloc (by omega) _)) _ _ HIN.out)
          (HRJ.out.later ((Below.refl _ _).alloc (Nat.le_refl _) _)) hnj hd).mono ?_
        rintro e w3 ⟨rfl, ⟨n', d', hn', hd1, hd2, hr3, ht⟩, hk3⟩
        have HK3 : Hid (Kept b o (o + 2) w w3) := (HKJ.out.alloc _ (by omega)).trans hk3
        have HR3 := Lib.hid hr3
        have HT := Lib.hid ht
        clear hk3 hr3 ht
        cases hg : (isB (40 - d) ks[j] && decide (n + countAll (ks.take j) + ks[j].count ≤ 400)) with
        | true =>
          have HG := Lib.hid hg
          clear hg
          go_wp2_with fail
          go_roundw
          case rel =>
            have hg := HG.out
            obtain ⟨e1, e2⟩ := HT.out hg
            simp only [Bool.and_eq_true, decide_eq_true_eq] at hg
            have e3 := HTS.out
            exact ⟨j + 1, by omega, by go_num, by have := HR3.out; rw [e1, e2] at this; rw [e3]; rw [← Nat.add_assoc]; exact this, HK3.out, all_take_succ _ ks j hlt HAJ.out hg.1, by rw [e3]; omega⟩
          case measure => simp [intOf]; omega
        | false =>
          have HE := Lib.hid (fields_false ks j hlt hg)
          clear hg
          go_wp2_with fail
          go_ret
          exact fieldsPost_of HE.out hn' hd1 hd2 HR3.out (fun h => by cases h) HK3.out
    · obtain rfl : j = ks.length := by omega
      have HE : Hid ((ks.all (isB (40 - d)) && decide (n + countAll ks ≤ 400)) = true) := by
        have h1 := HAJ.out
        rw [List.take_length] at h1 hnj
        unfold Hid
        rw [h1, decide_eq_true hnj]
        rfl
      go_wp2_with fail
      go_ret
      exact fieldsPost_of HE.out (by omega) (Nat.le_refl _) (by omega) HRJ.out (fun _ => ⟨by rw [List.take_length], rfl⟩) HKJ.out
set_option maxRecDepth 100000 in
set_option maxHeartbeats 400000 in
/-- a check of a form, given what its node is and what the check of the node's fields does -/
theorem holds_of (B : Nat) (w : World) (b o n d : Nat) (hr : RoomAt w b o n d) (hn : n ≤ 400) (hd : d ≤ 40) (f : Fm) (k x : Int) (nm : ByteArray) (s a : Option Addr) (slen scap len cap : Nat) (nv : Value) (hroom : n + 1 ≤ 400 ∧ d + 1 ≤ 40)
    (hnode : ∀ w' : World, Calls Try.prog 200 #[.agg #[.int .i64 k, .string nm, .int .i64 x, .slice s slen scap, .slice a len cap]] w' fun e w'' => e = .returned nv ∧ Below w'.heap.size w' w'')
    (hf : ∀ w' : World, RoomAt w' b o (n + 1) (d + 1) → Kept b o (o + 2) w w' → Calls Try.prog 134 #[.pointer (some ⟨b, o, none⟩), nv] w' fun e w'' =>
      ∃ r, e = .returned (.bool r) ∧ (isB (40 - d) f && decide (n + f.count ≤ 400)) = r ∧ (∃ n' d', n' ≤ 401 ∧ d + 1 ≤ d' ∧ d' ≤ d + 2 ∧ RoomAt w'' b o n' d' ∧ (r = true → n' = n + f.count ∧ d' = d + 1)) ∧ Kept b o (o + 2) w w'') :
    Calls Try.prog 152 #[.pointer (some ⟨b, o, none⟩), .agg #[.int .i64 k, .string nm, .int .i64 x, .slice s slen scap, .slice a len cap]] w (HoldsPost f b o n d w) := by
  have HR := Lib.hid hr
  have HW : Hid ((decide (n + 1 ≤ 400) && decide (d + 1 ≤ 40)) = true) := by unfold Hid; simp; omega
  have HN := Lib.hid hnode
  have HF := Lib.hid hf
  clear hr hnode hf
  go_enter_defers Try.func152, Try.ntmps152
  go_wp2_with fail
  refine (enter_any b o n d _ (HR.out.later ((Below.refl _ _).alloc (Nat.le_refl _) _)) (by omega) (by omega)).mono ?_
  rintro e w1 ⟨rfl, hr1, hk1⟩
  rw [HW.out]
  have hz1 : w.heap.size + 1 ≤ w1.heap.size := by have := hk1.size; simpa using this
  have hbl := HR.out.lt
  have hc0 := hk1.other (k := w.heap.size) (o := 0) (by simp) (by omega)
  have hc1 := hk1.other (k := w.heap.size) (o := 1) (by simp) (by omega)
  have hc2 := hk1.other (k := w.heap.size) (o := 2) (by simp) (by omega)
  have hc3 := hk1.other (k := w.heap.size) (o := 3) (by simp) (by omega)
  have hc4 := hk1.other (k := w.heap.size) (o := 4) (by simp) (by omega)
  simp at hc0 hc1 hc2 hc3 hc4
  have HR1 := Lib.hid hr1
  have HK1 : Hid (Kept b o (o + 2) w w1) := ((Kept.refl b o (o + 2) w).alloc _ hbl).trans hk1
  clear hr1 hk1
  go_wp2_with fail
  refine (HN.out _).mono ?_
  rintro e w2 ⟨rfl, hb2⟩
  have HR2 : Hid (RoomAt w2 b o (n + 1) (d + 1)) := HR1.out.later hb2
  have HK2 : Hid (Kept b o (o + 2) w w2) := HK1.out.trans (Kept.of_below hb2 (by omega))
  clear hb2 hc0 hc1 hc2 hc3 hc4
  go_wp2_with fail
  refine (HF.out w2 HR2.out HK2.out).mono ?_
  rintro e w3 ⟨r, rfl, he, ⟨n', d', hn', h1, h2, hr3, ht⟩, hk3⟩
  have HE := Lib.hid he
  have HR3 := Lib.hid hr3
  have HT := Lib.hid ht
  have HK3 := Lib.hid hk3
  obtain ⟨d2, rfl⟩ : ∃ d2, d' = d2 + 1 := ⟨d' - 1, by omega⟩
  clear he hr3 ht hk3
  go_wp2_with fail
  refine leaves_cons (f := 132) (args := #[.pointer (some ⟨b, o, none⟩)]) (by simp) (by simp [go_sem]) ?_
  refine (leave_deferred b o n' d2 .returning _ HR3.out (by omega)).mono ?_
  rintro e u' w5 ⟨rfl, rfl, hr5, hk5⟩
  exact ⟨.bool r, results_tmp (t := 4) rfl _ _ _, holdsPost_of HE.out hn' (by omega) (by omega) hr5 (fun h => by have := HT.out h; exact ⟨this.1, by omega⟩) (HK3.out.trans hk5)⟩
set_option maxRecDepth 100000 in
set_option maxHeartbeats 400000 in
theorem holds_name_any (B : Nat) (w : World) (b o n d : Nat) (hb : B ≤ b) (hB : B ≤ w.heap.size) (hr : RoomAt w b o n d) (hn : n ≤ 400) (hd : d ≤ 40) (nm : ByteArray) (sc : List Int) (sa a : Option Addr) (scap cap : Nat) (hnm : nm.size ≤ maxLen)
    (hvs : IntRow (· < B) w (.slice sa sc.length scap) sc) (hroom : n + 1 ≤ 400 ∧ d + 1 ≤ 40) :
    Calls Try.prog 152 #[.pointer (some ⟨b, o, none⟩), .agg #[.int .i64 1, .string nm, .int .i64 0, .slice sa sc.length scap, .slice a 0 cap]] w (HoldsPost (.mk 1 nm 0 sc []) b o n d w) := by
  refine holds_of B w b o n d hr hn hd _ _ _ _ _ _ _ _ _ _ _ hroom (fun w' => nodeOf_name nm a sa cap sc.length scap w') (fun w' hr' hk' => ?_)
  refine (fields_name_any B _ w' (by have := hk'.size; omega) nm sc sa scap hnm (hvs.later (same_below (hk'.below hb hB)))).mono ?_
  rintro e w'' ⟨rfl, hb'⟩
  exact ⟨_, rfl, holds_name nm sc hroom.2 hroom.1, ⟨n + 1, d + 1, by omega, by omega, by omega, hr'.later hb', fun _ => ⟨by rw [count_leaf], rfl⟩⟩, hk'.trans (Kept.of_below hb' (by have := hr'.lt; omega))⟩
theorem holds_num_any (B : Nat) (w : World) (b o n d : Nat) (hb : B ≤ b) (hB : B ≤ w.heap.size) (hr : RoomAt w b o n d) (hn : n ≤ 400) (hd : d ≤ 40) (x : Int) (sa a : Option Addr) (scap cap : Nat) (hroom : n + 1 ≤ 400 ∧ d + 1 ≤ 40) :
    Calls Try.prog 152 #[.pointer (some ⟨b, o, none⟩), .agg #[.int .i64 2, .string ByteArray.empty, .int .i64 x, .slice sa 0 scap, .slice a 0 cap]] w (HoldsPost (.mk 2 ByteArray.empty x [] []) b o n d w) := by
  refine holds_of B w b o n d hr hn hd _ _ _ _ _ _ _ _ _ _ _ hroom (fun w' => nodeOf_num x a sa cap scap w') (fun w' hr' hk' => ?_)
  refine (fields_num_any _ w' x).mono ?_
  rintro e w'' ⟨rfl, hb'⟩
  exact ⟨_, rfl, holds_num x hroom.2 hroom.1, ⟨n + 1, d + 1, by omega, by omega, by omega, hr'.later hb', fun _ => ⟨by rw [count_leaf], rfl⟩⟩, hk'.trans (Kept.of_below hb' (by have := hr'.lt; omega))⟩
theorem holds_none_any (B : Nat) (w : World) (b o n d : Nat) (hb : B ≤ b) (hB : B ≤ w.heap.size) (hr : RoomAt w b o n d) (hn : n ≤ 400) (hd : d ≤ 40) (k x : Int) (nm : ByteArray) (sc : List Int) (ks : List Fm) (sa a : Option Addr) (scap cap : Nat) (hroom : n + 1 ≤ 400 ∧ d + 1 ≤ 40)
    (h1 : ¬ (k = 1 ∧ x = 0 ∧ ks = [])) (h2 : ¬ (k = 2 ∧ nm.data.toList = [] ∧ sc = [] ∧ ks = [])) (h3 : ¬ (k = 3 ∧ nm.data.toList = [] ∧ x = 0 ∧ sc = [])) :
    Calls Try.prog 152 #[.pointer (some ⟨b, o, none⟩), .agg #[.int .i64 k, .string nm, .int .i64 x, .slice sa sc.length scap, .slice a ks.length cap]] w (HoldsPost (.mk k nm x sc ks) b o n d w) := by
  have N1 : ¬ (k = 1 ∧ x = 0 ∧ ks.length = 0) := fun h => h1 ⟨h.1, h.2.1, List.length_eq_zero_iff.1 h.2.2⟩
  have N2 : ¬ (k = 2 ∧ nm.toList = [] ∧ sc.length = 0 ∧ ks.length = 0) := fun h => h2 ⟨h.1, by rw [← Lib.toList_data]; exact h.2.1, List.length_eq_zero_iff.1 h.2.2.1, List.length_eq_zero_iff.1 h.2.2.2⟩
  have N3 : ¬ (k = 3 ∧ nm.toList = [] ∧ x = 0 ∧ sc.length = 0) := fun h => h3 ⟨h.1, by rw [← Lib.toList_data]; exact h.2.1, h.2.2.1, List.length_eq_zero_iff.1 h.2.2.2⟩
  refine holds_of B w b o n d hr hn hd _ _ _ _ _ _ _ _ _ _ _ hroom (fun w' => nodeOf_none k x nm a sa sc.length scap ks.length cap w' N1 N2 N3) (fun w' hr' hk' => ?_)
  refine (fields_zero_any _ w').mono ?_
  rintro e w'' ⟨rfl, rfl⟩
  exact ⟨_, rfl, holds_not k x nm sc ks hroom.2 h1 h2 h3, ⟨n + 1, d + 1, by omega, by omega, by omega, hr', fun h => by cases h⟩, hk'⟩
set_option maxRecDepth 100000 in
set_option maxHeartbeats 400000 in
theorem holds_full_any (B : Nat) (w : World) (b o n d : Nat) (hb : B ≤ b) (hB : B ≤ w.heap.size) (hr : RoomAt w b o n d) (hn : n ≤ 400) (hd : d ≤ 40) (f : Fm) (v0 v1 v2 v3 v4 : Value) (hroom : ¬ (n + 1 ≤ 400 ∧ d + 1 ≤ 40)) :
    Calls Try.prog 152 #[.pointer (some ⟨b, o, none⟩), .agg #[v0, v1, v2, v3, v4]] w (HoldsPost f b o n d w) := by
  have HR := Lib.hid hr
  have HE := Lib.hid (holds_full f hroom)
  have HW : Hid ((decide (n + 1 ≤ 400) && decide (d + 1 ≤ 40)) = false) := by unfold Hid; simp; omega
  clear hr
  go_enter_defers Try.func152, Try.ntmps152
  go_wp2_with fail
  refine (enter_any b o n d _ (HR.out.later ((Below.refl _ _).alloc (Nat.le_refl _) _)) (by omega) (by omega)).mono ?_
  rintro e w1 ⟨rfl, hr1, hk1⟩
  rw [HW.out]
  have HR1 := Lib.hid hr1
  have HK1 := Lib.hid hk1
  clear hr1 hk1
  go_wp2_with fail
  exact ⟨.bool false, results_tmp (t := 4) rfl _ _ _, holdsPost_of HE.out (by omega) (by omega) (Nat.le_refl _) HR1.out (fun h => by cases h) (((Kept.refl _ _ _ _).alloc _ HR.out.lt).trans HK1.out)⟩
theorem holds_list_any (B : Nat) (w : World) (b o n d : Nat) (hb : B ≤ b) (hB : B ≤ w.heap.size) (hr : RoomAt w b o n d) (hn : n ≤ 400) (hd : d ≤ 40) (ks : List Fm) (sa a : Option Addr) (scap cap : Nat) (hcap : ks.length ≤ cap) (hmax : cap ≤ maxLen) (hroom : n + 1 ≤ 400 ∧ d + 1 ≤ 40)
    (hks : ks = [] ∨ ∃ kb off, a = some ⟨kb, off, none⟩ ∧ kb < B ∧ RowIn (· < B) w kb off ks)
    (ih : ∀ g ∈ ks, ∀ (v : Value) (w : World) (b o n d : Nat), B ≤ b → B ≤ w.heap.size → InV (· < B) w g v → RoomAt w b o n d → n ≤ 400 → d ≤ 40 →
      Calls Try.prog 152 #[.pointer (some ⟨b, o, none⟩), v] w (HoldsPost g b o n d w)) :
    Calls Try.prog 152 #[.pointer (some ⟨b, o, none⟩), .agg #[.int .i64 3, .string ByteArray.empty, .int .i64 0, .slice sa 0 scap, .slice a ks.length cap]] w (HoldsPost (.mk 3 ByteArray.empty 0 [] ks) b o n d w) := by
  refine holds_of B w b o n d hr hn hd _ _ _ _ _ _ _ _ _ _ _ hroom (fun w' => nodeOf_list a sa ks.length cap scap w') (fun w' hr' hk' => ?_)
  refine (fields_list_any B w' b o (n + 1) (d + 1) hb (by have := hk'.size; omega) hr' hroom.1 hroom.2 ks a cap hcap hmax ?_ ih).mono ?_
  · rcases hks with h | ⟨kb, off, h1, h2, h3⟩
    · exact .inl h
    · exact .inr ⟨kb, off, h1, h2, h3.later (same_below (hk'.below hb hB)) kb h2⟩
  · rintro e w'' ⟨rfl, ⟨n', d', q1, q2, q3, q4, q5⟩, hk⟩
    exact ⟨_, rfl, holds_list_eq ks hroom.2, ⟨n', d', q1, q2, q3, q4, fun h => by have := q5 h; exact ⟨by rw [this.1]; unfold Fm.count; omega, this.2⟩⟩, hk'.trans hk⟩
set_option maxHeartbeats 400000 in
theorem holds_any (B : Nat) (f : Fm) : ∀ (v : Value) (w : World) (b o n d : Nat), B ≤ b → B ≤ w.heap.size → InV (· < B) w f v → RoomAt w b o n d → n ≤ 400 → d ≤ 40 →
    Calls Try.prog 152 #[.pointer (some ⟨b, o, none⟩), v] w (HoldsPost f b o n d w) := by
  induction f using Fm.ind with
  | h k nm x sc ks ih =>
    intro v w b o n d hb hB hv hr hn hd
    unfold InV at hv
    obtain ⟨vs, a, cap, rfl, hkb, hnb, hnm, hvs, hcap, hmax, hks⟩ := hv
    have hvs' := hvs
    obtain ⟨sa, scap, rfl, _⟩ := hvs'
    by_cases hroom : n + 1 ≤ 400 ∧ d + 1 ≤ 40
    · by_cases h1 : k = 1 ∧ x = 0 ∧ ks = []
      · obtain ⟨rfl, rfl, rfl⟩ := h1
        exact holds_name_any B w b o n d hb hB hr hn hd nm sc sa a scap cap hnm hvs hroom
      · by_cases h2 : k = 2 ∧ nm.data.toList = [] ∧ sc = [] ∧ ks = []
        · obtain ⟨rfl, h2, rfl, rfl⟩ := h2
          obtain rfl := empty_of h2
          exact holds_num_any B w b o n d hb hB hr hn hd x sa a scap cap hroom
        · by_cases h3 : k = 3 ∧ nm.data.toList = [] ∧ x = 0 ∧ sc = []
          · obtain ⟨rfl, h3, rfl, rfl⟩ := h3
            obtain rfl := empty_of h3
            exact holds_list_any B w b o n d hb hB hr hn hd ks sa a scap cap hcap hmax hroom hks ih
          · exact holds_none_any B w b o n d hb hB hr hn hd k x nm sc ks sa a scap cap hroom h1 h2 h3
    · exact holds_full_any B w b o n d hb hB hr hn hd (.mk k nm x sc ks) _ _ _ _ _ hroom
end
end Go.Proofs.Ytbclgmabidjegaa
namespace Go.Proofs.Ytbclgmabidjegaa
section
open Go.RowKit
set_option linter.unusedVariables false
set_option maxRecDepth 100000 in
set_option maxHeartbeats 400000 in
theorem implFormValid_any (B : Nat) (f : Fm) (v : Value) (w : World) (hB : B ≤ w.heap.size) (hv : InV (· < B) w f v) :
    Calls Try.prog 94 #[v] w fun e w' => e = .returned (.bool (formB f)) ∧ Below w.heap.size w w' := by
  have HV := Lib.hid hv
  obtain ⟨sa, scap, a, cap, rfl⟩ := hv.form
  clear hv
  go_enter Try.func94, Try.ntmps94
  go_wp2_with fail
  refine (holds_any B f _ _ (w.heap.size + 1) 0 0 0 (by omega) (by simp; omega) (InV.later (same_below (((Below.refl B w).alloc hB _).alloc (by simp; omega) _)) _ _ HV.out)
    ⟨by simp, by simp, by simp, by simp⟩ (by omega) (by omega)).mono ?_
  rintro e w1 ⟨rfl, _, hk⟩
  have HB1 : Hid (Below w.heap.size w w1) := (((Below.refl _ w).alloc (Nat.le_refl _) _).alloc (by simp) _).trans (hk.below (by omega) (by simp; omega))
  have HE : Hid ((isB 40 f && decide (f.count ≤ 400)) = formB f) := rfl
  clear hk
  go_wp2_with fail
  go_ret
  exact ⟨ret_bool HE.out, HB1.out⟩
set_option maxRecDepth 100000 in
set_option maxHeartbeats 400000 in
theorem l1Is_name (B d : Nat) (w : World) (x : Int) (nm : ByteArray) (sc : List Int) (sa a : Option Addr) (len scap cap : Nat) (hB : B ≤ w.heap.size) (hd : d + 1 ≤ 40) (hnm : nm.size ≤ maxLen)
    (hvs : IntRow (· < B) w (.slice sa sc.length scap) sc) :
    Calls Try.prog 157 #[.agg #[.int .i64 1, .string nm, .int .i64 x, .slice sa sc.length scap, .slice a len cap], .int .i64 (d + 1 : Nat)] w
      fun e w' => e = .returned (.bool (nameB nm.data.toList && x == 0 && scopesB sc && decide (len = 0))) ∧ Below w.heap.size w w' := by
  have HVS := Lib.hid hvs
  have hdz : (((d + 1 : Nat) : Int) == 0) = false := by rw [beq_eq_false_iff_ne]; omega
  clear hvs
  go_enter Try.func157, Try.ntmps157
  go_wp2_with fail
  refine (specNameValid_any _ _ hnm).mono ?_
  rintro e w' ⟨rfl, rfl⟩
  cases hn : nameB nm.data.toList with
  | false =>
    go_wp2_with fail
    go_ret
    exact ⟨ret_bool (by simp [hn]), (Below.refl _ _).alloc (Nat.le_refl _) _⟩
  | true =>
    cases hx : x == 0 with
    | false =>
      go_wp2_with fail
      go_ret
      exact ⟨ret_bool (by rw [hn, hx]; rfl), (Below.refl _ _).alloc (Nat.le_refl _) _⟩
    | true =>
      go_wp2_with fail
      refine (specScopes_any (· < B) sc _ _ (HVS.out.later (same_below ((Below.refl B w).alloc hB _)))).mono ?_
      rintro e w4 ⟨rfl, hb4⟩
      have hx4 := hb4.cell (p := ⟨w.heap.size, 4, none⟩) (by simp)
      simp at hx4
      have HB4 : Hid (Below w.heap.size w w4) := ((Below.refl _ w).alloc (Nat.le_refl _) _).trans (hb4.mono (by simp))
      clear hb4
      cases hsc : scopesB sc with
      | false =>
        go_wp2_with fail
        go_ret
        exact ⟨ret_bool (by rw [hn, hx, hsc]; rfl), HB4.out⟩
      | true =>
        go_wp2_with fail
        go_ret
        exact ⟨ret_bool (by rw [hn, hx, hsc, Bool.eq_iff_iff]; simp), HB4.out⟩
set_option maxRecDepth 100000 in
set_option maxHeartbeats 400000 in
theorem l1Is_num (d : Nat) (w : World) (x : Int) (nm : ByteArray) (sa a : Option Addr) (slen len scap cap : Nat) (hd : d + 1 ≤ 40) :
    Calls Try.prog 157 #[.agg #[.int .i64 2, .string nm, .int .i64 x, .slice sa slen scap, .slice a len cap], .int .i64 (d + 1 : Nat)] w
      fun e w' => e = .returned (.bool (nm.data.toList.isEmpty && decide (0 ≤ x) && decide (x ≤ 999) && decide (slen = 0) && decide (len = 0))) ∧ Below w.heap.size w w' := by
  have hdz : (((d + 1 : Nat) : Int) == 0) = false := by rw [beq_eq_false_iff_ne]; omega
  rw [← Lib.toList_data]
  cases h0 : nm.toList.isEmpty with
  | false =>
    go_enter Try.func157, Try.ntmps157
    go_wp2_with fail
    go_ret
    exact ⟨ret_bool (by simp), (Below.refl _ _).alloc (Nat.le_refl _) _⟩
  | true =>
    by_cases h1 : 0 ≤ x
    · by_cases h2 : x ≤ 999
      · by_cases h3 : slen = 0
        · subst h3
          go_enter Try.func157, Try.ntmps157
          go_wp2_with fail
          go_ret
          exact ⟨ret_bool (by rw [Bool.eq_iff_iff]; simp; omega), (Below.refl _ _).alloc (Nat.le_refl _) _⟩
        · have h3' : ((slen : Int) == 0) = false := by rw [beq_eq_false_iff_ne]; omega
          have H3 := Lib.hid h3
          clear h3
          go_enter Try.func157, Try.ntmps157
          go_wp2_with fail
          go_ret
          exact ⟨ret_bool (by rw [decide_eq_false H3.out]; simp), (Below.refl _ _).alloc (Nat.le_refl _) _⟩
      · have H2 := Lib.hid h2
        go_enter Try.func157, Try.ntmps157
        go_wp2_with fail
        go_ret
        exact ⟨ret_bool (by rw [decide_eq_false (show ¬ x ≤ 999 from by have := H2.out; omega)]; simp), (Below.refl _ _).alloc (Nat.le_refl _) _⟩
    · have H1 := Lib.hid h1
      go_enter Try.func157, Try.ntmps157
      go_wp2_with fail
      go_ret
      exact ⟨ret_bool (by rw [decide_eq_false (show ¬ 0 ≤ x from by have := H1.out; omega)]; simp), (Below.refl _ _).alloc (Nat.le_refl _) _⟩
set_option maxRecDepth 100000 in
set_option maxHeartbeats 400000 in
theorem l1Is_zero (w : World) (f : Fm) (v0 v1 v2 v3 v4 : Value) :
    Calls Try.prog 157 #[.agg #[v0, v1, v2, v3, v4], .int .i64 0] w fun e w' => e = .returned (.bool (isB 0 f)) ∧ Below w.heap.size w w' := by
  go_enter Try.func157, Try.ntmps157
  go_wp2_with fail
  go_ret
  exact ⟨ret_bool (by simp [isB]), (Below.refl _ _).alloc (Nat.le_refl _) _⟩
set_option maxRecDepth 100000 in
set_option maxHeartbeats 400000 in
theorem l1Is_none (d : Nat) (w : World) (k x : Int) (nm : ByteArray) (sa a : Option Addr) (slen len scap cap : Nat) (hd : d + 1 ≤ 40) (h1 : k ≠ 1) (h2 : k ≠ 2)
    (h3 : ¬ (k = 3 ∧ nm.toList.isEmpty = true ∧ x = 0 ∧ slen = 0)) :
    Calls Try.prog 157 #[.agg #[.int .i64 k, .string nm, .int .i64 x, .slice sa slen scap, .slice a len cap], .int .i64 (d + 1 : Nat)] w
      fun e w' => e = .returned (.bool false) ∧ Below w.heap.size w w' := by
  have hdz : (((d + 1 : Nat) : Int) == 0) = false := by rw [beq_eq_false_iff_ne]; omega
  have k1 : (k == 1) = false := by rw [beq_eq_false_iff_ne]; exact h1
  have k2 : (k == 2) = false := by rw [beq_eq_false_iff_ne]; exact h2
  by_cases k3 : k = 3
  · subst k3
    cases h0 : nm.toList.isEmpty with
    | false =>
      go_enter Try.func157, Try.ntmps157
      go_wp2_with fail
      go_ret
      exact ⟨ret_bool (rfl), (Below.refl _ _).alloc (Nat.le_refl _) _⟩
    | true =>
      by_cases hx : x = 0
      · subst hx
        have hs : ((slen : Int) == 0) = false := by rw [beq_eq_false_iff_ne]; intro e; exact h3 ⟨rfl, h0, rfl, by omega⟩
        have hs' : ((slen : Int) != 0) = true := by rw [bne_iff_ne]; intro e; exact h3 ⟨rfl, h0, rfl, by omega⟩
        clear h3
        go_enter Try.func157, Try.ntmps157
        go_wp2_with fail
        go_ret
        exact ⟨ret_bool (rfl), (Below.refl _ _).alloc (Nat.le_refl _) _⟩
      · have hx' : (x == 0) = false := by rw [beq_eq_false_iff_ne]; exact hx
        have hx2 : (x != 0) = true := by rw [bne_iff_ne]; exact hx
        clear h3 hx
        go_enter Try.func157, Try.ntmps157
        go_wp2_with fail
        go_ret
        exact ⟨ret_bool (rfl), (Below.refl _ _).alloc (Nat.le_refl _) _⟩
  · have k3' : (k == 3) = false := by rw [beq_eq_false_iff_ne]; exact k3
    have k4 : (k != 3) = true := by rw [bne_iff_ne]; exact k3
    clear h1 h2 h3 k3
    go_enter Try.func157, Try.ntmps157
    go_wp2_with fail
    go_ret
    exact ⟨ret_bool (rfl), (Below.refl _ _).alloc (Nat.le_refl _) _⟩
set_option maxRecDepth 100000 in
set_option maxHeartbeats 400000 in
theorem l1Is_list (B d D : Nat) (w : World) (ks : List Fm) (sa a : Option Addr) (scap cap : Nat) (hB : B ≤ w.heap.size) (hd : d + 1 ≤ 40) (hD : D = d + 1) (hcap : ks.length ≤ cap) (hmax : cap ≤ maxLen)
    (hks : ks = [] ∨ ∃ kb off, a = some ⟨kb, off, none⟩ ∧ kb < B ∧ RowIn (· < B) w kb off ks)
    (ih : ∀ g ∈ ks, ∀ (v : Value) (w : World) (d : Nat), B ≤ w.heap.size → InV (· < B) w g v → d ≤ 40 →
      Calls Try.prog 157 #[v, .int .i64 d] w fun e w' => e = .returned (.bool (isB d g)) ∧ Below w.heap.size w w') :
    Calls Try.prog 157 #[.agg #[.int .i64 3, .string ByteArray.empty, .int .i64 0, .slice sa 0 scap, .slice a ks.length cap], .int .i64 D] w
      fun e w' => e = .returned (.bool (isB (d + 1) (.mk 3 ByteArray.empty 0 [] ks))) ∧ Below w.heap.size w w' := by
  unfold maxLen at hmax
  have hdz : ((D : Int) == 0) = false := by rw [beq_eq_false_iff_ne]; omega
  have hD1 : 1 ≤ D := by omega
  have hD2 : D ≤ 40 := by omega
  have HD := Lib.hid hD
  clear hD
  have HIH := Lib.hid ih
  have HKS := Lib.hid hks
  clear ih hks
  go_enter Try.func157, Try.ntmps157
  go_wp2_with fail
  go_loopw [5] (fun i wr => ∃ j : Nat, j ≤ ks.length ∧ i = .int .i64 j ∧ wr.cell? ⟨w.heap.size, 4, none⟩ = some (.slice a ks.length cap) ∧ Below w.heap.size w wr ∧ w.heap.size < wr.heap.size ∧
      (ks.take j).all (isB d) = true) (fun i _ => ks.length - (intOf i).toNat)
  case atStart => exact ⟨0, Nat.zero_le _, rfl, by simp, (Below.refl _ _).alloc (Nat.le_refl _) _, by simp, rfl⟩
  case round =>
    obtain ⟨j, hj, rfl, hcell, hbj, hsz, haj⟩ := hrel
    have HBJ := Lib.hid hbj
    have HAJ := Lib.hid haj
    clear hbj haj
    by_cases hlt : j < ks.length
    · rcases HKS.out with h0 | ⟨kb, off, rfl, hkb, hrow⟩
      · exfalso; rw [h0] at hlt; simp at hlt
      · obtain ⟨ga, gcap, ka, kcap, h0, h1, h2, h3, h4, hin⟩ := (hrow.later (same_below (HBJ.out.mono hB)) kb hkb).at' j hlt
        have HIN := Lib.hid hin
        have HIHJ := Lib.hid (HIH.out ks[j] (List.getElem_mem hlt))
        clear hin hrow
        go_wp2_with fail
        rw [show ((D : Int) - 1) = (d : Int) from by have := HD.out; omega]
        refine (HIHJ.out _ _ d (by omega) HIN.out (by omega)).mono ?_
        rintro e w3 ⟨rfl, hb3⟩
        have hcell3 := cell_later' hb3 hcell
        have hs3 := hb3.size
        have HB3 : Hid (Below w.heap.size w w3) := HBJ.out.trans (hb3.mono (by omega))
        clear hb3 hcell
        cases hg : isB d ks[j] with
        | true =>
          have HG := Lib.hid hg
          clear hg
          go_wp2_with fail
          go_roundw
          case rel => exact ⟨j + 1, by omega, by go_num, hcell3, HB3.out, by omega, all_take_succ _ ks j hlt HAJ.out HG.out⟩
          case measure => simp [intOf]; omega
        | false =>
          have HE : Hid (isB (d + 1) (.mk 3 ByteArray.empty 0 [] ks) = false) := by
            unfold Hid
            rw [isB_list]
            cases ha : ks.all (isB d) with
            | false => rfl
            | true => rw [List.all_eq_true.1 ha ks[j] (List.getElem_mem hlt)] at hg; cases hg
          clear hg
          go_wp2_with fail
          go_ret
          exact ⟨ret_bool HE.out.symm, HB3.out⟩
    · obtain rfl : j = ks.length := by omega
      have HE : Hid (isB (d + 1) (.mk 3 ByteArray.empty 0 [] ks) = true) := by
        have := HAJ.out
        rw [List.take_length] at this
        unfold Hid
        rw [isB_list, this]
      go_wp2_with fail
      go_ret
      exact ⟨ret_bool HE.out.symm, HBJ.out⟩
set_option maxHeartbeats 400000 in
theorem l1Is_any (B : Nat) (f : Fm) : ∀ (v : Value) (w : World) (d : Nat), B ≤ w.heap.size → InV (· < B) w f v → d ≤ 40 →
    Calls Try.prog 157 #[v, .int .i64 d] w fun e w' => e = .returned (.bool (isB d f)) ∧ Below w.heap.size w w' := by
  induction f using Fm.ind with
  | h k nm x sc ks ih =>
    intro v w d hB hv hd
    unfold InV at hv
    obtain ⟨vs, a, cap, rfl, hkb, hnb, hnm, hvs, hcap, hmax, hks⟩ := hv
    have hvs' := hvs
    obtain ⟨sa, scap, rfl, _⟩ := hvs'
    cases d with
    | zero => exact l1Is_zero w _ _ _ _ _ _
    | succ d =>
      by_cases h1 : k = 1
      · subst h1
        refine (l1Is_name B d w x nm sc sa a ks.length scap cap hB hd hnm hvs).mono ?_
        rintro e w' ⟨rfl, hb⟩
        refine ⟨ret_bool ?_, hb⟩
        unfold isB
        rw [if_pos rfl]
        cases ks <;> simp
      · by_cases h2 : k = 2
        · subst h2
          refine (l1Is_num d w x nm sa a sc.length ks.length scap cap hd).mono ?_
          rintro e w' ⟨rfl, hb⟩
          refine ⟨ret_bool ?_, hb⟩
          unfold isB
          rw [if_neg (by omega), if_pos rfl]
          cases ks <;> cases sc <;> simp
        · by_cases h3 : k = 3 ∧ nm.data.toList = [] ∧ x = 0 ∧ sc = []
          · obtain ⟨rfl, h3, rfl, rfl⟩ := h3
            obtain rfl := empty_of h3
            exact l1Is_list B d (d + 1) w ks sa a scap cap hB hd rfl hcap hmax hks ih
          · refine (l1Is_none d w k x nm sa a sc.length ks.length scap cap hd h1 h2 ?_).mono ?_
            · rintro ⟨a1, a2, a3, a4⟩
              exact h3 ⟨a1, by rw [← Lib.toList_data]; simpa using a2, a3, List.length_eq_zero_iff.1 a4⟩
            · rintro e w' ⟨rfl, hb⟩
              refine ⟨ret_bool ?_, hb⟩
              unfold isB
              rw [if_neg h1, if_neg h2]
              cases hr : (k == 3 && nm.data.toList.isEmpty && x == 0 && sc.isEmpty && ks.all (isB d)) with
              | false => rfl
              | true =>
                exfalso
                simp at hr
                exact h3 ⟨hr.1.1.1.1, by rw [hr.1.1.1.2], hr.1.1.2, hr.1.2⟩
set_option maxRecDepth 100000 in
set_option maxHeartbeats 400000 in
theorem specFormValid_any (B : Nat) (f : Fm) (v : Value) (w : World) (hB : B ≤ w.heap.size) (hv : InV (· < B) w f v) (hc : f.count ≤ 4611686018427387904) :
    Calls Try.prog 97 #[v] w fun e w' => e = .returned (.bool (formB f)) ∧ Below w.heap.size w w' := by
  have HV := Lib.hid hv
  obtain ⟨sa, scap, a, cap, rfl⟩ := hv.form
  clear hv
  go_enter Try.func97, Try.ntmps97
  go_wp2_with fail
  refine (l1Is_any B f _ _ 40 (by simp; omega) (InV.later (same_below ((Below.refl B w).alloc hB _)) _ _ HV.out) (by omega)).mono ?_
  rintro e w1 ⟨rfl, hb1⟩
  have hs1 : w.heap.size + 1 ≤ w1.heap.size := by have := hb1.size; simpa using this
  have hx0 := hb1.cell (p := ⟨w.heap.size, 0, none⟩) (by simp)
  have hx1 := hb1.cell (p := ⟨w.heap.size, 1, none⟩) (by simp)
  have hx2 := hb1.cell (p := ⟨w.heap.size, 2, none⟩) (by simp)
  have hx3 := hb1.cell (p := ⟨w.heap.size, 3, none⟩) (by simp)
  have hx4 := hb1.cell (p := ⟨w.heap.size, 4, none⟩) (by simp)
  simp at hx0 hx1 hx2 hx3 hx4
  have HB1 : Hid (Below w.heap.size w w1) := ((Below.refl _ w).alloc (Nat.le_refl _) _).trans (hb1.mono (by simp))
  clear hb1
  cases hi : isB 40 f with
  | false =>
    have HI := Lib.hid hi
    go_wp2_with fail
    go_ret
    exact ⟨ret_bool (by unfold formB; rw [HI.out]; rfl), HB1.out⟩
  | true =>
    have HI := Lib.hid hi
    go_wp2_with fail
    refine (l1Count_any B f _ _ (by omega) (InV.later (same_below (HB1.out.mono hB)) _ _ HV.out) hc).mono ?_
    rintro e w2 ⟨rfl, hb2⟩
    have HB2 : Hid (Below w.heap.size w w2) := HB1.out.trans (hb2.mono (by omega))
    clear hb2
    go_wp2_with fail
    go_ret
    exact ⟨ret_bool (by unfold formB; rw [HI.out, Bool.eq_iff_iff]; simp; omega), HB2.out⟩
end
end Go.Proofs.Ytbclgmabidjegaa
