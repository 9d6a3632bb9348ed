/- The contract of the walk that counts and checks a form. -/
import Derived.Test.YtmakaoomdnlebaaFirst
namespace Go.Proofs.Ytmakaoomdnlebaa
open Go.RowKit
set_option linter.unusedVariables false
/-- what a check of a form leaves -/
def HoldsPost (f : Fm) (b o n d : Nat) (w : World) (e : Ending) (w' : World) : Prop :=
  e = .returned (.bool (isB (40 - d) f && decide (n + f.count ≤ 400))) ∧
    (∃ n' d', n' ≤ 401 ∧ d ≤ d' ∧ d' ≤ d + 1 ∧ RoomAt w' b o n' d' ∧ ((isB (40 - d) f && decide (n + f.count ≤ 400)) = true → n' = n + f.count ∧ d' = d)) ∧ Kept b o (o + 2) w w'
theorem holdsPost_of {f : Fm} {b o n d n' d' : Nat} {w w' : World} {r : Bool} (h : (isB (40 - d) f && decide (n + f.count ≤ 400)) = r) (hn : n' ≤ 401) (h1 : d ≤ d') (h2 : d' ≤ d + 1)
    (hr : RoomAt w' b o n' d') (ht : r = true → n' = n + f.count ∧ d' = d) (hk : Kept b o (o + 2) w w') : HoldsPost f b o n d w (.returned (.bool r)) w' :=
  ⟨by rw [h], ⟨n', d', hn, h1, h2, hr, by rw [h]; exact ht⟩, hk⟩
set_option maxRecDepth 100000 in
set_option maxHeartbeats 400000 in
theorem holds_name_any (B : Nat) (w : World) (b o n d : Nat) (hb : B ≤ b) (hB : B ≤ w.heap.size) (hr : RoomAt w b o n d) (hn : n ≤ 400) (hd : d ≤ 40) (nm : ByteArray) (sc : List Int) (sa a : Option Addr) (scap cap : Nat) (hnm : nm.size ≤ maxLen)
    (hvs : IntRow (· < B) w (.slice sa sc.length scap) sc) (hroom : n + 1 ≤ 400 ∧ d + 1 ≤ 40) :
    Calls Try.prog 72 #[.pointer (some ⟨b, o, none⟩), .agg #[.int .i64 1, .string nm, .int .i64 0, .slice sa sc.length scap, .slice a 0 cap]] w (HoldsPost (.mk 1 nm 0 sc []) b o n d w) := by
  have HR := Lib.hid hr
  have HVS := Lib.hid hvs
  have HW : Hid ((decide (n + 1 ≤ 400) && decide (d + 1 ≤ 40)) = true) := by unfold Hid; simp; omega
  clear hvs hr
  go_enter_defers Try.func72, Try.ntmps72
  go_wp2_with fail
  refine (enter_any b o n d _ (HR.out.later ((Below.refl _ _).alloc (Nat.le_refl _) _)) (by omega) (by omega)).mono ?_
  rintro e w1 ⟨rfl, hr1, hk1⟩
  rw [HW.out]
  have hz1 : w.heap.size + 1 ≤ w1.heap.size := by have := hk1.size; simpa using this
  have hbl := HR.out.lt
  have hc0 := hk1.other (k := w.heap.size) (o := 0) (by simp) (by omega)
  have hc1 := hk1.other (k := w.heap.size) (o := 1) (by simp) (by omega)
  have hc2 := hk1.other (k := w.heap.size) (o := 2) (by simp) (by omega)
  have hc3 := hk1.other (k := w.heap.size) (o := 3) (by simp) (by omega)
  have hc4 := hk1.other (k := w.heap.size) (o := 4) (by simp) (by omega)
  simp at hc0 hc1 hc2 hc3 hc4
  have HR1 := Lib.hid hr1
  have HK1 := Lib.hid hk1
  clear hr1 hk1
  go_wp2_with fail
  refine (nodeOf_name _ _ _ _ _ _ _).mono ?_
  rintro e w2 ⟨rfl, hb2⟩
  have HB2 := Lib.hid hb2
  clear hb2 hc0 hc1 hc2 hc3 hc4
  have ta1 := as_nn
  go_wp2_with fail
  refine (implNameValid_any _ _ hnm).mono ?_
  rintro e w3 ⟨rfl, hb3⟩
  have hs3 : w3.heap.size ≥ w2.heap.size + 1 := by have := hb3.size; simpa using this
  have hx0 := hb3.cell (p := ⟨w2.heap.size, 0, none⟩) (by simp)
  have hx1 := hb3.cell (p := ⟨w2.heap.size, 1, none⟩) (by simp)
  simp at hx0 hx1
  have HB3 : Hid (Below w1.heap.size w1 w3) := HB2.out.trans (((Below.refl _ _).alloc HB2.out.size _).trans (hb3.mono (by have := HB2.out.size; simp; omega)))
  clear hb3
  cases hnb : nameB nm.data.toList with
  | false =>
    have HE := Lib.hid ((holds_name nm sc hroom.2 hroom.1).trans (by rw [hnb]; rfl : _ = false))
    go_wp2_with fail
    refine leaves_cons (f := 95) (args := #[.pointer (some ⟨b, o, none⟩)]) (by simp) (by simp [go_sem]) ?_
    refine (leave_deferred b o (n + 1) d .returning _ (HR1.out.later HB3.out) (by omega)).mono ?_
    rintro e u' w5 ⟨rfl, rfl, hr5, hk5⟩
    exact ⟨.bool false, results_tmp (t := 4) rfl _ _ _, holdsPost_of HE.out (by omega) (Nat.le_refl _) (by omega) hr5 (fun _ => ⟨by rw [count_leaf], rfl⟩) (Kept.chain HR.out.lt HK1.out HB3.out hk5)⟩
  | true =>
    have HE := Lib.hid ((holds_name nm sc hroom.2 hroom.1).trans (by rw [hnb]; exact Bool.true_and _ : _ = scopesB sc))
    go_wp2_with fail
    refine (implScopes_any (· < B) sc _ _ (HVS.out.later (same_below ((Below.refl B w).trans ((((Below.refl B w).alloc hB _).trans ((HK1.out.below hb (by simp; omega)).trans (HB3.out.mono (by omega))))))))).mono ?_
    rintro e w4 ⟨rfl, hb4⟩
    have HB4 : Hid (Below w1.heap.size w1 w4) := HB3.out.trans (hb4.mono HB3.out.size)
    clear hb4
    go_wp2_with fail
    refine leaves_cons (f := 95) (args := #[.pointer (some ⟨b, o, none⟩)]) (by simp) (by simp [go_sem]) ?_
    refine (leave_deferred b o (n + 1) d .returning _ (HR1.out.later HB4.out) (by omega)).mono ?_
    rintro e u' w5 ⟨rfl, rfl, hr5, hk5⟩
    exact ⟨.bool (scopesB sc), results_tmp (t := 4) rfl _ _ _, holdsPost_of HE.out (by omega) (Nat.le_refl _) (by omega) hr5 (fun _ => ⟨by rw [count_leaf], rfl⟩) (Kept.chain HR.out.lt HK1.out HB4.out hk5)⟩
set_option maxRecDepth 100000 in
set_option maxHeartbeats 400000 in
theorem holds_num_any (B : Nat) (w : World) (b o n d : Nat) (hb : B ≤ b) (hB : B ≤ w.heap.size) (hr : RoomAt w b o n d) (hn : n ≤ 400) (hd : d ≤ 40) (x : Int) (sa a : Option Addr) (scap cap : Nat) (hroom : n + 1 ≤ 400 ∧ d + 1 ≤ 40) :
    Calls Try.prog 72 #[.pointer (some ⟨b, o, none⟩), .agg #[.int .i64 2, .string ByteArray.empty, .int .i64 x, .slice sa 0 scap, .slice a 0 cap]] w (HoldsPost (.mk 2 ByteArray.empty x [] []) b o n d w) := by
  have HR := Lib.hid hr
  have HW : Hid ((decide (n + 1 ≤ 400) && decide (d + 1 ≤ 40)) = true) := by unfold Hid; simp; omega
  clear hr
  go_enter_defers Try.func72, Try.ntmps72
  go_wp2_with fail
  refine (enter_any b o n d _ (HR.out.later ((Below.refl _ _).alloc (Nat.le_refl _) _)) (by omega) (by omega)).mono ?_
  rintro e w1 ⟨rfl, hr1, hk1⟩
  rw [HW.out]
  have hz1 : w.heap.size + 1 ≤ w1.heap.size := by have := hk1.size; simpa using this
  have hbl := HR.out.lt
  have hc0 := hk1.other (k := w.heap.size) (o := 0) (by simp) (by omega)
  have hc1 := hk1.other (k := w.heap.size) (o := 1) (by simp) (by omega)
  have hc2 := hk1.other (k := w.heap.size) (o := 2) (by simp) (by omega)
  have hc3 := hk1.other (k := w.heap.size) (o := 3) (by simp) (by omega)
  have hc4 := hk1.other (k := w.heap.size) (o := 4) (by simp) (by omega)
  simp at hc0 hc1 hc2 hc3 hc4
  have HR1 := Lib.hid hr1
  have HK1 := Lib.hid hk1
  clear hr1 hk1
  go_wp2_with fail
  refine (nodeOf_num _ _ _ _ _ _).mono ?_
  rintro e w2 ⟨rfl, hb2⟩
  have HB2 := Lib.hid hb2
  clear hb2 hc0 hc1 hc2 hc3 hc4
  have ta1 := as_un
  have ta2 := as_uu
  by_cases hx : 0 ≤ x
  · have HE : Hid ((isB (40 - d) (.mk 2 ByteArray.empty x [] []) && decide (n + (Fm.mk 2 ByteArray.empty x [] []).count ≤ 400)) = decide (x ≤ 999)) :=
      (holds_num x hroom.2 hroom.1).trans (by rw [decide_eq_true hx, Bool.true_and])
    go_wp2_with fail
    refine leaves_cons (f := 95) (args := #[.pointer (some ⟨b, o, none⟩)]) (by simp) (by simp [go_sem]) ?_
    refine (leave_deferred b o (n + 1) d .returning _ (HR1.out.later (HB2.out.trans ((Below.refl _ _).alloc HB2.out.size _))) (by omega)).mono ?_
    rintro e u' w5 ⟨rfl, rfl, hr5, hk5⟩
    exact ⟨.bool (decide (x ≤ 999)), results_tmp (t := 4) rfl _ _ _, holdsPost_of HE.out (by omega) (Nat.le_refl _) (by omega) hr5 (fun _ => ⟨by rw [count_leaf], rfl⟩) (Kept.chain HR.out.lt HK1.out (HB2.out.trans ((Below.refl _ _).alloc HB2.out.size _)) hk5)⟩
  · have HE : Hid ((isB (40 - d) (.mk 2 ByteArray.empty x [] []) && decide (n + (Fm.mk 2 ByteArray.empty x [] []).count ≤ 400)) = false) :=
      (holds_num x hroom.2 hroom.1).trans (by rw [decide_eq_false hx, Bool.false_and])
    go_wp2_with fail
    refine leaves_cons (f := 95) (args := #[.pointer (some ⟨b, o, none⟩)]) (by simp) (by simp [go_sem]) ?_
    refine (leave_deferred b o (n + 1) d .returning _ (HR1.out.later (HB2.out.trans ((Below.refl _ _).alloc HB2.out.size _))) (by omega)).mono ?_
    rintro e u' w5 ⟨rfl, rfl, hr5, hk5⟩
    exact ⟨.bool false, results_tmp (t := 4) rfl _ _ _, holdsPost_of HE.out (by omega) (Nat.le_refl _) (by omega) hr5 (fun _ => ⟨by rw [count_leaf], rfl⟩) (Kept.chain HR.out.lt HK1.out (HB2.out.trans ((Below.refl _ _).alloc HB2.out.size _)) hk5)⟩
set_option maxRecDepth 100000 in
set_option maxHeartbeats 400000 in
theorem holds_none_any (B : Nat) (w : World) (b o n d : Nat) (hb : B ≤ b) (hB : B ≤ w.heap.size) (hr : RoomAt w b o n d) (hn : n ≤ 400) (hd : d ≤ 40) (k x : Int) (nm : ByteArray) (sc : List Int) (ks : List Fm) (sa a : Option Addr) (scap cap : Nat) (hroom : n + 1 ≤ 400 ∧ d + 1 ≤ 40)
    (h1 : ¬ (k = 1 ∧ x = 0 ∧ ks = [])) (h2 : ¬ (k = 2 ∧ nm.data.toList = [] ∧ sc = [] ∧ ks = [])) (h3 : ¬ (k = 3 ∧ nm.data.toList = [] ∧ x = 0 ∧ sc = [])) :
    Calls Try.prog 72 #[.pointer (some ⟨b, o, none⟩), .agg #[.int .i64 k, .string nm, .int .i64 x, .slice sa sc.length scap, .slice a ks.length cap]] w (HoldsPost (.mk k nm x sc ks) b o n d w) := by
  have HR := Lib.hid hr
  have HE := Lib.hid (holds_not k x nm sc ks hroom.2 h1 h2 h3 (n := n) (d := d))
  have N1 : Hid (¬ (k = 1 ∧ x = 0 ∧ ks.length = 0)) := fun h => h1 ⟨h.1, h.2.1, List.length_eq_zero_iff.1 h.2.2⟩
  have N2 : Hid (¬ (k = 2 ∧ nm.toList = [] ∧ sc.length = 0 ∧ ks.length = 0)) := fun h => h2 ⟨h.1, by rw [← Lib.toList_data]; exact h.2.1, List.length_eq_zero_iff.1 h.2.2.1, List.length_eq_zero_iff.1 h.2.2.2⟩
  have N3 : Hid (¬ (k = 3 ∧ nm.toList = [] ∧ x = 0 ∧ sc.length = 0)) := fun h => h3 ⟨h.1, by rw [← Lib.toList_data]; exact h.2.1, h.2.2.1, List.length_eq_zero_iff.1 h.2.2.2⟩
  clear h1 h2 h3
  have HW : Hid ((decide (n + 1 ≤ 400) && decide (d + 1 ≤ 40)) = true) := by unfold Hid; simp; omega
  clear hr
  go_enter_defers Try.func72, Try.ntmps72
  go_wp2_with fail
  refine (enter_any b o n d _ (HR.out.later ((Below.refl _ _).alloc (Nat.le_refl _) _)) (by omega) (by omega)).mono ?_
  rintro e w1 ⟨rfl, hr1, hk1⟩
  rw [HW.out]
  have hz1 : w.heap.size + 1 ≤ w1.heap.size := by have := hk1.size; simpa using this
  have hbl := HR.out.lt
  have hc0 := hk1.other (k := w.heap.size) (o := 0) (by simp) (by omega)
  have hc1 := hk1.other (k := w.heap.size) (o := 1) (by simp) (by omega)
  have hc2 := hk1.other (k := w.heap.size) (o := 2) (by simp) (by omega)
  have hc3 := hk1.other (k := w.heap.size) (o := 3) (by simp) (by omega)
  have hc4 := hk1.other (k := w.heap.size) (o := 4) (by simp) (by omega)
  simp at hc0 hc1 hc2 hc3 hc4
  have HR1 := Lib.hid hr1
  have HK1 := Lib.hid hk1
  clear hr1 hk1
  go_wp2_with fail
  refine (nodeOf_none _ _ _ _ _ _ _ _ _ _ N1.out N2.out N3.out).mono ?_
  rintro e w2 ⟨rfl, hb2⟩
  have HB2 := Lib.hid hb2
  clear hb2 hc0 hc1 hc2 hc3 hc4
  have ta1 := as_zn
  have ta2 := as_zu
  have ta3 := as_zl
  go_wp2_with fail
  refine leaves_cons (f := 95) (args := #[.pointer (some ⟨b, o, none⟩)]) (by simp) (by simp [go_sem]) ?_
  refine (leave_deferred b o (n + 1) d .returning _ (HR1.out.later HB2.out) (by omega)).mono ?_
  rintro e u' w5 ⟨rfl, rfl, hr5, hk5⟩
  exact ⟨.bool false, results_tmp (t := 4) rfl _ _ _, holdsPost_of HE.out (by omega) (Nat.le_refl _) (by omega) hr5 (fun h => by cases h) (Kept.chain HR.out.lt HK1.out HB2.out hk5)⟩
set_option maxRecDepth 100000 in
set_option maxHeartbeats 400000 in
theorem holds_full_any (B : Nat) (w : World) (b o n d : Nat) (hb : B ≤ b) (hB : B ≤ w.heap.size) (hr : RoomAt w b o n d) (hn : n ≤ 400) (hd : d ≤ 40) (f : Fm) (v0 v1 v2 v3 v4 : Value) (hroom : ¬ (n + 1 ≤ 400 ∧ d + 1 ≤ 40)) :
    Calls Try.prog 72 #[.pointer (some ⟨b, o, none⟩), .agg #[v0, v1, v2, v3, v4]] w (HoldsPost f b o n d w) := by
  have HR := Lib.hid hr
  have HE := Lib.hid (holds_full f hroom)
  have HW : Hid ((decide (n + 1 ≤ 400) && decide (d + 1 ≤ 40)) = false) := by unfold Hid; simp; omega
  clear hr
  go_enter_defers Try.func72, Try.ntmps72
  go_wp2_with fail
  refine (enter_any b o n d _ (HR.out.later ((Below.refl _ _).alloc (Nat.le_refl _) _)) (by omega) (by omega)).mono ?_
  rintro e w1 ⟨rfl, hr1, hk1⟩
  rw [HW.out]
  have HR1 := Lib.hid hr1
  have HK1 := Lib.hid hk1
  clear hr1 hk1
  go_wp2_with fail
  exact ⟨.bool false, results_tmp (t := 4) rfl _ _ _, holdsPost_of HE.out (by omega) (by omega) (Nat.le_refl _) HR1.out (fun h => by cases h) (((Kept.refl _ _ _ _).alloc _ HR.out.lt).trans HK1.out)⟩
set_option maxRecDepth 100000 in
set_option maxHeartbeats 400000 in
theorem holds_list_any (B : Nat) (w : World) (b o n d : Nat) (hb : B ≤ b) (hB : B ≤ w.heap.size) (hr : RoomAt w b o n d) (hn : n ≤ 400) (hd : d ≤ 40) (ks : List Fm) (sa a : Option Addr) (scap cap : Nat) (hcap : ks.length ≤ cap) (hmax : cap ≤ maxLen) (hroom : n + 1 ≤ 400 ∧ d + 1 ≤ 40)
    (hks : ks = [] ∨ ∃ kb off, a = some ⟨kb, off, none⟩ ∧ kb < B ∧ RowIn (· < B) w kb off ks)
    (ih : ∀ g ∈ ks, ∀ (v : Value) (w : World) (b o n d : Nat), B ≤ b → B ≤ w.heap.size → InV (· < B) w g v → RoomAt w b o n d → n ≤ 400 → d ≤ 40 →
      Calls Try.prog 72 #[.pointer (some ⟨b, o, none⟩), v] w (HoldsPost g b o n d w)) :
    Calls Try.prog 72 #[.pointer (some ⟨b, o, none⟩), .agg #[.int .i64 3, .string ByteArray.empty, .int .i64 0, .slice sa 0 scap, .slice a ks.length cap]] w (HoldsPost (.mk 3 ByteArray.empty 0 [] ks) b o n d w) := by
  unfold maxLen at hmax
  have HR := Lib.hid hr
  have HW : Hid ((decide (n + 1 ≤ 400) && decide (d + 1 ≤ 40)) = true) := by unfold Hid; simp; omega
  clear hr
  go_enter_defers Try.func72, Try.ntmps72
  go_wp2_with fail
  refine (enter_any b o n d _ (HR.out.later ((Below.refl _ _).alloc (Nat.le_refl _) _)) (by omega) (by omega)).mono ?_
  rintro e w1 ⟨rfl, hr1, hk1⟩
  rw [HW.out]
  have hz1 : w.heap.size + 1 ≤ w1.heap.size := by have := hk1.size; simpa using this
  have hbl := HR.out.lt
  have hc0 := hk1.other (k := w.heap.size) (o := 0) (by simp) (by omega)
  have hc1 := hk1.other (k := w.heap.size) (o := 1) (by simp) (by omega)
  have hc2 := hk1.other (k := w.heap.size) (o := 2) (by simp) (by omega)
  have hc3 := hk1.other (k := w.heap.size) (o := 3) (by simp) (by omega)
  have hc4 := hk1.other (k := w.heap.size) (o := 4) (by simp) (by omega)
  simp at hc0 hc1 hc2 hc3 hc4
  have HR1 := Lib.hid hr1
  have HK1 := Lib.hid hk1
  clear hr1 hk1
  go_wp2_with fail
  refine (nodeOf_list _ _ _ _ _ _).mono ?_
  rintro e w2 ⟨rfl, hb2⟩
  have HB2 := Lib.hid hb2
  clear hb2 hc0 hc1 hc2 hc3 hc4
  have ta1 := as_ln
  have ta2 := as_lu
  have ta3 := as_ll
  have HK2 : Hid (Kept b o (o + 2) w (w2.alloc (.cells #[.slice a ks.length cap] 108))) :=
    ((((Kept.refl b o (o + 2) w).alloc _ hbl).trans HK1.out).trans (Kept.of_below HB2.out (by omega))).alloc _ (by have := HB2.out.size; omega)
  have HR2 : Hid (RoomAt (w2.alloc (.cells #[.slice a ks.length cap] 108)) b o (n + 1) (d + 1)) :=
    (HR1.out.later HB2.out).later ((Below.refl _ _).alloc (Nat.le_refl _) _)
  have HIH := Lib.hid ih
  have HKS := Lib.hid hks
  clear ih hks
  go_wp2_with fail
  go_loopw [44] (fun i wr => ∃ j : Nat, j ≤ ks.length ∧ i = .int .i64 j ∧ RoomAt wr b o (n + 1 + countAll (ks.take j)) (d + 1) ∧ Kept b o (o + 2) w wr ∧
      (ks.take j).all (isB (39 - d)) = true ∧ n + 1 + countAll (ks.take j) ≤ 400) (fun i _ => ks.length - (intOf i).toNat)
  case atStart => exact ⟨0, Nat.zero_le _, rfl, by simpa [countAll] using HR2.out, HK2.out, rfl, by simpa [countAll] using hroom.1⟩
  case round =>
    obtain ⟨j, hj, rfl, hrj, hkj, haj, hnj⟩ := hrel
    have HRJ := Lib.hid hrj
    have HKJ := Lib.hid hkj
    have HAJ := Lib.hid haj
    clear hrj hkj haj
    by_cases hlt : j < ks.length
    · rcases HKS.out with h0 | ⟨kb, off, rfl, hkb, hrow⟩
      · exfalso; rw [h0] at hlt; simp at hlt
      · obtain ⟨ga, gcap, ka, kcap, h0, h1, h2, h3, h4, hin⟩ := (hrow.later (same_below (HKJ.out.below hb hB)) kb hkb).at' j hlt
        have HIN := Lib.hid hin
        have HIHJ := Lib.hid (HIH.out ks[j] (List.getElem_mem hlt))
        clear hin hrow
        have hwr : w.heap.size ≤ wr.heap.size := HKJ.out.size
        have hts := countAll_take_succ ks j hlt
        have HTS := Lib.hid hts
        clear hts
        go_wp2_with fail
        refine (HIHJ.out _ _ b o (n + 1 + countAll (ks.take j)) (d + 1) hb (by simp; omega) (InV.later (same_below ((Below.refl B wr).alloc (by omega) _)) _ _ HIN.out)
          (HRJ.out.later ((Below.refl _ _).alloc (Nat.le_refl _) _)) hnj hroom.2).mono ?_
        rintro e w3 ⟨rfl, ⟨n', d', hn', hd1, hd2, hr3, ht⟩, hk3⟩
        have HK3 : Hid (Kept b o (o + 2) w w3) := (HKJ.out.alloc _ (by omega)).trans hk3
        have HR3 := Lib.hid hr3
        have HT := Lib.hid ht
        clear hk3 hr3 ht
        cases hg : (isB (40 - (d + 1)) ks[j] && decide (n + 1 + countAll (ks.take j) + ks[j].count ≤ 400)) with
        | true =>
          have HG := Lib.hid hg
          clear hg
          go_wp2_with fail
          go_roundw
          case rel =>
            have hg := HG.out
            obtain ⟨e1, e2⟩ := HT.out hg
            simp only [Bool.and_eq_true, decide_eq_true_eq] at hg
            have e3 := HTS.out
            exact ⟨j + 1, by omega, by go_num, by have := HR3.out; rw [e1, e2] at this; rw [e3]; rw [← Nat.add_assoc]; exact this, HK3.out, all_take_succ _ ks j hlt HAJ.out (by rw [show 39 - d = 40 - (d + 1) from by omega]; exact hg.1), by rw [e3]; omega⟩
          case measure => simp [intOf]; omega
        | false =>
          have HE := Lib.hid (holds_list_false ks j hlt hroom.2 (by rw [show 39 - d = 40 - (d + 1) from by omega]; exact hg) (n := n))
          obtain ⟨d2, rfl⟩ : ∃ d2, d' = d2 + 1 := ⟨d' - 1, by omega⟩
          clear hg
          go_wp2_with fail
          refine leaves_cons (f := 95) (args := #[.pointer (some ⟨b, o, none⟩)]) (by simp) (by simp [go_sem]) ?_
          refine (leave_deferred b o n' d2 .returning _ HR3.out (by omega)).mono ?_
          rintro e u' w5 ⟨rfl, rfl, hr5, hk5⟩
          exact ⟨.bool false, results_tmp (t := 4) rfl _ _ _, holdsPost_of HE.out (by omega) (by omega) (by omega) hr5 (fun h => by cases h) (HK3.out.trans hk5)⟩
    · obtain rfl : j = ks.length := by omega
      have HE := Lib.hid (holds_list_true ks hroom.2 HAJ.out hnj (n := n))
      go_wp2_with fail
      refine leaves_cons (f := 95) (args := #[.pointer (some ⟨b, o, none⟩)]) (by simp) (by simp [go_sem]) ?_
      refine (leave_deferred b o (n + 1 + countAll (ks.take ks.length)) d .returning _ HRJ.out (by omega)).mono ?_
      rintro e u' w5 ⟨rfl, rfl, hr5, hk5⟩
      exact ⟨.bool true, results_tmp (t := 4) rfl _ _ _, holdsPost_of HE.out (by omega) (by omega) (by omega) hr5 (fun _ => ⟨by rw [List.take_length]; unfold Fm.count; omega, rfl⟩) (HKJ.out.trans hk5)⟩
set_option maxHeartbeats 400000 in
theorem holds_any (B : Nat) (f : Fm) : ∀ (v : Value) (w : World) (b o n d : Nat), B ≤ b → B ≤ w.heap.size → InV (· < B) w f v → RoomAt w b o n d → n ≤ 400 → d ≤ 40 →
    Calls Try.prog 72 #[.pointer (some ⟨b, o, none⟩), v] w (HoldsPost f b o n d w) := by
  induction f using Fm.ind with
  | h k nm x sc ks ih =>
    intro v w b o n d hb hB hv hr hn hd
    unfold InV at hv
    obtain ⟨vs, a, cap, rfl, hkb, hnb, hnm, hvs, hcap, hmax, hks⟩ := hv
    have hvs' := hvs
    obtain ⟨sa, scap, rfl, _⟩ := hvs'
    by_cases hroom : n + 1 ≤ 400 ∧ d + 1 ≤ 40
    · by_cases h1 : k = 1 ∧ x = 0 ∧ ks = []
      · obtain ⟨rfl, rfl, rfl⟩ := h1
        exact holds_name_any B w b o n d hb hB hr hn hd nm sc sa a scap cap hnm hvs hroom
      · by_cases h2 : k = 2 ∧ nm.data.toList = [] ∧ sc = [] ∧ ks = []
        · obtain ⟨rfl, h2, rfl, rfl⟩ := h2
          obtain rfl := empty_of h2
          exact holds_num_any B w b o n d hb hB hr hn hd x sa a scap cap hroom
        · by_cases h3 : k = 3 ∧ nm.data.toList = [] ∧ x = 0 ∧ sc = []
          · obtain ⟨rfl, h3, rfl, rfl⟩ := h3
            obtain rfl := empty_of h3
            exact holds_list_any B w b o n d hb hB hr hn hd ks sa a scap cap hcap hmax hroom hks ih
          · exact holds_none_any B w b o n d hb hB hr hn hd k x nm sc ks sa a scap cap hroom h1 h2 h3
    · exact holds_full_any B w b o n d hb hB hr hn hd (.mk k nm x sc ks) _ _ _ _ _ hroom
end Go.Proofs.Ytmakaoomdnlebaa
