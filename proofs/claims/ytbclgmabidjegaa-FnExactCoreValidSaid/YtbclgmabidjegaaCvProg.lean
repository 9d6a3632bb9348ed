/- The contracts of CoreValid: of the program, node by node, and of the model. -/
import Derived.Test.YtbclgmabidjegaaCvKit
import Derived.Test.YtbclgmabidjegaaImplSameC
import Derived.Test.YtbclgmabidjegaaBoxC
import Derived.Test.YtbclgmabidjegaaSets
import Derived.BigRegion
import Derived.Test.YtbclgmabidjegaaScopesOf
import Derived.Test.YtbclgmabidjegaaEndDag
import Derived.Test.YtbclgmabidjegaaValid
import Derived.Deep.RegionWith
import Derived.Test.YtbclgmabidjegaaCountC
import Derived.Test.YtbclgmabidjegaaCvSpec
namespace Go.Proofs.Ytbclgmabidjegaa.CoreT
section
open Go.RowKit
set_option linter.unusedVariables false
set_option linter.unusedSimpArgs false
/-- a block that begins with these values -/
def RowAt (W : World) (b : Nat) (l : List Value) : Prop := ∀ j (h : j < l.length), W.cell? ⟨b, j, none⟩ = some l[j]
theorem RowAt.set {W : World} {b : Nat} {l : List Value} (h : RowAt W b l) (i : Nat) (v : Value) (hi : i < l.length) : RowAt (W.setCell ⟨b, i, none⟩ v) b (l.set i v) := by
  intro j hj
  by_cases e : i = j
  · subst e
    rw [World.cell?_setCell_same _ _ _ (h i hi)]
    simp
  · rw [World.cell?_setCell_other _ _ _ _ (addr_ne (by omega)), h j (by simpa using hj), List.getElem_set_ne e]
theorem RowAt.sets {W : World} {b : Nat} {l r : List Value} (h : RowAt W b l) (hl : r.length = l.length) : RowAt (sets W b 0 r) b r := by
  intro j hj
  have := sets_in b r W 0 (fun j hj => by rw [Nat.zero_add]; exact ⟨_, h j (by omega)⟩) j hj
  rwa [Nat.zero_add] at this
theorem RowAt.later {W W' : World} {b : Nat} {l : List Value} (h : RowAt W b l) (hs : W'.heap[b]? = W.heap[b]?) : RowAt W' b l := fun j hj => (World.cell?_of_block (a := ⟨b, j, none⟩) hs).trans (h j hj)
theorem two_boxes (w : World) (V : List Value) (t : TypeId) (w2 : World) (h2 : w2 = (w.alloc (.cells V.toArray t)).alloc (.cells V.toArray t)) :
    RowAt w2 w.heap.size V ∧ RowAt w2 (w.heap.size + 1) V ∧ Below w.heap.size w w2 ∧ w2.heap.size = w.heap.size + 2 ∧ (∀ j, w2.frozen? ⟨w.heap.size + 1, j, none⟩ = false) := by
  subst h2
  have hz1 : (w.alloc (.cells V.toArray t)).heap.size = w.heap.size + 1 := by simp
  refine ⟨?_, ?_, ?_, ?_, ?_⟩
  · refine RowAt.later (W := w.alloc (.cells V.toArray t)) ?_ ?_
    · intro j hj
      rw [World.cell?_alloc_at _ _ _ _ rfl]
      simp [hj]
    · exact (below_alloc (w.alloc (.cells V.toArray t)) _).block _ (by omega)
  · intro j hj
    rw [World.cell?_alloc_at _ _ _ _ hz1.symm]
    simp [hj]
  · exact ((Below.refl _ w).alloc (Nat.le_refl _) _).alloc (by omega) _
  · simp
  · intro j
    exact World.frozen?_alloc_at _ _ _ _ hz1.symm
theorem zero_in {φ : Nat → Prop} {w : World} : InV φ w zeroForm (.agg #[.int .i64 0, .string { data := #[] }, .int .i64 0, .slice none 0 0, .slice none 0 0]) := by
  unfold zeroForm InV
  exact ⟨_, none, 0, rfl, by omega, by omega, by decide, ⟨none, 0, rfl, Nat.le_refl _, Nat.zero_le _, fun n hn => (by cases hn), .inl rfl⟩, Nat.le_refl _, Nat.zero_le _, .inl rfl⟩
theorem nilRow {φ : Nat → Prop} {w : World} : IntRow φ w (.slice none 0 0) [] := ⟨none, 0, rfl, Nat.le_refl _, Nat.zero_le _, fun n hn => (by cases hn), .inl rfl⟩
theorem bareC_in (k : Int) (φ : Nat → Prop) (w : World) (hk : -9223372036854775808 ≤ k ∧ k ≤ 9223372036854775807) : InC φ w (bareCk k) (.agg #[.int .i64 k, .int .i64 0, .string { data := #[] }, .int .i64 0, .slice none 0 0, .int .i64 0, .string { data := #[] }, .int .i64 0, .slice none 0 0, .slice none 0 0, .slice none 0 0]) := by
  unfold bareCk InC
  exact ⟨none, 0, none, 0, none, 0, none, 0, rfl, hk, by omega, by omega, by decide, nilRow, zero_in, Nat.le_refl _, Nat.zero_le _, .inl rfl⟩
set_option maxRecDepth 100000 in
set_option maxHeartbeats 4000000 in
theorem node_var (id : Int) (nm : ByteArray) (n : Int) (ids : List Int) (d : Fm) (ks : List Ck) (i1 : Option Addr) (j1 : Nat) (s1 : Option Addr) (t1 : Nat) (k1 : Option Addr) (l1 : Nat) (a : Option Addr) (cap : Nat) (w : World)
    (hv : InC (· < w.heap.size) w (.mk 1 id nm n ids d ks) (.agg #[.int .i64 1, .int .i64 id, .string nm, .int .i64 n, .slice i1 ids.length j1, .int .i64 d.kind, .string d.name, .int .i64 d.n, .slice s1 d.scopes.length t1, .slice k1 d.kids.length l1, .slice a ks.length cap])) (r : Bool) (hr : nodeSameC (bareCk 1) (.mk 1 0 nm n ids d ks) = r) (R : Value) (hR1 : r = true → R = .iface 225 (.agg #[.int .i64 id])) (hR2 : r = false → R = .nilIface) :
    Calls Try.prog 133 #[.agg #[.int .i64 1, .int .i64 id, .string nm, .int .i64 n, .slice i1 ids.length j1, .int .i64 d.kind, .string d.name, .int .i64 d.n, .slice s1 d.scopes.length t1, .slice k1 d.kids.length l1, .slice a ks.length cap]] w fun e w' => e = .returned R ∧ Below w.heap.size w w' := by
  have HV := Lib.hid hv
  have HRR := Lib.hid hr
  have HR1 := Lib.hid hR1
  have HR2 := Lib.hid hR2
  clear hv hr hR1 hR2
  obtain ⟨w2, hw2⟩ : ∃ w2, w2 = (w.alloc (.cells #[.int .i64 1, .int .i64 id, .string nm, .int .i64 n, .slice i1 ids.length j1, .int .i64 d.kind, .string d.name, .int .i64 d.n, .slice s1 d.scopes.length t1, .slice k1 d.kids.length l1, .slice a ks.length cap] 36)).alloc (.cells #[.int .i64 1, .int .i64 id, .string nm, .int .i64 n, .slice i1 ids.length j1, .int .i64 d.kind, .string d.name, .int .i64 d.n, .slice s1 d.scopes.length t1, .slice k1 d.kids.length l1, .slice a ks.length cap] 36) := ⟨_, rfl⟩
  obtain ⟨hA, hB, hb2, hz2, hf2⟩ := two_boxes w [.int .i64 1, .int .i64 id, .string nm, .int .i64 n, .slice i1 ids.length j1, .int .i64 d.kind, .string d.name, .int .i64 d.n, .slice s1 d.scopes.length t1, .slice k1 d.kids.length l1, .slice a ks.length cap] 36 w2 hw2
  have HW2 := Lib.hid hw2
  have HA := Lib.hid hA
  have HB := Lib.hid hB
  have HB2 := Lib.hid hb2
  have hs2 : w.heap.size + 2 ≤ w2.heap.size := by omega
  clear hA hB hw2 hb2 hz2
  go_enter Try.func133, Try.ntmps133
  go_upto_region 3 with fail
  rw [← HW2.out]
  clear HW2
  have c0 : w2.cell? ⟨w.heap.size, 0, none⟩ = some (.int .i64 1) := HA.out 0 (by simp)
  have c1 : w2.cell? ⟨w.heap.size, 1, none⟩ = some (.int .i64 id) := HA.out 1 (by simp)
  have c2 : w2.cell? ⟨w.heap.size, 2, none⟩ = some (.string nm) := HA.out 2 (by simp)
  have c3 : w2.cell? ⟨w.heap.size, 3, none⟩ = some (.int .i64 n) := HA.out 3 (by simp)
  have c4 : w2.cell? ⟨w.heap.size, 4, none⟩ = some (.slice i1 ids.length j1) := HA.out 4 (by simp)
  have c5 : w2.cell? ⟨w.heap.size, 5, none⟩ = some (.int .i64 d.kind) := HA.out 5 (by simp)
  have c6 : w2.cell? ⟨w.heap.size, 6, none⟩ = some (.string d.name) := HA.out 6 (by simp)
  have c7 : w2.cell? ⟨w.heap.size, 7, none⟩ = some (.int .i64 d.n) := HA.out 7 (by simp)
  have c8 : w2.cell? ⟨w.heap.size, 8, none⟩ = some (.slice s1 d.scopes.length t1) := HA.out 8 (by simp)
  have c9 : w2.cell? ⟨w.heap.size, 9, none⟩ = some (.slice k1 d.kids.length l1) := HA.out 9 (by simp)
  have c10 : w2.cell? ⟨w.heap.size, 10, none⟩ = some (.slice a ks.length cap) := HA.out 10 (by simp)
  have y0 : w2.cell? ⟨(w.heap.size + 1), 0, none⟩ = some (.int .i64 1) := HB.out 0 (by simp)
  have y1 : w2.cell? ⟨(w.heap.size + 1), 1, none⟩ = some (.int .i64 id) := HB.out 1 (by simp)
  have y2 : w2.cell? ⟨(w.heap.size + 1), 2, none⟩ = some (.string nm) := HB.out 2 (by simp)
  have y3 : w2.cell? ⟨(w.heap.size + 1), 3, none⟩ = some (.int .i64 n) := HB.out 3 (by simp)
  have y4 : w2.cell? ⟨(w.heap.size + 1), 4, none⟩ = some (.slice i1 ids.length j1) := HB.out 4 (by simp)
  have y5 : w2.cell? ⟨(w.heap.size + 1), 5, none⟩ = some (.int .i64 d.kind) := HB.out 5 (by simp)
  have y6 : w2.cell? ⟨(w.heap.size + 1), 6, none⟩ = some (.string d.name) := HB.out 6 (by simp)
  have y7 : w2.cell? ⟨(w.heap.size + 1), 7, none⟩ = some (.int .i64 d.n) := HB.out 7 (by simp)
  have y8 : w2.cell? ⟨(w.heap.size + 1), 8, none⟩ = some (.slice s1 d.scopes.length t1) := HB.out 8 (by simp)
  have y9 : w2.cell? ⟨(w.heap.size + 1), 9, none⟩ = some (.slice k1 d.kids.length l1) := HB.out 9 (by simp)
  have y10 : w2.cell? ⟨(w.heap.size + 1), 10, none⟩ = some (.slice a ks.length cap) := HB.out 10 (by simp)
  have f1 := hf2 1
  go_upto_region 17 with fail
  obtain ⟨w3, hw3⟩ : ∃ w3, w3 = (w2.setCell ⟨w.heap.size + 1, 1, none⟩ (.int .i64 0)) := ⟨_, rfl⟩
  have HY : Hid (RowAt w3 (w.heap.size + 1) [.int .i64 1, .int .i64 0, .string nm, .int .i64 n, .slice i1 ids.length j1, .int .i64 d.kind, .string d.name, .int .i64 d.n, .slice s1 d.scopes.length t1, .slice k1 d.kids.length l1, .slice a ks.length cap]) := by rw [hw3]; exact ((HB.out).set 1 (.int .i64 0) (by simp))
  have HC : Hid (RowAt w3 w.heap.size [.int .i64 1, .int .i64 id, .string nm, .int .i64 n, .slice i1 ids.length j1, .int .i64 d.kind, .string d.name, .int .i64 d.n, .slice s1 d.scopes.length t1, .slice k1 d.kids.length l1, .slice a ks.length cap]) := HA.out.later (by rw [hw3]; repeat rw [Below.heap_setCell _ _ _ _ (by simp)])
  have HB3 : Hid (Below w.heap.size w w3) := by
    unfold Hid
    rw [hw3]
    exact (HB2.out).setCell (p := ⟨w.heap.size + 1, 1, none⟩) (by simp) _
  have hs3 : w.heap.size + 2 ≤ w3.heap.size := by rw [hw3]; simpa [World.setCell] using hs2
  have HW3 := Lib.hid hw3
  clear hw3 c0 y0 c1 y1 c2 y2 c3 y3 c4 y4 c5 y5 c6 y6 c7 y7 c8 y8 c9 y9 c10 y10 f1
  rw [← HW3.out]
  clear HW3
  have c0 : w3.cell? ⟨w.heap.size, 0, none⟩ = some (.int .i64 1) := HC.out 0 (by simp)
  have c1 : w3.cell? ⟨w.heap.size, 1, none⟩ = some (.int .i64 id) := HC.out 1 (by simp)
  have c2 : w3.cell? ⟨w.heap.size, 2, none⟩ = some (.string nm) := HC.out 2 (by simp)
  have c3 : w3.cell? ⟨w.heap.size, 3, none⟩ = some (.int .i64 n) := HC.out 3 (by simp)
  have c4 : w3.cell? ⟨w.heap.size, 4, none⟩ = some (.slice i1 ids.length j1) := HC.out 4 (by simp)
  have c5 : w3.cell? ⟨w.heap.size, 5, none⟩ = some (.int .i64 d.kind) := HC.out 5 (by simp)
  have c6 : w3.cell? ⟨w.heap.size, 6, none⟩ = some (.string d.name) := HC.out 6 (by simp)
  have c7 : w3.cell? ⟨w.heap.size, 7, none⟩ = some (.int .i64 d.n) := HC.out 7 (by simp)
  have c8 : w3.cell? ⟨w.heap.size, 8, none⟩ = some (.slice s1 d.scopes.length t1) := HC.out 8 (by simp)
  have c9 : w3.cell? ⟨w.heap.size, 9, none⟩ = some (.slice k1 d.kids.length l1) := HC.out 9 (by simp)
  have c10 : w3.cell? ⟨w.heap.size, 10, none⟩ = some (.slice a ks.length cap) := HC.out 10 (by simp)
  have y0 : w3.cell? ⟨(w.heap.size + 1), 0, none⟩ = some (.int .i64 1) := HY.out 0 (by simp)
  have y1 : w3.cell? ⟨(w.heap.size + 1), 1, none⟩ = some (.int .i64 0) := HY.out 1 (by simp)
  have y2 : w3.cell? ⟨(w.heap.size + 1), 2, none⟩ = some (.string nm) := HY.out 2 (by simp)
  have y3 : w3.cell? ⟨(w.heap.size + 1), 3, none⟩ = some (.int .i64 n) := HY.out 3 (by simp)
  have y4 : w3.cell? ⟨(w.heap.size + 1), 4, none⟩ = some (.slice i1 ids.length j1) := HY.out 4 (by simp)
  have y5 : w3.cell? ⟨(w.heap.size + 1), 5, none⟩ = some (.int .i64 d.kind) := HY.out 5 (by simp)
  have y6 : w3.cell? ⟨(w.heap.size + 1), 6, none⟩ = some (.string d.name) := HY.out 6 (by simp)
  have y7 : w3.cell? ⟨(w.heap.size + 1), 7, none⟩ = some (.int .i64 d.n) := HY.out 7 (by simp)
  have y8 : w3.cell? ⟨(w.heap.size + 1), 8, none⟩ = some (.slice s1 d.scopes.length t1) := HY.out 8 (by simp)
  have y9 : w3.cell? ⟨(w.heap.size + 1), 9, none⟩ = some (.slice k1 d.kids.length l1) := HY.out 9 (by simp)
  have y10 : w3.cell? ⟨(w.heap.size + 1), 10, none⟩ = some (.slice a ks.length cap) := HY.out 10 (by simp)
  have HIN := HV.out
  unfold InC at HIN
  obtain ⟨i1', j1', s1', t1', k1', l1', a', cap', e, hk, hi, hn, hm, hri, hd, h4, h5, h6⟩ := HIN
  injection e with e
  injection e with e
  simp only [List.cons.injEq, and_true, Value.slice.injEq, true_and] at e
  obtain ⟨⟨rfl, rfl⟩, ⟨rfl, rfl⟩, ⟨rfl, rfl⟩, rfl, rfl⟩ := e
  have HREST : Hid (InC (· < w3.heap.size) w3 (.mk 1 0 nm n ids d ks) (.agg #[.int .i64 1, .int .i64 0, .string nm, .int .i64 n, .slice i1 ids.length j1, .int .i64 d.kind, .string d.name, .int .i64 d.n, .slice s1 d.scopes.length t1, .slice k1 d.kids.length l1, .slice a ks.length cap])) := by
    refine InC.mono (φ := (· < w.heap.size)) (fun k hk => by show k < _; have := hk; omega) _ _ (InC.later (same_below HB3.out) _ _ ?_)
    unfold InC
    exact ⟨i1, j1, s1, t1, k1, l1, a, cap, rfl, hk, by omega, hn, hm, hri, hd, h4, h5, h6⟩
  have HBARE : Hid (InC (Pl w3.heap.size w3) w3 (bareCk 1) (.agg #[.int .i64 1, .int .i64 0, .string { data := #[] }, .int .i64 0, .slice none 0 0, .int .i64 0, .string { data := #[] }, .int .i64 0, .slice none 0 0, .slice none 0 0, .slice none 0 0])) := bareC_in _ _ _ (by omega)
  clear hk hi hn hm hri hd h4 h5 h6
  go_wp2_with fail
  refine (sameCoreNode_any (bareCk 1) (.mk 1 0 nm n ids d ks) _ _ w3 HBARE.out HREST.out (by show zeroForm.count ≤ 4294967296; decide)).mono ?_
  rintro e w4 ⟨rfl, hb4⟩
  rw [HRR.out]
  have HB4 : Hid (Below w.heap.size w w4) := HB3.out.trans (hb4.mono (by omega))
  clear hb4 c0 y0 c1 y1 c2 y2 c3 y3 c4 y4 c5 y5 c6 y6 c7 y7 c8 y8 c9 y9 c10 y10
  cases r with
  | false =>
    have HX := Lib.hid (HR2.out rfl)
    clear HR1 HR2
    go_wp2_with fail
    go_ret
    exact ⟨by rw [HX.out]; rfl, HB4.out⟩
  | true =>
    have HX := Lib.hid (HR1.out rfl)
    clear HR1 HR2
    go_wp2_with fail
    go_ret
    exact ⟨by rw [HX.out]; rfl, HB4.out⟩
set_option maxRecDepth 100000 in
set_option maxHeartbeats 4000000 in
theorem node_free (id : Int) (nm : ByteArray) (n : Int) (ids : List Int) (d : Fm) (ks : List Ck) (i1 : Option Addr) (j1 : Nat) (s1 : Option Addr) (t1 : Nat) (k1 : Option Addr) (l1 : Nat) (a : Option Addr) (cap : Nat) (w : World)
    (hv : InC (· < w.heap.size) w (.mk 2 id nm n ids d ks) (.agg #[.int .i64 2, .int .i64 id, .string nm, .int .i64 n, .slice i1 ids.length j1, .int .i64 d.kind, .string d.name, .int .i64 d.n, .slice s1 d.scopes.length t1, .slice k1 d.kids.length l1, .slice a ks.length cap])) (r : Bool) (hr : nodeSameC (bareCk 2) (.mk 2 id ByteArray.empty n ids d ks) = r) (R : Value) (hR1 : r = true → R = .iface 227 (.agg #[.string nm, .slice none 0 0])) (hR2 : r = false → R = .nilIface) :
    Calls Try.prog 133 #[.agg #[.int .i64 2, .int .i64 id, .string nm, .int .i64 n, .slice i1 ids.length j1, .int .i64 d.kind, .string d.name, .int .i64 d.n, .slice s1 d.scopes.length t1, .slice k1 d.kids.length l1, .slice a ks.length cap]] w fun e w' => e = .returned R ∧ Below w.heap.size w w' := by
  have HV := Lib.hid hv
  have HRR := Lib.hid hr
  have HR1 := Lib.hid hR1
  have HR2 := Lib.hid hR2
  clear hv hr hR1 hR2
  obtain ⟨w2, hw2⟩ : ∃ w2, w2 = (w.alloc (.cells #[.int .i64 2, .int .i64 id, .string nm, .int .i64 n, .slice i1 ids.length j1, .int .i64 d.kind, .string d.name, .int .i64 d.n, .slice s1 d.scopes.length t1, .slice k1 d.kids.length l1, .slice a ks.length cap] 36)).alloc (.cells #[.int .i64 2, .int .i64 id, .string nm, .int .i64 n, .slice i1 ids.length j1, .int .i64 d.kind, .string d.name, .int .i64 d.n, .slice s1 d.scopes.length t1, .slice k1 d.kids.length l1, .slice a ks.length cap] 36) := ⟨_, rfl⟩
  obtain ⟨hA, hB, hb2, hz2, hf2⟩ := two_boxes w [.int .i64 2, .int .i64 id, .string nm, .int .i64 n, .slice i1 ids.length j1, .int .i64 d.kind, .string d.name, .int .i64 d.n, .slice s1 d.scopes.length t1, .slice k1 d.kids.length l1, .slice a ks.length cap] 36 w2 hw2
  have HW2 := Lib.hid hw2
  have HA := Lib.hid hA
  have HB := Lib.hid hB
  have HB2 := Lib.hid hb2
  have hs2 : w.heap.size + 2 ≤ w2.heap.size := by omega
  clear hA hB hw2 hb2 hz2
  go_enter Try.func133, Try.ntmps133
  go_upto_region 3 with fail
  rw [← HW2.out]
  clear HW2
  have c0 : w2.cell? ⟨w.heap.size, 0, none⟩ = some (.int .i64 2) := HA.out 0 (by simp)
  have c1 : w2.cell? ⟨w.heap.size, 1, none⟩ = some (.int .i64 id) := HA.out 1 (by simp)
  have c2 : w2.cell? ⟨w.heap.size, 2, none⟩ = some (.string nm) := HA.out 2 (by simp)
  have c3 : w2.cell? ⟨w.heap.size, 3, none⟩ = some (.int .i64 n) := HA.out 3 (by simp)
  have c4 : w2.cell? ⟨w.heap.size, 4, none⟩ = some (.slice i1 ids.length j1) := HA.out 4 (by simp)
  have c5 : w2.cell? ⟨w.heap.size, 5, none⟩ = some (.int .i64 d.kind) := HA.out 5 (by simp)
  have c6 : w2.cell? ⟨w.heap.size, 6, none⟩ = some (.string d.name) := HA.out 6 (by simp)
  have c7 : w2.cell? ⟨w.heap.size, 7, none⟩ = some (.int .i64 d.n) := HA.out 7 (by simp)
  have c8 : w2.cell? ⟨w.heap.size, 8, none⟩ = some (.slice s1 d.scopes.length t1) := HA.out 8 (by simp)
  have c9 : w2.cell? ⟨w.heap.size, 9, none⟩ = some (.slice k1 d.kids.length l1) := HA.out 9 (by simp)
  have c10 : w2.cell? ⟨w.heap.size, 10, none⟩ = some (.slice a ks.length cap) := HA.out 10 (by simp)
  have y0 : w2.cell? ⟨(w.heap.size + 1), 0, none⟩ = some (.int .i64 2) := HB.out 0 (by simp)
  have y1 : w2.cell? ⟨(w.heap.size + 1), 1, none⟩ = some (.int .i64 id) := HB.out 1 (by simp)
  have y2 : w2.cell? ⟨(w.heap.size + 1), 2, none⟩ = some (.string nm) := HB.out 2 (by simp)
  have y3 : w2.cell? ⟨(w.heap.size + 1), 3, none⟩ = some (.int .i64 n) := HB.out 3 (by simp)
  have y4 : w2.cell? ⟨(w.heap.size + 1), 4, none⟩ = some (.slice i1 ids.length j1) := HB.out 4 (by simp)
  have y5 : w2.cell? ⟨(w.heap.size + 1), 5, none⟩ = some (.int .i64 d.kind) := HB.out 5 (by simp)
  have y6 : w2.cell? ⟨(w.heap.size + 1), 6, none⟩ = some (.string d.name) := HB.out 6 (by simp)
  have y7 : w2.cell? ⟨(w.heap.size + 1), 7, none⟩ = some (.int .i64 d.n) := HB.out 7 (by simp)
  have y8 : w2.cell? ⟨(w.heap.size + 1), 8, none⟩ = some (.slice s1 d.scopes.length t1) := HB.out 8 (by simp)
  have y9 : w2.cell? ⟨(w.heap.size + 1), 9, none⟩ = some (.slice k1 d.kids.length l1) := HB.out 9 (by simp)
  have y10 : w2.cell? ⟨(w.heap.size + 1), 10, none⟩ = some (.slice a ks.length cap) := HB.out 10 (by simp)
  have f2 := hf2 2
  go_upto_region 17 with fail
  obtain ⟨w3, hw3⟩ : ∃ w3, w3 = (w2.setCell ⟨w.heap.size + 1, 2, none⟩ (.string { data := #[] })) := ⟨_, rfl⟩
  have HY : Hid (RowAt w3 (w.heap.size + 1) [.int .i64 2, .int .i64 id, .string { data := #[] }, .int .i64 n, .slice i1 ids.length j1, .int .i64 d.kind, .string d.name, .int .i64 d.n, .slice s1 d.scopes.length t1, .slice k1 d.kids.length l1, .slice a ks.length cap]) := by rw [hw3]; exact ((HB.out).set 2 (.string { data := #[] }) (by simp))
  have HC : Hid (RowAt w3 w.heap.size [.int .i64 2, .int .i64 id, .string nm, .int .i64 n, .slice i1 ids.length j1, .int .i64 d.kind, .string d.name, .int .i64 d.n, .slice s1 d.scopes.length t1, .slice k1 d.kids.length l1, .slice a ks.length cap]) := HA.out.later (by rw [hw3]; repeat rw [Below.heap_setCell _ _ _ _ (by simp)])
  have HB3 : Hid (Below w.heap.size w w3) := by
    unfold Hid
    rw [hw3]
    exact (HB2.out).setCell (p := ⟨w.heap.size + 1, 2, none⟩) (by simp) _
  have hs3 : w.heap.size + 2 ≤ w3.heap.size := by rw [hw3]; simpa [World.setCell] using hs2
  have HW3 := Lib.hid hw3
  clear hw3 c0 y0 c1 y1 c2 y2 c3 y3 c4 y4 c5 y5 c6 y6 c7 y7 c8 y8 c9 y9 c10 y10 f2
  rw [← HW3.out]
  clear HW3
  have c0 : w3.cell? ⟨w.heap.size, 0, none⟩ = some (.int .i64 2) := HC.out 0 (by simp)
  have c1 : w3.cell? ⟨w.heap.size, 1, none⟩ = some (.int .i64 id) := HC.out 1 (by simp)
  have c2 : w3.cell? ⟨w.heap.size, 2, none⟩ = some (.string nm) := HC.out 2 (by simp)
  have c3 : w3.cell? ⟨w.heap.size, 3, none⟩ = some (.int .i64 n) := HC.out 3 (by simp)
  have c4 : w3.cell? ⟨w.heap.size, 4, none⟩ = some (.slice i1 ids.length j1) := HC.out 4 (by simp)
  have c5 : w3.cell? ⟨w.heap.size, 5, none⟩ = some (.int .i64 d.kind) := HC.out 5 (by simp)
  have c6 : w3.cell? ⟨w.heap.size, 6, none⟩ = some (.string d.name) := HC.out 6 (by simp)
  have c7 : w3.cell? ⟨w.heap.size, 7, none⟩ = some (.int .i64 d.n) := HC.out 7 (by simp)
  have c8 : w3.cell? ⟨w.heap.size, 8, none⟩ = some (.slice s1 d.scopes.length t1) := HC.out 8 (by simp)
  have c9 : w3.cell? ⟨w.heap.size, 9, none⟩ = some (.slice k1 d.kids.length l1) := HC.out 9 (by simp)
  have c10 : w3.cell? ⟨w.heap.size, 10, none⟩ = some (.slice a ks.length cap) := HC.out 10 (by simp)
  have y0 : w3.cell? ⟨(w.heap.size + 1), 0, none⟩ = some (.int .i64 2) := HY.out 0 (by simp)
  have y1 : w3.cell? ⟨(w.heap.size + 1), 1, none⟩ = some (.int .i64 id) := HY.out 1 (by simp)
  have y2 : w3.cell? ⟨(w.heap.size + 1), 2, none⟩ = some (.string { data := #[] }) := HY.out 2 (by simp)
  have y3 : w3.cell? ⟨(w.heap.size + 1), 3, none⟩ = some (.int .i64 n) := HY.out 3 (by simp)
  have y4 : w3.cell? ⟨(w.heap.size + 1), 4, none⟩ = some (.slice i1 ids.length j1) := HY.out 4 (by simp)
  have y5 : w3.cell? ⟨(w.heap.size + 1), 5, none⟩ = some (.int .i64 d.kind) := HY.out 5 (by simp)
  have y6 : w3.cell? ⟨(w.heap.size + 1), 6, none⟩ = some (.string d.name) := HY.out 6 (by simp)
  have y7 : w3.cell? ⟨(w.heap.size + 1), 7, none⟩ = some (.int .i64 d.n) := HY.out 7 (by simp)
  have y8 : w3.cell? ⟨(w.heap.size + 1), 8, none⟩ = some (.slice s1 d.scopes.length t1) := HY.out 8 (by simp)
  have y9 : w3.cell? ⟨(w.heap.size + 1), 9, none⟩ = some (.slice k1 d.kids.length l1) := HY.out 9 (by simp)
  have y10 : w3.cell? ⟨(w.heap.size + 1), 10, none⟩ = some (.slice a ks.length cap) := HY.out 10 (by simp)
  have HIN := HV.out
  unfold InC at HIN
  obtain ⟨i1', j1', s1', t1', k1', l1', a', cap', e, hk, hi, hn, hm, hri, hd, h4, h5, h6⟩ := HIN
  injection e with e
  injection e with e
  simp only [List.cons.injEq, and_true, Value.slice.injEq, true_and] at e
  obtain ⟨⟨rfl, rfl⟩, ⟨rfl, rfl⟩, ⟨rfl, rfl⟩, rfl, rfl⟩ := e
  have HREST : Hid (InC (· < w3.heap.size) w3 (.mk 2 id ByteArray.empty n ids d ks) (.agg #[.int .i64 2, .int .i64 id, .string { data := #[] }, .int .i64 n, .slice i1 ids.length j1, .int .i64 d.kind, .string d.name, .int .i64 d.n, .slice s1 d.scopes.length t1, .slice k1 d.kids.length l1, .slice a ks.length cap])) := by
    refine InC.mono (φ := (· < w.heap.size)) (fun k hk => by show k < _; have := hk; omega) _ _ (InC.later (same_below HB3.out) _ _ ?_)
    unfold InC
    exact ⟨i1, j1, s1, t1, k1, l1, a, cap, rfl, hk, hi, hn, by decide, hri, hd, h4, h5, h6⟩
  have HBARE : Hid (InC (Pl w3.heap.size w3) w3 (bareCk 2) (.agg #[.int .i64 2, .int .i64 0, .string { data := #[] }, .int .i64 0, .slice none 0 0, .int .i64 0, .string { data := #[] }, .int .i64 0, .slice none 0 0, .slice none 0 0, .slice none 0 0])) := bareC_in _ _ _ (by omega)
  clear hk hi hn hm hri hd h4 h5 h6
  go_wp2_with fail
  refine (sameCoreNode_any (bareCk 2) (.mk 2 id ByteArray.empty n ids d ks) _ _ w3 HBARE.out HREST.out (by show zeroForm.count ≤ 4294967296; decide)).mono ?_
  rintro e w4 ⟨rfl, hb4⟩
  rw [HRR.out]
  have HB4 : Hid (Below w.heap.size w w4) := HB3.out.trans (hb4.mono (by omega))
  clear hb4 c0 y0 c1 y1 c2 y2 c3 y3 c4 y4 c5 y5 c6 y6 c7 y7 c8 y8 c9 y9 c10 y10
  cases r with
  | false =>
    have HX := Lib.hid (HR2.out rfl)
    clear HR1 HR2
    go_wp2_with fail
    go_ret
    exact ⟨by rw [HX.out]; rfl, HB4.out⟩
  | true =>
    have HX := Lib.hid (HR1.out rfl)
    clear HR1 HR2
    go_wp2_with fail
    go_ret
    exact ⟨by rw [HX.out]; rfl, HB4.out⟩
set_option maxRecDepth 100000 in
set_option maxHeartbeats 4000000 in
theorem node_num (id : Int) (nm : ByteArray) (n : Int) (ids : List Int) (d : Fm) (ks : List Ck) (i1 : Option Addr) (j1 : Nat) (s1 : Option Addr) (t1 : Nat) (k1 : Option Addr) (l1 : Nat) (a : Option Addr) (cap : Nat) (w : World)
    (hv : InC (· < w.heap.size) w (.mk 3 id nm n ids d ks) (.agg #[.int .i64 3, .int .i64 id, .string nm, .int .i64 n, .slice i1 ids.length j1, .int .i64 d.kind, .string d.name, .int .i64 d.n, .slice s1 d.scopes.length t1, .slice k1 d.kids.length l1, .slice a ks.length cap])) (r : Bool) (hr : nodeSameC (bareCk 3) (.mk 3 id nm 0 ids d ks) = r) (R : Value) (hR1 : r = true → R = .iface 229 (.agg #[.int .i64 n])) (hR2 : r = false → R = .nilIface) :
    Calls Try.prog 133 #[.agg #[.int .i64 3, .int .i64 id, .string nm, .int .i64 n, .slice i1 ids.length j1, .int .i64 d.kind, .string d.name, .int .i64 d.n, .slice s1 d.scopes.length t1, .slice k1 d.kids.length l1, .slice a ks.length cap]] w fun e w' => e = .returned R ∧ Below w.heap.size w w' := by
  have HV := Lib.hid hv
  have HRR := Lib.hid hr
  have HR1 := Lib.hid hR1
  have HR2 := Lib.hid hR2
  clear hv hr hR1 hR2
  obtain ⟨w2, hw2⟩ : ∃ w2, w2 = (w.alloc (.cells #[.int .i64 3, .int .i64 id, .string nm, .int .i64 n, .slice i1 ids.length j1, .int .i64 d.kind, .string d.name, .int .i64 d.n, .slice s1 d.scopes.length t1, .slice k1 d.kids.length l1, .slice a ks.length cap] 36)).alloc (.cells #[.int .i64 3, .int .i64 id, .string nm, .int .i64 n, .slice i1 ids.length j1, .int .i64 d.kind, .string d.name, .int .i64 d.n, .slice s1 d.scopes.length t1, .slice k1 d.kids.length l1, .slice a ks.length cap] 36) := ⟨_, rfl⟩
  obtain ⟨hA, hB, hb2, hz2, hf2⟩ := two_boxes w [.int .i64 3, .int .i64 id, .string nm, .int .i64 n, .slice i1 ids.length j1, .int .i64 d.kind, .string d.name, .int .i64 d.n, .slice s1 d.scopes.length t1, .slice k1 d.kids.length l1, .slice a ks.length cap] 36 w2 hw2
  have HW2 := Lib.hid hw2
  have HA := Lib.hid hA
  have HB := Lib.hid hB
  have HB2 := Lib.hid hb2
  have hs2 : w.heap.size + 2 ≤ w2.heap.size := by omega
  clear hA hB hw2 hb2 hz2
  go_enter Try.func133, Try.ntmps133
  go_upto_region 3 with fail
  rw [← HW2.out]
  clear HW2
  have c0 : w2.cell? ⟨w.heap.size, 0, none⟩ = some (.int .i64 3) := HA.out 0 (by simp)
  have c1 : w2.cell? ⟨w.heap.size, 1, none⟩ = some (.int .i64 id) := HA.out 1 (by simp)
  have c2 : w2.cell? ⟨w.heap.size, 2, none⟩ = some (.string nm) := HA.out 2 (by simp)
  have c3 : w2.cell? ⟨w.heap.size, 3, none⟩ = some (.int .i64 n) := HA.out 3 (by simp)
  have c4 : w2.cell? ⟨w.heap.size, 4, none⟩ = some (.slice i1 ids.length j1) := HA.out 4 (by simp)
  have c5 : w2.cell? ⟨w.heap.size, 5, none⟩ = some (.int .i64 d.kind) := HA.out 5 (by simp)
  have c6 : w2.cell? ⟨w.heap.size, 6, none⟩ = some (.string d.name) := HA.out 6 (by simp)
  have c7 : w2.cell? ⟨w.heap.size, 7, none⟩ = some (.int .i64 d.n) := HA.out 7 (by simp)
  have c8 : w2.cell? ⟨w.heap.size, 8, none⟩ = some (.slice s1 d.scopes.length t1) := HA.out 8 (by simp)
  have c9 : w2.cell? ⟨w.heap.size, 9, none⟩ = some (.slice k1 d.kids.length l1) := HA.out 9 (by simp)
  have c10 : w2.cell? ⟨w.heap.size, 10, none⟩ = some (.slice a ks.length cap) := HA.out 10 (by simp)
  have y0 : w2.cell? ⟨(w.heap.size + 1), 0, none⟩ = some (.int .i64 3) := HB.out 0 (by simp)
  have y1 : w2.cell? ⟨(w.heap.size + 1), 1, none⟩ = some (.int .i64 id) := HB.out 1 (by simp)
  have y2 : w2.cell? ⟨(w.heap.size + 1), 2, none⟩ = some (.string nm) := HB.out 2 (by simp)
  have y3 : w2.cell? ⟨(w.heap.size + 1), 3, none⟩ = some (.int .i64 n) := HB.out 3 (by simp)
  have y4 : w2.cell? ⟨(w.heap.size + 1), 4, none⟩ = some (.slice i1 ids.length j1) := HB.out 4 (by simp)
  have y5 : w2.cell? ⟨(w.heap.size + 1), 5, none⟩ = some (.int .i64 d.kind) := HB.out 5 (by simp)
  have y6 : w2.cell? ⟨(w.heap.size + 1), 6, none⟩ = some (.string d.name) := HB.out 6 (by simp)
  have y7 : w2.cell? ⟨(w.heap.size + 1), 7, none⟩ = some (.int .i64 d.n) := HB.out 7 (by simp)
  have y8 : w2.cell? ⟨(w.heap.size + 1), 8, none⟩ = some (.slice s1 d.scopes.length t1) := HB.out 8 (by simp)
  have y9 : w2.cell? ⟨(w.heap.size + 1), 9, none⟩ = some (.slice k1 d.kids.length l1) := HB.out 9 (by simp)
  have y10 : w2.cell? ⟨(w.heap.size + 1), 10, none⟩ = some (.slice a ks.length cap) := HB.out 10 (by simp)
  have f3 := hf2 3
  go_upto_region 17 with fail
  obtain ⟨w3, hw3⟩ : ∃ w3, w3 = (w2.setCell ⟨w.heap.size + 1, 3, none⟩ (.int .i64 0)) := ⟨_, rfl⟩
  have HY : Hid (RowAt w3 (w.heap.size + 1) [.int .i64 3, .int .i64 id, .string nm, .int .i64 0, .slice i1 ids.length j1, .int .i64 d.kind, .string d.name, .int .i64 d.n, .slice s1 d.scopes.length t1, .slice k1 d.kids.length l1, .slice a ks.length cap]) := by rw [hw3]; exact ((HB.out).set 3 (.int .i64 0) (by simp))
  have HC : Hid (RowAt w3 w.heap.size [.int .i64 3, .int .i64 id, .string nm, .int .i64 n, .slice i1 ids.length j1, .int .i64 d.kind, .string d.name, .int .i64 d.n, .slice s1 d.scopes.length t1, .slice k1 d.kids.length l1, .slice a ks.length cap]) := HA.out.later (by rw [hw3]; repeat rw [Below.heap_setCell _ _ _ _ (by simp)])
  have HB3 : Hid (Below w.heap.size w w3) := by
    unfold Hid
    rw [hw3]
    exact (HB2.out).setCell (p := ⟨w.heap.size + 1, 3, none⟩) (by simp) _
  have hs3 : w.heap.size + 2 ≤ w3.heap.size := by rw [hw3]; simpa [World.setCell] using hs2
  have HW3 := Lib.hid hw3
  clear hw3 c0 y0 c1 y1 c2 y2 c3 y3 c4 y4 c5 y5 c6 y6 c7 y7 c8 y8 c9 y9 c10 y10 f3
  rw [← HW3.out]
  clear HW3
  have c0 : w3.cell? ⟨w.heap.size, 0, none⟩ = some (.int .i64 3) := HC.out 0 (by simp)
  have c1 : w3.cell? ⟨w.heap.size, 1, none⟩ = some (.int .i64 id) := HC.out 1 (by simp)
  have c2 : w3.cell? ⟨w.heap.size, 2, none⟩ = some (.string nm) := HC.out 2 (by simp)
  have c3 : w3.cell? ⟨w.heap.size, 3, none⟩ = some (.int .i64 n) := HC.out 3 (by simp)
  have c4 : w3.cell? ⟨w.heap.size, 4, none⟩ = some (.slice i1 ids.length j1) := HC.out 4 (by simp)
  have c5 : w3.cell? ⟨w.heap.size, 5, none⟩ = some (.int .i64 d.kind) := HC.out 5 (by simp)
  have c6 : w3.cell? ⟨w.heap.size, 6, none⟩ = some (.string d.name) := HC.out 6 (by simp)
  have c7 : w3.cell? ⟨w.heap.size, 7, none⟩ = some (.int .i64 d.n) := HC.out 7 (by simp)
  have c8 : w3.cell? ⟨w.heap.size, 8, none⟩ = some (.slice s1 d.scopes.length t1) := HC.out 8 (by simp)
  have c9 : w3.cell? ⟨w.heap.size, 9, none⟩ = some (.slice k1 d.kids.length l1) := HC.out 9 (by simp)
  have c10 : w3.cell? ⟨w.heap.size, 10, none⟩ = some (.slice a ks.length cap) := HC.out 10 (by simp)
  have y0 : w3.cell? ⟨(w.heap.size + 1), 0, none⟩ = some (.int .i64 3) := HY.out 0 (by simp)
  have y1 : w3.cell? ⟨(w.heap.size + 1), 1, none⟩ = some (.int .i64 id) := HY.out 1 (by simp)
  have y2 : w3.cell? ⟨(w.heap.size + 1), 2, none⟩ = some (.string nm) := HY.out 2 (by simp)
  have y3 : w3.cell? ⟨(w.heap.size + 1), 3, none⟩ = some (.int .i64 0) := HY.out 3 (by simp)
  have y4 : w3.cell? ⟨(w.heap.size + 1), 4, none⟩ = some (.slice i1 ids.length j1) := HY.out 4 (by simp)
  have y5 : w3.cell? ⟨(w.heap.size + 1), 5, none⟩ = some (.int .i64 d.kind) := HY.out 5 (by simp)
  have y6 : w3.cell? ⟨(w.heap.size + 1), 6, none⟩ = some (.string d.name) := HY.out 6 (by simp)
  have y7 : w3.cell? ⟨(w.heap.size + 1), 7, none⟩ = some (.int .i64 d.n) := HY.out 7 (by simp)
  have y8 : w3.cell? ⟨(w.heap.size + 1), 8, none⟩ = some (.slice s1 d.scopes.length t1) := HY.out 8 (by simp)
  have y9 : w3.cell? ⟨(w.heap.size + 1), 9, none⟩ = some (.slice k1 d.kids.length l1) := HY.out 9 (by simp)
  have y10 : w3.cell? ⟨(w.heap.size + 1), 10, none⟩ = some (.slice a ks.length cap) := HY.out 10 (by simp)
  have HIN := HV.out
  unfold InC at HIN
  obtain ⟨i1', j1', s1', t1', k1', l1', a', cap', e, hk, hi, hn, hm, hri, hd, h4, h5, h6⟩ := HIN
  injection e with e
  injection e with e
  simp only [List.cons.injEq, and_true, Value.slice.injEq, true_and] at e
  obtain ⟨⟨rfl, rfl⟩, ⟨rfl, rfl⟩, ⟨rfl, rfl⟩, rfl, rfl⟩ := e
  have HREST : Hid (InC (· < w3.heap.size) w3 (.mk 3 id nm 0 ids d ks) (.agg #[.int .i64 3, .int .i64 id, .string nm, .int .i64 0, .slice i1 ids.length j1, .int .i64 d.kind, .string d.name, .int .i64 d.n, .slice s1 d.scopes.length t1, .slice k1 d.kids.length l1, .slice a ks.length cap])) := by
    refine InC.mono (φ := (· < w.heap.size)) (fun k hk => by show k < _; have := hk; omega) _ _ (InC.later (same_below HB3.out) _ _ ?_)
    unfold InC
    exact ⟨i1, j1, s1, t1, k1, l1, a, cap, rfl, hk, hi, by omega, hm, hri, hd, h4, h5, h6⟩
  have HBARE : Hid (InC (Pl w3.heap.size w3) w3 (bareCk 3) (.agg #[.int .i64 3, .int .i64 0, .string { data := #[] }, .int .i64 0, .slice none 0 0, .int .i64 0, .string { data := #[] }, .int .i64 0, .slice none 0 0, .slice none 0 0, .slice none 0 0])) := bareC_in _ _ _ (by omega)
  clear hk hi hn hm hri hd h4 h5 h6
  go_wp2_with fail
  refine (sameCoreNode_any (bareCk 3) (.mk 3 id nm 0 ids d ks) _ _ w3 HBARE.out HREST.out (by show zeroForm.count ≤ 4294967296; decide)).mono ?_
  rintro e w4 ⟨rfl, hb4⟩
  rw [HRR.out]
  have HB4 : Hid (Below w.heap.size w w4) := HB3.out.trans (hb4.mono (by omega))
  clear hb4 c0 y0 c1 y1 c2 y2 c3 y3 c4 y4 c5 y5 c6 y6 c7 y7 c8 y8 c9 y9 c10 y10
  cases r with
  | false =>
    have HX := Lib.hid (HR2.out rfl)
    clear HR1 HR2
    go_wp2_with fail
    go_ret
    exact ⟨by rw [HX.out]; rfl, HB4.out⟩
  | true =>
    have HX := Lib.hid (HR1.out rfl)
    clear HR1 HR2
    go_wp2_with fail
    go_ret
    exact ⟨by rw [HX.out]; rfl, HB4.out⟩
set_option maxRecDepth 100000 in
set_option maxHeartbeats 4000000 in
theorem node_quote (id : Int) (nm : ByteArray) (n : Int) (ids : List Int) (d : Fm) (ks : List Ck) (i1 : Option Addr) (j1 : Nat) (s1 : Option Addr) (t1 : Nat) (k1 : Option Addr) (l1 : Nat) (a : Option Addr) (cap : Nat) (w : World)
    (hv : InC (· < w.heap.size) w (.mk 4 id nm n ids d ks) (.agg #[.int .i64 4, .int .i64 id, .string nm, .int .i64 n, .slice i1 ids.length j1, .int .i64 d.kind, .string d.name, .int .i64 d.n, .slice s1 d.scopes.length t1, .slice k1 d.kids.length l1, .slice a ks.length cap])) (r : Bool) (hr : nodeSameC (bareCk 4) (.mk 4 id nm n ids zeroForm ks) = r) (R : Value) (hR1 : r = true → R = .iface 231 (.agg #[.int .i64 d.kind, .string d.name, .int .i64 d.n, .slice s1 d.scopes.length t1, .slice k1 d.kids.length l1])) (hR2 : r = false → R = .nilIface) :
    Calls Try.prog 133 #[.agg #[.int .i64 4, .int .i64 id, .string nm, .int .i64 n, .slice i1 ids.length j1, .int .i64 d.kind, .string d.name, .int .i64 d.n, .slice s1 d.scopes.length t1, .slice k1 d.kids.length l1, .slice a ks.length cap]] w fun e w' => e = .returned R ∧ Below w.heap.size w w' := by
  have HV := Lib.hid hv
  have HRR := Lib.hid hr
  have HR1 := Lib.hid hR1
  have HR2 := Lib.hid hR2
  clear hv hr hR1 hR2
  obtain ⟨w2, hw2⟩ : ∃ w2, w2 = (w.alloc (.cells #[.int .i64 4, .int .i64 id, .string nm, .int .i64 n, .slice i1 ids.length j1, .int .i64 d.kind, .string d.name, .int .i64 d.n, .slice s1 d.scopes.length t1, .slice k1 d.kids.length l1, .slice a ks.length cap] 36)).alloc (.cells #[.int .i64 4, .int .i64 id, .string nm, .int .i64 n, .slice i1 ids.length j1, .int .i64 d.kind, .string d.name, .int .i64 d.n, .slice s1 d.scopes.length t1, .slice k1 d.kids.length l1, .slice a ks.length cap] 36) := ⟨_, rfl⟩
  obtain ⟨hA, hB, hb2, hz2, hf2⟩ := two_boxes w [.int .i64 4, .int .i64 id, .string nm, .int .i64 n, .slice i1 ids.length j1, .int .i64 d.kind, .string d.name, .int .i64 d.n, .slice s1 d.scopes.length t1, .slice k1 d.kids.length l1, .slice a ks.length cap] 36 w2 hw2
  have HW2 := Lib.hid hw2
  have HA := Lib.hid hA
  have HB := Lib.hid hB
  have HB2 := Lib.hid hb2
  have hs2 : w.heap.size + 2 ≤ w2.heap.size := by omega
  clear hA hB hw2 hb2 hz2
  go_enter Try.func133, Try.ntmps133
  go_upto_region 3 with fail
  rw [← HW2.out]
  clear HW2
  have c0 : w2.cell? ⟨w.heap.size, 0, none⟩ = some (.int .i64 4) := HA.out 0 (by simp)
  have c1 : w2.cell? ⟨w.heap.size, 1, none⟩ = some (.int .i64 id) := HA.out 1 (by simp)
  have c2 : w2.cell? ⟨w.heap.size, 2, none⟩ = some (.string nm) := HA.out 2 (by simp)
  have c3 : w2.cell? ⟨w.heap.size, 3, none⟩ = some (.int .i64 n) := HA.out 3 (by simp)
  have c4 : w2.cell? ⟨w.heap.size, 4, none⟩ = some (.slice i1 ids.length j1) := HA.out 4 (by simp)
  have c5 : w2.cell? ⟨w.heap.size, 5, none⟩ = some (.int .i64 d.kind) := HA.out 5 (by simp)
  have c6 : w2.cell? ⟨w.heap.size, 6, none⟩ = some (.string d.name) := HA.out 6 (by simp)
  have c7 : w2.cell? ⟨w.heap.size, 7, none⟩ = some (.int .i64 d.n) := HA.out 7 (by simp)
  have c8 : w2.cell? ⟨w.heap.size, 8, none⟩ = some (.slice s1 d.scopes.length t1) := HA.out 8 (by simp)
  have c9 : w2.cell? ⟨w.heap.size, 9, none⟩ = some (.slice k1 d.kids.length l1) := HA.out 9 (by simp)
  have c10 : w2.cell? ⟨w.heap.size, 10, none⟩ = some (.slice a ks.length cap) := HA.out 10 (by simp)
  have y0 : w2.cell? ⟨(w.heap.size + 1), 0, none⟩ = some (.int .i64 4) := HB.out 0 (by simp)
  have y1 : w2.cell? ⟨(w.heap.size + 1), 1, none⟩ = some (.int .i64 id) := HB.out 1 (by simp)
  have y2 : w2.cell? ⟨(w.heap.size + 1), 2, none⟩ = some (.string nm) := HB.out 2 (by simp)
  have y3 : w2.cell? ⟨(w.heap.size + 1), 3, none⟩ = some (.int .i64 n) := HB.out 3 (by simp)
  have y4 : w2.cell? ⟨(w.heap.size + 1), 4, none⟩ = some (.slice i1 ids.length j1) := HB.out 4 (by simp)
  have y5 : w2.cell? ⟨(w.heap.size + 1), 5, none⟩ = some (.int .i64 d.kind) := HB.out 5 (by simp)
  have y6 : w2.cell? ⟨(w.heap.size + 1), 6, none⟩ = some (.string d.name) := HB.out 6 (by simp)
  have y7 : w2.cell? ⟨(w.heap.size + 1), 7, none⟩ = some (.int .i64 d.n) := HB.out 7 (by simp)
  have y8 : w2.cell? ⟨(w.heap.size + 1), 8, none⟩ = some (.slice s1 d.scopes.length t1) := HB.out 8 (by simp)
  have y9 : w2.cell? ⟨(w.heap.size + 1), 9, none⟩ = some (.slice k1 d.kids.length l1) := HB.out 9 (by simp)
  have y10 : w2.cell? ⟨(w.heap.size + 1), 10, none⟩ = some (.slice a ks.length cap) := HB.out 10 (by simp)
  have f5 := hf2 5
  have f6 := hf2 6
  have f7 := hf2 7
  have f8 := hf2 8
  have f9 := hf2 9
  go_upto_region 17 with fail
  obtain ⟨w3, hw3⟩ : ∃ w3, w3 = (((((w2.setCell ⟨w.heap.size + 1, 5, none⟩ (.int .i64 0)).setCell ⟨w.heap.size + 1, 6, none⟩ (.string { data := #[] })).setCell ⟨w.heap.size + 1, 7, none⟩ (.int .i64 0)).setCell ⟨w.heap.size + 1, 8, none⟩ (.slice none 0 0)).setCell ⟨w.heap.size + 1, 9, none⟩ (.slice none 0 0)) := ⟨_, rfl⟩
  have HY : Hid (RowAt w3 (w.heap.size + 1) [.int .i64 4, .int .i64 id, .string nm, .int .i64 n, .slice i1 ids.length j1, .int .i64 0, .string { data := #[] }, .int .i64 0, .slice none 0 0, .slice none 0 0, .slice a ks.length cap]) := by rw [hw3]; exact ((((((((((HB.out).set 5 (.int .i64 0) (by simp))).set 6 (.string { data := #[] }) (by simp))).set 7 (.int .i64 0) (by simp))).set 8 (.slice none 0 0) (by simp))).set 9 (.slice none 0 0) (by simp))
  have HC : Hid (RowAt w3 w.heap.size [.int .i64 4, .int .i64 id, .string nm, .int .i64 n, .slice i1 ids.length j1, .int .i64 d.kind, .string d.name, .int .i64 d.n, .slice s1 d.scopes.length t1, .slice k1 d.kids.length l1, .slice a ks.length cap]) := HA.out.later (by rw [hw3]; repeat rw [Below.heap_setCell _ _ _ _ (by simp)])
  have HB3 : Hid (Below w.heap.size w w3) := by
    unfold Hid
    rw [hw3]
    exact (((((HB2.out).setCell (p := ⟨w.heap.size + 1, 5, none⟩) (by simp) _).setCell (p := ⟨w.heap.size + 1, 6, none⟩) (by simp) _).setCell (p := ⟨w.heap.size + 1, 7, none⟩) (by simp) _).setCell (p := ⟨w.heap.size + 1, 8, none⟩) (by simp) _).setCell (p := ⟨w.heap.size + 1, 9, none⟩) (by simp) _
  have hs3 : w.heap.size + 2 ≤ w3.heap.size := by rw [hw3]; simpa [World.setCell] using hs2
  have HW3 := Lib.hid hw3
  clear hw3 c0 y0 c1 y1 c2 y2 c3 y3 c4 y4 c5 y5 c6 y6 c7 y7 c8 y8 c9 y9 c10 y10 f5 f6 f7 f8 f9
  rw [← HW3.out]
  clear HW3
  have c0 : w3.cell? ⟨w.heap.size, 0, none⟩ = some (.int .i64 4) := HC.out 0 (by simp)
  have c1 : w3.cell? ⟨w.heap.size, 1, none⟩ = some (.int .i64 id) := HC.out 1 (by simp)
  have c2 : w3.cell? ⟨w.heap.size, 2, none⟩ = some (.string nm) := HC.out 2 (by simp)
  have c3 : w3.cell? ⟨w.heap.size, 3, none⟩ = some (.int .i64 n) := HC.out 3 (by simp)
  have c4 : w3.cell? ⟨w.heap.size, 4, none⟩ = some (.slice i1 ids.length j1) := HC.out 4 (by simp)
  have c5 : w3.cell? ⟨w.heap.size, 5, none⟩ = some (.int .i64 d.kind) := HC.out 5 (by simp)
  have c6 : w3.cell? ⟨w.heap.size, 6, none⟩ = some (.string d.name) := HC.out 6 (by simp)
  have c7 : w3.cell? ⟨w.heap.size, 7, none⟩ = some (.int .i64 d.n) := HC.out 7 (by simp)
  have c8 : w3.cell? ⟨w.heap.size, 8, none⟩ = some (.slice s1 d.scopes.length t1) := HC.out 8 (by simp)
  have c9 : w3.cell? ⟨w.heap.size, 9, none⟩ = some (.slice k1 d.kids.length l1) := HC.out 9 (by simp)
  have c10 : w3.cell? ⟨w.heap.size, 10, none⟩ = some (.slice a ks.length cap) := HC.out 10 (by simp)
  have y0 : w3.cell? ⟨(w.heap.size + 1), 0, none⟩ = some (.int .i64 4) := HY.out 0 (by simp)
  have y1 : w3.cell? ⟨(w.heap.size + 1), 1, none⟩ = some (.int .i64 id) := HY.out 1 (by simp)
  have y2 : w3.cell? ⟨(w.heap.size + 1), 2, none⟩ = some (.string nm) := HY.out 2 (by simp)
  have y3 : w3.cell? ⟨(w.heap.size + 1), 3, none⟩ = some (.int .i64 n) := HY.out 3 (by simp)
  have y4 : w3.cell? ⟨(w.heap.size + 1), 4, none⟩ = some (.slice i1 ids.length j1) := HY.out 4 (by simp)
  have y5 : w3.cell? ⟨(w.heap.size + 1), 5, none⟩ = some (.int .i64 0) := HY.out 5 (by simp)
  have y6 : w3.cell? ⟨(w.heap.size + 1), 6, none⟩ = some (.string { data := #[] }) := HY.out 6 (by simp)
  have y7 : w3.cell? ⟨(w.heap.size + 1), 7, none⟩ = some (.int .i64 0) := HY.out 7 (by simp)
  have y8 : w3.cell? ⟨(w.heap.size + 1), 8, none⟩ = some (.slice none 0 0) := HY.out 8 (by simp)
  have y9 : w3.cell? ⟨(w.heap.size + 1), 9, none⟩ = some (.slice none 0 0) := HY.out 9 (by simp)
  have y10 : w3.cell? ⟨(w.heap.size + 1), 10, none⟩ = some (.slice a ks.length cap) := HY.out 10 (by simp)
  have HIN := HV.out
  unfold InC at HIN
  obtain ⟨i1', j1', s1', t1', k1', l1', a', cap', e, hk, hi, hn, hm, hri, hd, h4, h5, h6⟩ := HIN
  injection e with e
  injection e with e
  simp only [List.cons.injEq, and_true, Value.slice.injEq, true_and] at e
  obtain ⟨⟨rfl, rfl⟩, ⟨rfl, rfl⟩, ⟨rfl, rfl⟩, rfl, rfl⟩ := e
  have HREST : Hid (InC (· < w3.heap.size) w3 (.mk 4 id nm n ids zeroForm ks) (.agg #[.int .i64 4, .int .i64 id, .string nm, .int .i64 n, .slice i1 ids.length j1, .int .i64 0, .string { data := #[] }, .int .i64 0, .slice none 0 0, .slice none 0 0, .slice a ks.length cap])) := by
    refine InC.mono (φ := (· < w.heap.size)) (fun k hk => by show k < _; have := hk; omega) _ _ (InC.later (same_below HB3.out) _ _ ?_)
    unfold InC
    exact ⟨i1, j1, none, 0, none, 0, a, cap, rfl, hk, hi, hn, hm, hri, zero_in, h4, h5, h6⟩
  have HBARE : Hid (InC (Pl w3.heap.size w3) w3 (bareCk 4) (.agg #[.int .i64 4, .int .i64 0, .string { data := #[] }, .int .i64 0, .slice none 0 0, .int .i64 0, .string { data := #[] }, .int .i64 0, .slice none 0 0, .slice none 0 0, .slice none 0 0])) := bareC_in _ _ _ (by omega)
  clear hk hi hn hm hri hd h4 h5 h6
  go_wp2_with fail
  refine (sameCoreNode_any (bareCk 4) (.mk 4 id nm n ids zeroForm ks) _ _ w3 HBARE.out HREST.out (by show zeroForm.count ≤ 4294967296; decide)).mono ?_
  rintro e w4 ⟨rfl, hb4⟩
  rw [HRR.out]
  have HB4 : Hid (Below w.heap.size w w4) := HB3.out.trans (hb4.mono (by omega))
  clear hb4 c0 y0 c1 y1 c2 y2 c3 y3 c4 y4 c5 y5 c6 y6 c7 y7 c8 y8 c9 y9 c10 y10
  cases r with
  | false =>
    have HX := Lib.hid (HR2.out rfl)
    clear HR1 HR2
    go_wp2_with fail
    go_ret
    exact ⟨by rw [HX.out]; rfl, HB4.out⟩
  | true =>
    have HX := Lib.hid (HR1.out rfl)
    clear HR1 HR2
    go_wp2_with fail
    go_ret
    exact ⟨by rw [HX.out]; rfl, HB4.out⟩
set_option maxRecDepth 100000 in
set_option maxHeartbeats 4000000 in
theorem node_call (id : Int) (nm : ByteArray) (n : Int) (ids : List Int) (d : Fm) (ks : List Ck) (i1 : Option Addr) (j1 : Nat) (s1 : Option Addr) (t1 : Nat) (k1 : Option Addr) (l1 : Nat) (a : Option Addr) (cap : Nat) (w : World)
    (hv : InC (· < w.heap.size) w (.mk 6 id nm n ids d ks) (.agg #[.int .i64 6, .int .i64 id, .string nm, .int .i64 n, .slice i1 ids.length j1, .int .i64 d.kind, .string d.name, .int .i64 d.n, .slice s1 d.scopes.length t1, .slice k1 d.kids.length l1, .slice a ks.length cap])) (hks : 0 < ks.length) (r : Bool) (hr : nodeSameC (bareCk 6) (.mk 6 id nm n ids d []) = r) (R : Value) (hR1 : r = true → R = .iface 235 (.agg #[.string { data := #[40] }, .slice a ks.length cap])) (hR2 : r = false → R = .nilIface) :
    Calls Try.prog 133 #[.agg #[.int .i64 6, .int .i64 id, .string nm, .int .i64 n, .slice i1 ids.length j1, .int .i64 d.kind, .string d.name, .int .i64 d.n, .slice s1 d.scopes.length t1, .slice k1 d.kids.length l1, .slice a ks.length cap]] w fun e w' => e = .returned R ∧ Below w.heap.size w w' := by
  have HV := Lib.hid hv
  have HRR := Lib.hid hr
  have HR1 := Lib.hid hR1
  have HR2 := Lib.hid hR2
  clear hv hr hR1 hR2
  have hl5 : decide ((0 : Int) < (ks.length : Int)) = true := by rw [decide_eq_true_eq]; omega
  have hl6 : decide (0 < ks.length) = true := by rw [decide_eq_true_eq]; exact hks
  have HKS := Lib.hid hks
  clear hks
  obtain ⟨w2, hw2⟩ : ∃ w2, w2 = (w.alloc (.cells #[.int .i64 6, .int .i64 id, .string nm, .int .i64 n, .slice i1 ids.length j1, .int .i64 d.kind, .string d.name, .int .i64 d.n, .slice s1 d.scopes.length t1, .slice k1 d.kids.length l1, .slice a ks.length cap] 36)).alloc (.cells #[.int .i64 6, .int .i64 id, .string nm, .int .i64 n, .slice i1 ids.length j1, .int .i64 d.kind, .string d.name, .int .i64 d.n, .slice s1 d.scopes.length t1, .slice k1 d.kids.length l1, .slice a ks.length cap] 36) := ⟨_, rfl⟩
  obtain ⟨hA, hB, hb2, hz2, hf2⟩ := two_boxes w [.int .i64 6, .int .i64 id, .string nm, .int .i64 n, .slice i1 ids.length j1, .int .i64 d.kind, .string d.name, .int .i64 d.n, .slice s1 d.scopes.length t1, .slice k1 d.kids.length l1, .slice a ks.length cap] 36 w2 hw2
  have HW2 := Lib.hid hw2
  have HA := Lib.hid hA
  have HB := Lib.hid hB
  have HB2 := Lib.hid hb2
  have hs2 : w.heap.size + 2 ≤ w2.heap.size := by omega
  clear hA hB hw2 hb2 hz2
  go_enter Try.func133, Try.ntmps133
  go_upto_region 3 with fail
  rw [← HW2.out]
  clear HW2
  have c0 : w2.cell? ⟨w.heap.size, 0, none⟩ = some (.int .i64 6) := HA.out 0 (by simp)
  have c1 : w2.cell? ⟨w.heap.size, 1, none⟩ = some (.int .i64 id) := HA.out 1 (by simp)
  have c2 : w2.cell? ⟨w.heap.size, 2, none⟩ = some (.string nm) := HA.out 2 (by simp)
  have c3 : w2.cell? ⟨w.heap.size, 3, none⟩ = some (.int .i64 n) := HA.out 3 (by simp)
  have c4 : w2.cell? ⟨w.heap.size, 4, none⟩ = some (.slice i1 ids.length j1) := HA.out 4 (by simp)
  have c5 : w2.cell? ⟨w.heap.size, 5, none⟩ = some (.int .i64 d.kind) := HA.out 5 (by simp)
  have c6 : w2.cell? ⟨w.heap.size, 6, none⟩ = some (.string d.name) := HA.out 6 (by simp)
  have c7 : w2.cell? ⟨w.heap.size, 7, none⟩ = some (.int .i64 d.n) := HA.out 7 (by simp)
  have c8 : w2.cell? ⟨w.heap.size, 8, none⟩ = some (.slice s1 d.scopes.length t1) := HA.out 8 (by simp)
  have c9 : w2.cell? ⟨w.heap.size, 9, none⟩ = some (.slice k1 d.kids.length l1) := HA.out 9 (by simp)
  have c10 : w2.cell? ⟨w.heap.size, 10, none⟩ = some (.slice a ks.length cap) := HA.out 10 (by simp)
  have y0 : w2.cell? ⟨(w.heap.size + 1), 0, none⟩ = some (.int .i64 6) := HB.out 0 (by simp)
  have y1 : w2.cell? ⟨(w.heap.size + 1), 1, none⟩ = some (.int .i64 id) := HB.out 1 (by simp)
  have y2 : w2.cell? ⟨(w.heap.size + 1), 2, none⟩ = some (.string nm) := HB.out 2 (by simp)
  have y3 : w2.cell? ⟨(w.heap.size + 1), 3, none⟩ = some (.int .i64 n) := HB.out 3 (by simp)
  have y4 : w2.cell? ⟨(w.heap.size + 1), 4, none⟩ = some (.slice i1 ids.length j1) := HB.out 4 (by simp)
  have y5 : w2.cell? ⟨(w.heap.size + 1), 5, none⟩ = some (.int .i64 d.kind) := HB.out 5 (by simp)
  have y6 : w2.cell? ⟨(w.heap.size + 1), 6, none⟩ = some (.string d.name) := HB.out 6 (by simp)
  have y7 : w2.cell? ⟨(w.heap.size + 1), 7, none⟩ = some (.int .i64 d.n) := HB.out 7 (by simp)
  have y8 : w2.cell? ⟨(w.heap.size + 1), 8, none⟩ = some (.slice s1 d.scopes.length t1) := HB.out 8 (by simp)
  have y9 : w2.cell? ⟨(w.heap.size + 1), 9, none⟩ = some (.slice k1 d.kids.length l1) := HB.out 9 (by simp)
  have y10 : w2.cell? ⟨(w.heap.size + 1), 10, none⟩ = some (.slice a ks.length cap) := HB.out 10 (by simp)
  have f10 := hf2 10
  go_upto_region 17 with fail
  obtain ⟨w3, hw3⟩ : ∃ w3, w3 = (w2.setCell ⟨w.heap.size + 1, 10, none⟩ (.slice none 0 0)) := ⟨_, rfl⟩
  have HY : Hid (RowAt w3 (w.heap.size + 1) [.int .i64 6, .int .i64 id, .string nm, .int .i64 n, .slice i1 ids.length j1, .int .i64 d.kind, .string d.name, .int .i64 d.n, .slice s1 d.scopes.length t1, .slice k1 d.kids.length l1, .slice none 0 0]) := by rw [hw3]; exact ((HB.out).set 10 (.slice none 0 0) (by simp))
  have HC : Hid (RowAt w3 w.heap.size [.int .i64 6, .int .i64 id, .string nm, .int .i64 n, .slice i1 ids.length j1, .int .i64 d.kind, .string d.name, .int .i64 d.n, .slice s1 d.scopes.length t1, .slice k1 d.kids.length l1, .slice a ks.length cap]) := HA.out.later (by rw [hw3]; repeat rw [Below.heap_setCell _ _ _ _ (by simp)])
  have HB3 : Hid (Below w.heap.size w w3) := by
    unfold Hid
    rw [hw3]
    exact (HB2.out).setCell (p := ⟨w.heap.size + 1, 10, none⟩) (by simp) _
  have hs3 : w.heap.size + 2 ≤ w3.heap.size := by rw [hw3]; simpa [World.setCell] using hs2
  have HW3 := Lib.hid hw3
  clear hw3 c0 y0 c1 y1 c2 y2 c3 y3 c4 y4 c5 y5 c6 y6 c7 y7 c8 y8 c9 y9 c10 y10 f10
  rw [← HW3.out]
  clear HW3
  have c0 : w3.cell? ⟨w.heap.size, 0, none⟩ = some (.int .i64 6) := HC.out 0 (by simp)
  have c1 : w3.cell? ⟨w.heap.size, 1, none⟩ = some (.int .i64 id) := HC.out 1 (by simp)
  have c2 : w3.cell? ⟨w.heap.size, 2, none⟩ = some (.string nm) := HC.out 2 (by simp)
  have c3 : w3.cell? ⟨w.heap.size, 3, none⟩ = some (.int .i64 n) := HC.out 3 (by simp)
  have c4 : w3.cell? ⟨w.heap.size, 4, none⟩ = some (.slice i1 ids.length j1) := HC.out 4 (by simp)
  have c5 : w3.cell? ⟨w.heap.size, 5, none⟩ = some (.int .i64 d.kind) := HC.out 5 (by simp)
  have c6 : w3.cell? ⟨w.heap.size, 6, none⟩ = some (.string d.name) := HC.out 6 (by simp)
  have c7 : w3.cell? ⟨w.heap.size, 7, none⟩ = some (.int .i64 d.n) := HC.out 7 (by simp)
  have c8 : w3.cell? ⟨w.heap.size, 8, none⟩ = some (.slice s1 d.scopes.length t1) := HC.out 8 (by simp)
  have c9 : w3.cell? ⟨w.heap.size, 9, none⟩ = some (.slice k1 d.kids.length l1) := HC.out 9 (by simp)
  have c10 : w3.cell? ⟨w.heap.size, 10, none⟩ = some (.slice a ks.length cap) := HC.out 10 (by simp)
  have y0 : w3.cell? ⟨(w.heap.size + 1), 0, none⟩ = some (.int .i64 6) := HY.out 0 (by simp)
  have y1 : w3.cell? ⟨(w.heap.size + 1), 1, none⟩ = some (.int .i64 id) := HY.out 1 (by simp)
  have y2 : w3.cell? ⟨(w.heap.size + 1), 2, none⟩ = some (.string nm) := HY.out 2 (by simp)
  have y3 : w3.cell? ⟨(w.heap.size + 1), 3, none⟩ = some (.int .i64 n) := HY.out 3 (by simp)
  have y4 : w3.cell? ⟨(w.heap.size + 1), 4, none⟩ = some (.slice i1 ids.length j1) := HY.out 4 (by simp)
  have y5 : w3.cell? ⟨(w.heap.size + 1), 5, none⟩ = some (.int .i64 d.kind) := HY.out 5 (by simp)
  have y6 : w3.cell? ⟨(w.heap.size + 1), 6, none⟩ = some (.string d.name) := HY.out 6 (by simp)
  have y7 : w3.cell? ⟨(w.heap.size + 1), 7, none⟩ = some (.int .i64 d.n) := HY.out 7 (by simp)
  have y8 : w3.cell? ⟨(w.heap.size + 1), 8, none⟩ = some (.slice s1 d.scopes.length t1) := HY.out 8 (by simp)
  have y9 : w3.cell? ⟨(w.heap.size + 1), 9, none⟩ = some (.slice k1 d.kids.length l1) := HY.out 9 (by simp)
  have y10 : w3.cell? ⟨(w.heap.size + 1), 10, none⟩ = some (.slice none 0 0) := HY.out 10 (by simp)
  have HIN := HV.out
  unfold InC at HIN
  obtain ⟨i1', j1', s1', t1', k1', l1', a', cap', e, hk, hi, hn, hm, hri, hd, h4, h5, h6⟩ := HIN
  injection e with e
  injection e with e
  simp only [List.cons.injEq, and_true, Value.slice.injEq, true_and] at e
  obtain ⟨⟨rfl, rfl⟩, ⟨rfl, rfl⟩, ⟨rfl, rfl⟩, rfl, rfl⟩ := e
  have HREST : Hid (InC (· < w3.heap.size) w3 (.mk 6 id nm n ids d []) (.agg #[.int .i64 6, .int .i64 id, .string nm, .int .i64 n, .slice i1 ids.length j1, .int .i64 d.kind, .string d.name, .int .i64 d.n, .slice s1 d.scopes.length t1, .slice k1 d.kids.length l1, .slice none 0 0])) := by
    refine InC.mono (φ := (· < w.heap.size)) (fun k hk => by show k < _; have := hk; omega) _ _ (InC.later (same_below HB3.out) _ _ ?_)
    unfold InC
    exact ⟨i1, j1, s1, t1, k1, l1, none, 0, rfl, hk, hi, hn, hm, hri, hd, Nat.le_refl _, Nat.zero_le _, .inl rfl⟩
  have HBARE : Hid (InC (Pl w3.heap.size w3) w3 (bareCk 6) (.agg #[.int .i64 6, .int .i64 0, .string { data := #[] }, .int .i64 0, .slice none 0 0, .int .i64 0, .string { data := #[] }, .int .i64 0, .slice none 0 0, .slice none 0 0, .slice none 0 0])) := bareC_in _ _ _ (by omega)
  clear hk hi hn hm hri hd h4 h5 h6
  go_wp2_with fail
  refine (sameCoreNode_any (bareCk 6) (.mk 6 id nm n ids d []) _ _ w3 HBARE.out HREST.out (by show zeroForm.count ≤ 4294967296; decide)).mono ?_
  rintro e w4 ⟨rfl, hb4⟩
  rw [HRR.out]
  have HB4 : Hid (Below w.heap.size w w4) := HB3.out.trans (hb4.mono (by omega))
  clear hb4 c0 y0 c1 y1 c2 y2 c3 y3 c4 y4 c5 y5 c6 y6 c7 y7 c8 y8 c9 y9 c10 y10
  cases r with
  | false =>
    have HX := Lib.hid (HR2.out rfl)
    clear HR1 HR2
    go_wp2_with fail
    go_ret
    exact ⟨by rw [HX.out]; rfl, HB4.out⟩
  | true =>
    have HX := Lib.hid (HR1.out rfl)
    clear HR1 HR2
    go_wp2_with fail
    go_ret
    exact ⟨by rw [HX.out]; rfl, HB4.out⟩
set_option maxRecDepth 100000 in
set_option maxHeartbeats 4000000 in
theorem node_if (id : Int) (nm : ByteArray) (n : Int) (ids : List Int) (d : Fm) (ks : List Ck) (i1 : Option Addr) (j1 : Nat) (s1 : Option Addr) (t1 : Nat) (k1 : Option Addr) (l1 : Nat) (a : Option Addr) (cap : Nat) (w : World)
    (hv : InC (· < w.heap.size) w (.mk 7 id nm n ids d ks) (.agg #[.int .i64 7, .int .i64 id, .string nm, .int .i64 n, .slice i1 ids.length j1, .int .i64 d.kind, .string d.name, .int .i64 d.n, .slice s1 d.scopes.length t1, .slice k1 d.kids.length l1, .slice a ks.length cap])) (hks : ks.length = 3) (r : Bool) (hr : nodeSameC (bareCk 7) (.mk 7 id nm n ids d []) = r) (R : Value) (hR1 : r = true → R = .iface 235 (.agg #[.string { data := #[40, 105, 102, 32] }, .slice a ks.length cap])) (hR2 : r = false → R = .nilIface) :
    Calls Try.prog 133 #[.agg #[.int .i64 7, .int .i64 id, .string nm, .int .i64 n, .slice i1 ids.length j1, .int .i64 d.kind, .string d.name, .int .i64 d.n, .slice s1 d.scopes.length t1, .slice k1 d.kids.length l1, .slice a ks.length cap]] w fun e w' => e = .returned R ∧ Below w.heap.size w w' := by
  have HV := Lib.hid hv
  have HRR := Lib.hid hr
  have HR1 := Lib.hid hR1
  have HR2 := Lib.hid hR2
  clear hv hr hR1 hR2
  have hl5 : ((ks.length : Int) == 3) = true := by rw [beq_iff_eq]; omega
  have HKS := Lib.hid hks
  clear hks
  obtain ⟨w2, hw2⟩ : ∃ w2, w2 = (w.alloc (.cells #[.int .i64 7, .int .i64 id, .string nm, .int .i64 n, .slice i1 ids.length j1, .int .i64 d.kind, .string d.name, .int .i64 d.n, .slice s1 d.scopes.length t1, .slice k1 d.kids.length l1, .slice a ks.length cap] 36)).alloc (.cells #[.int .i64 7, .int .i64 id, .string nm, .int .i64 n, .slice i1 ids.length j1, .int .i64 d.kind, .string d.name, .int .i64 d.n, .slice s1 d.scopes.length t1, .slice k1 d.kids.length l1, .slice a ks.length cap] 36) := ⟨_, rfl⟩
  obtain ⟨hA, hB, hb2, hz2, hf2⟩ := two_boxes w [.int .i64 7, .int .i64 id, .string nm, .int .i64 n, .slice i1 ids.length j1, .int .i64 d.kind, .string d.name, .int .i64 d.n, .slice s1 d.scopes.length t1, .slice k1 d.kids.length l1, .slice a ks.length cap] 36 w2 hw2
  have HW2 := Lib.hid hw2
  have HA := Lib.hid hA
  have HB := Lib.hid hB
  have HB2 := Lib.hid hb2
  have hs2 : w.heap.size + 2 ≤ w2.heap.size := by omega
  clear hA hB hw2 hb2 hz2
  go_enter Try.func133, Try.ntmps133
  go_upto_region 3 with fail
  rw [← HW2.out]
  clear HW2
  have c0 : w2.cell? ⟨w.heap.size, 0, none⟩ = some (.int .i64 7) := HA.out 0 (by simp)
  have c1 : w2.cell? ⟨w.heap.size, 1, none⟩ = some (.int .i64 id) := HA.out 1 (by simp)
  have c2 : w2.cell? ⟨w.heap.size, 2, none⟩ = some (.string nm) := HA.out 2 (by simp)
  have c3 : w2.cell? ⟨w.heap.size, 3, none⟩ = some (.int .i64 n) := HA.out 3 (by simp)
  have c4 : w2.cell? ⟨w.heap.size, 4, none⟩ = some (.slice i1 ids.length j1) := HA.out 4 (by simp)
  have c5 : w2.cell? ⟨w.heap.size, 5, none⟩ = some (.int .i64 d.kind) := HA.out 5 (by simp)
  have c6 : w2.cell? ⟨w.heap.size, 6, none⟩ = some (.string d.name) := HA.out 6 (by simp)
  have c7 : w2.cell? ⟨w.heap.size, 7, none⟩ = some (.int .i64 d.n) := HA.out 7 (by simp)
  have c8 : w2.cell? ⟨w.heap.size, 8, none⟩ = some (.slice s1 d.scopes.length t1) := HA.out 8 (by simp)
  have c9 : w2.cell? ⟨w.heap.size, 9, none⟩ = some (.slice k1 d.kids.length l1) := HA.out 9 (by simp)
  have c10 : w2.cell? ⟨w.heap.size, 10, none⟩ = some (.slice a ks.length cap) := HA.out 10 (by simp)
  have y0 : w2.cell? ⟨(w.heap.size + 1), 0, none⟩ = some (.int .i64 7) := HB.out 0 (by simp)
  have y1 : w2.cell? ⟨(w.heap.size + 1), 1, none⟩ = some (.int .i64 id) := HB.out 1 (by simp)
  have y2 : w2.cell? ⟨(w.heap.size + 1), 2, none⟩ = some (.string nm) := HB.out 2 (by simp)
  have y3 : w2.cell? ⟨(w.heap.size + 1), 3, none⟩ = some (.int .i64 n) := HB.out 3 (by simp)
  have y4 : w2.cell? ⟨(w.heap.size + 1), 4, none⟩ = some (.slice i1 ids.length j1) := HB.out 4 (by simp)
  have y5 : w2.cell? ⟨(w.heap.size + 1), 5, none⟩ = some (.int .i64 d.kind) := HB.out 5 (by simp)
  have y6 : w2.cell? ⟨(w.heap.size + 1), 6, none⟩ = some (.string d.name) := HB.out 6 (by simp)
  have y7 : w2.cell? ⟨(w.heap.size + 1), 7, none⟩ = some (.int .i64 d.n) := HB.out 7 (by simp)
  have y8 : w2.cell? ⟨(w.heap.size + 1), 8, none⟩ = some (.slice s1 d.scopes.length t1) := HB.out 8 (by simp)
  have y9 : w2.cell? ⟨(w.heap.size + 1), 9, none⟩ = some (.slice k1 d.kids.length l1) := HB.out 9 (by simp)
  have y10 : w2.cell? ⟨(w.heap.size + 1), 10, none⟩ = some (.slice a ks.length cap) := HB.out 10 (by simp)
  have f10 := hf2 10
  go_upto_region 17 with fail
  obtain ⟨w3, hw3⟩ : ∃ w3, w3 = (w2.setCell ⟨w.heap.size + 1, 10, none⟩ (.slice none 0 0)) := ⟨_, rfl⟩
  have HY : Hid (RowAt w3 (w.heap.size + 1) [.int .i64 7, .int .i64 id, .string nm, .int .i64 n, .slice i1 ids.length j1, .int .i64 d.kind, .string d.name, .int .i64 d.n, .slice s1 d.scopes.length t1, .slice k1 d.kids.length l1, .slice none 0 0]) := by rw [hw3]; exact ((HB.out).set 10 (.slice none 0 0) (by simp))
  have HC : Hid (RowAt w3 w.heap.size [.int .i64 7, .int .i64 id, .string nm, .int .i64 n, .slice i1 ids.length j1, .int .i64 d.kind, .string d.name, .int .i64 d.n, .slice s1 d.scopes.length t1, .slice k1 d.kids.length l1, .slice a ks.length cap]) := HA.out.later (by rw [hw3]; repeat rw [Below.heap_setCell _ _ _ _ (by simp)])
  have HB3 : Hid (Below w.heap.size w w3) := by
    unfold Hid
    rw [hw3]
    exact (HB2.out).setCell (p := ⟨w.heap.size + 1, 10, none⟩) (by simp) _
  have hs3 : w.heap.size + 2 ≤ w3.heap.size := by rw [hw3]; simpa [World.setCell] using hs2
  have HW3 := Lib.hid hw3
  clear hw3 c0 y0 c1 y1 c2 y2 c3 y3 c4 y4 c5 y5 c6 y6 c7 y7 c8 y8 c9 y9 c10 y10 f10
  rw [← HW3.out]
  clear HW3
  have c0 : w3.cell? ⟨w.heap.size, 0, none⟩ = some (.int .i64 7) := HC.out 0 (by simp)
  have c1 : w3.cell? ⟨w.heap.size, 1, none⟩ = some (.int .i64 id) := HC.out 1 (by simp)
  have c2 : w3.cell? ⟨w.heap.size, 2, none⟩ = some (.string nm) := HC.out 2 (by simp)
  have c3 : w3.cell? ⟨w.heap.size, 3, none⟩ = some (.int .i64 n) := HC.out 3 (by simp)
  have c4 : w3.cell? ⟨w.heap.size, 4, none⟩ = some (.slice i1 ids.length j1) := HC.out 4 (by simp)
  have c5 : w3.cell? ⟨w.heap.size, 5, none⟩ = some (.int .i64 d.kind) := HC.out 5 (by simp)
  have c6 : w3.cell? ⟨w.heap.size, 6, none⟩ = some (.string d.name) := HC.out 6 (by simp)
  have c7 : w3.cell? ⟨w.heap.size, 7, none⟩ = some (.int .i64 d.n) := HC.out 7 (by simp)
  have c8 : w3.cell? ⟨w.heap.size, 8, none⟩ = some (.slice s1 d.scopes.length t1) := HC.out 8 (by simp)
  have c9 : w3.cell? ⟨w.heap.size, 9, none⟩ = some (.slice k1 d.kids.length l1) := HC.out 9 (by simp)
  have c10 : w3.cell? ⟨w.heap.size, 10, none⟩ = some (.slice a ks.length cap) := HC.out 10 (by simp)
  have y0 : w3.cell? ⟨(w.heap.size + 1), 0, none⟩ = some (.int .i64 7) := HY.out 0 (by simp)
  have y1 : w3.cell? ⟨(w.heap.size + 1), 1, none⟩ = some (.int .i64 id) := HY.out 1 (by simp)
  have y2 : w3.cell? ⟨(w.heap.size + 1), 2, none⟩ = some (.string nm) := HY.out 2 (by simp)
  have y3 : w3.cell? ⟨(w.heap.size + 1), 3, none⟩ = some (.int .i64 n) := HY.out 3 (by simp)
  have y4 : w3.cell? ⟨(w.heap.size + 1), 4, none⟩ = some (.slice i1 ids.length j1) := HY.out 4 (by simp)
  have y5 : w3.cell? ⟨(w.heap.size + 1), 5, none⟩ = some (.int .i64 d.kind) := HY.out 5 (by simp)
  have y6 : w3.cell? ⟨(w.heap.size + 1), 6, none⟩ = some (.string d.name) := HY.out 6 (by simp)
  have y7 : w3.cell? ⟨(w.heap.size + 1), 7, none⟩ = some (.int .i64 d.n) := HY.out 7 (by simp)
  have y8 : w3.cell? ⟨(w.heap.size + 1), 8, none⟩ = some (.slice s1 d.scopes.length t1) := HY.out 8 (by simp)
  have y9 : w3.cell? ⟨(w.heap.size + 1), 9, none⟩ = some (.slice k1 d.kids.length l1) := HY.out 9 (by simp)
  have y10 : w3.cell? ⟨(w.heap.size + 1), 10, none⟩ = some (.slice none 0 0) := HY.out 10 (by simp)
  have HIN := HV.out
  unfold InC at HIN
  obtain ⟨i1', j1', s1', t1', k1', l1', a', cap', e, hk, hi, hn, hm, hri, hd, h4, h5, h6⟩ := HIN
  injection e with e
  injection e with e
  simp only [List.cons.injEq, and_true, Value.slice.injEq, true_and] at e
  obtain ⟨⟨rfl, rfl⟩, ⟨rfl, rfl⟩, ⟨rfl, rfl⟩, rfl, rfl⟩ := e
  have HREST : Hid (InC (· < w3.heap.size) w3 (.mk 7 id nm n ids d []) (.agg #[.int .i64 7, .int .i64 id, .string nm, .int .i64 n, .slice i1 ids.length j1, .int .i64 d.kind, .string d.name, .int .i64 d.n, .slice s1 d.scopes.length t1, .slice k1 d.kids.length l1, .slice none 0 0])) := by
    refine InC.mono (φ := (· < w.heap.size)) (fun k hk => by show k < _; have := hk; omega) _ _ (InC.later (same_below HB3.out) _ _ ?_)
    unfold InC
    exact ⟨i1, j1, s1, t1, k1, l1, none, 0, rfl, hk, hi, hn, hm, hri, hd, Nat.le_refl _, Nat.zero_le _, .inl rfl⟩
  have HBARE : Hid (InC (Pl w3.heap.size w3) w3 (bareCk 7) (.agg #[.int .i64 7, .int .i64 0, .string { data := #[] }, .int .i64 0, .slice none 0 0, .int .i64 0, .string { data := #[] }, .int .i64 0, .slice none 0 0, .slice none 0 0, .slice none 0 0])) := bareC_in _ _ _ (by omega)
  clear hk hi hn hm hri hd h4 h5 h6
  go_wp2_with fail
  refine (sameCoreNode_any (bareCk 7) (.mk 7 id nm n ids d []) _ _ w3 HBARE.out HREST.out (by show zeroForm.count ≤ 4294967296; decide)).mono ?_
  rintro e w4 ⟨rfl, hb4⟩
  rw [HRR.out]
  have HB4 : Hid (Below w.heap.size w w4) := HB3.out.trans (hb4.mono (by omega))
  clear hb4 c0 y0 c1 y1 c2 y2 c3 y3 c4 y4 c5 y5 c6 y6 c7 y7 c8 y8 c9 y9 c10 y10
  cases r with
  | false =>
    have HX := Lib.hid (HR2.out rfl)
    clear HR1 HR2
    go_wp2_with fail
    go_ret
    exact ⟨by rw [HX.out]; rfl, HB4.out⟩
  | true =>
    have HX := Lib.hid (HR1.out rfl)
    clear HR1 HR2
    go_wp2_with fail
    go_ret
    exact ⟨by rw [HX.out]; rfl, HB4.out⟩
set_option maxRecDepth 100000 in
set_option maxHeartbeats 4000000 in
theorem node_fun (id : Int) (nm : ByteArray) (n : Int) (ids : List Int) (d : Fm) (ks : List Ck) (i1 : Option Addr) (j1 : Nat) (s1 : Option Addr) (t1 : Nat) (k1 : Option Addr) (l1 : Nat) (cap : Nat) (w : World)
    (kb koff : Nat) (hv : InC (· < w.heap.size) w (.mk 5 id nm n ids d ks) (.agg #[.int .i64 5, .int .i64 id, .string nm, .int .i64 n, .slice i1 ids.length j1, .int .i64 d.kind, .string d.name, .int .i64 d.n, .slice s1 d.scopes.length t1, .slice k1 d.kids.length l1, .slice (some ⟨kb, koff, none⟩) ks.length cap])) (hkb : kb < w.heap.size) (q : CItem) (hkc : ∀ j (h : j < 11), w.cell? ⟨kb, koff + j, none⟩ = some ([.int .i64 q.f.kind, .int .i64 q.f.id, .string q.f.name, .int .i64 q.f.n, .slice q.i1 q.f.ids.length q.j1, .int .i64 q.f.data.kind, .string q.f.data.name, .int .i64 q.f.data.n, .slice q.s1 q.f.data.scopes.length q.t1, .slice q.k1 q.f.data.kids.length q.l1, .slice q.a q.f.kids.length q.cap][j]'(by simpa using h))) (hks : ks.length = 1) (r : Bool) (hr : nodeSameC (bareCk 5) (.mk 5 id nm n [] d []) = r) (R : Value) (hR1 : r = true → R = .iface 233 (.agg #[.slice i1 ids.length j1, .int .i64 q.f.kind, .int .i64 q.f.id, .string q.f.name, .int .i64 q.f.n, .slice q.i1 q.f.ids.length q.j1, .int .i64 q.f.data.kind, .string q.f.data.name, .int .i64 q.f.data.n, .slice q.s1 q.f.data.scopes.length q.t1, .slice q.k1 q.f.data.kids.length q.l1, .slice q.a q.f.kids.length q.cap])) (hR2 : r = false → R = .nilIface) :
    Calls Try.prog 133 #[.agg #[.int .i64 5, .int .i64 id, .string nm, .int .i64 n, .slice i1 ids.length j1, .int .i64 d.kind, .string d.name, .int .i64 d.n, .slice s1 d.scopes.length t1, .slice k1 d.kids.length l1, .slice (some ⟨kb, koff, none⟩) ks.length cap]] w fun e w' => e = .returned R ∧ Below w.heap.size w w' := by
  have HV := Lib.hid hv
  have HRR := Lib.hid hr
  have HR1 := Lib.hid hR1
  have HR2 := Lib.hid hR2
  clear hv hr hR1 hR2
  have hl5 : ((ks.length : Int) == 1) = true := by rw [beq_iff_eq]; omega
  have hl6 : (0 : Int) < (ks.length : Int) := by omega
  have HKS := Lib.hid hks
  have HKC := Lib.hid hkc
  have HKB := Lib.hid hkb
  clear hks hkc hkb
  obtain ⟨w2, hw2⟩ : ∃ w2, w2 = (w.alloc (.cells #[.int .i64 5, .int .i64 id, .string nm, .int .i64 n, .slice i1 ids.length j1, .int .i64 d.kind, .string d.name, .int .i64 d.n, .slice s1 d.scopes.length t1, .slice k1 d.kids.length l1, .slice (some ⟨kb, koff, none⟩) ks.length cap] 36)).alloc (.cells #[.int .i64 5, .int .i64 id, .string nm, .int .i64 n, .slice i1 ids.length j1, .int .i64 d.kind, .string d.name, .int .i64 d.n, .slice s1 d.scopes.length t1, .slice k1 d.kids.length l1, .slice (some ⟨kb, koff, none⟩) ks.length cap] 36) := ⟨_, rfl⟩
  obtain ⟨hA, hB, hb2, hz2, hf2⟩ := two_boxes w [.int .i64 5, .int .i64 id, .string nm, .int .i64 n, .slice i1 ids.length j1, .int .i64 d.kind, .string d.name, .int .i64 d.n, .slice s1 d.scopes.length t1, .slice k1 d.kids.length l1, .slice (some ⟨kb, koff, none⟩) ks.length cap] 36 w2 hw2
  have HW2 := Lib.hid hw2
  have HA := Lib.hid hA
  have HB := Lib.hid hB
  have HB2 := Lib.hid hb2
  have hs2 : w.heap.size + 2 ≤ w2.heap.size := by omega
  clear hA hB hw2 hb2 hz2
  go_enter Try.func133, Try.ntmps133
  go_upto_region 3 with fail
  rw [← HW2.out]
  clear HW2
  have c0 : w2.cell? ⟨w.heap.size, 0, none⟩ = some (.int .i64 5) := HA.out 0 (by simp)
  have c1 : w2.cell? ⟨w.heap.size, 1, none⟩ = some (.int .i64 id) := HA.out 1 (by simp)
  have c2 : w2.cell? ⟨w.heap.size, 2, none⟩ = some (.string nm) := HA.out 2 (by simp)
  have c3 : w2.cell? ⟨w.heap.size, 3, none⟩ = some (.int .i64 n) := HA.out 3 (by simp)
  have c4 : w2.cell? ⟨w.heap.size, 4, none⟩ = some (.slice i1 ids.length j1) := HA.out 4 (by simp)
  have c5 : w2.cell? ⟨w.heap.size, 5, none⟩ = some (.int .i64 d.kind) := HA.out 5 (by simp)
  have c6 : w2.cell? ⟨w.heap.size, 6, none⟩ = some (.string d.name) := HA.out 6 (by simp)
  have c7 : w2.cell? ⟨w.heap.size, 7, none⟩ = some (.int .i64 d.n) := HA.out 7 (by simp)
  have c8 : w2.cell? ⟨w.heap.size, 8, none⟩ = some (.slice s1 d.scopes.length t1) := HA.out 8 (by simp)
  have c9 : w2.cell? ⟨w.heap.size, 9, none⟩ = some (.slice k1 d.kids.length l1) := HA.out 9 (by simp)
  have c10 : w2.cell? ⟨w.heap.size, 10, none⟩ = some (.slice (some ⟨kb, koff, none⟩) ks.length cap) := HA.out 10 (by simp)
  have y0 : w2.cell? ⟨(w.heap.size + 1), 0, none⟩ = some (.int .i64 5) := HB.out 0 (by simp)
  have y1 : w2.cell? ⟨(w.heap.size + 1), 1, none⟩ = some (.int .i64 id) := HB.out 1 (by simp)
  have y2 : w2.cell? ⟨(w.heap.size + 1), 2, none⟩ = some (.string nm) := HB.out 2 (by simp)
  have y3 : w2.cell? ⟨(w.heap.size + 1), 3, none⟩ = some (.int .i64 n) := HB.out 3 (by simp)
  have y4 : w2.cell? ⟨(w.heap.size + 1), 4, none⟩ = some (.slice i1 ids.length j1) := HB.out 4 (by simp)
  have y5 : w2.cell? ⟨(w.heap.size + 1), 5, none⟩ = some (.int .i64 d.kind) := HB.out 5 (by simp)
  have y6 : w2.cell? ⟨(w.heap.size + 1), 6, none⟩ = some (.string d.name) := HB.out 6 (by simp)
  have y7 : w2.cell? ⟨(w.heap.size + 1), 7, none⟩ = some (.int .i64 d.n) := HB.out 7 (by simp)
  have y8 : w2.cell? ⟨(w.heap.size + 1), 8, none⟩ = some (.slice s1 d.scopes.length t1) := HB.out 8 (by simp)
  have y9 : w2.cell? ⟨(w.heap.size + 1), 9, none⟩ = some (.slice k1 d.kids.length l1) := HB.out 9 (by simp)
  have y10 : w2.cell? ⟨(w.heap.size + 1), 10, none⟩ = some (.slice (some ⟨kb, koff, none⟩) ks.length cap) := HB.out 10 (by simp)
  have f4 := hf2 4
  have f10 := hf2 10
  go_upto_region 12 with fail
  have HKR : Hid (∀ j (h : j < 11), w2.cell? ⟨kb, koff + j, none⟩ = some ([.int .i64 q.f.kind, .int .i64 q.f.id, .string q.f.name, .int .i64 q.f.n, .slice q.i1 q.f.ids.length q.j1, .int .i64 q.f.data.kind, .string q.f.data.name, .int .i64 q.f.data.n, .slice q.s1 q.f.data.scopes.length q.t1, .slice q.k1 q.f.data.kids.length q.l1, .slice q.a q.f.kids.length q.cap][j]'(by simpa using h))) := fun j hj => by
    have hkb : kb < w.heap.size := HKB.out
    rw [HB2.out.cell (p := ⟨kb, koff + j, none⟩) hkb]
    exact HKC.out j hj
  have kk0 : w2.cell? ⟨kb, koff, none⟩ = some (.int .i64 q.f.kind) := HKR.out 0 (by simp)
  have kk1 : w2.cell? ⟨kb, koff + 1, none⟩ = some (.int .i64 q.f.id) := HKR.out 1 (by simp)
  have kk2 : w2.cell? ⟨kb, koff + 2, none⟩ = some (.string q.f.name) := HKR.out 2 (by simp)
  have kk3 : w2.cell? ⟨kb, koff + 3, none⟩ = some (.int .i64 q.f.n) := HKR.out 3 (by simp)
  have kk4 : w2.cell? ⟨kb, koff + 4, none⟩ = some (.slice q.i1 q.f.ids.length q.j1) := HKR.out 4 (by simp)
  have kk5 : w2.cell? ⟨kb, koff + 5, none⟩ = some (.int .i64 q.f.data.kind) := HKR.out 5 (by simp)
  have kk6 : w2.cell? ⟨kb, koff + 6, none⟩ = some (.string q.f.data.name) := HKR.out 6 (by simp)
  have kk7 : w2.cell? ⟨kb, koff + 7, none⟩ = some (.int .i64 q.f.data.n) := HKR.out 7 (by simp)
  have kk8 : w2.cell? ⟨kb, koff + 8, none⟩ = some (.slice q.s1 q.f.data.scopes.length q.t1) := HKR.out 8 (by simp)
  have kk9 : w2.cell? ⟨kb, koff + 9, none⟩ = some (.slice q.k1 q.f.data.kids.length q.l1) := HKR.out 9 (by simp)
  have kk10 : w2.cell? ⟨kb, koff + 10, none⟩ = some (.slice q.a q.f.kids.length q.cap) := HKR.out 10 (by simp)
  go_region
  clear kk0 kk1 kk2 kk3 kk4 kk5 kk6 kk7 kk8 kk9 kk10
  go_upto_region 17 with fail
  obtain ⟨w3, hw3⟩ : ∃ w3, w3 = ((w2.setCell ⟨w.heap.size + 1, 4, none⟩ (.slice none 0 0)).setCell ⟨w.heap.size + 1, 10, none⟩ (.slice none 0 0)).drew := ⟨_, rfl⟩
  have HY : Hid (RowAt w3 (w.heap.size + 1) [.int .i64 5, .int .i64 id, .string nm, .int .i64 n, .slice none 0 0, .int .i64 d.kind, .string d.name, .int .i64 d.n, .slice s1 d.scopes.length t1, .slice k1 d.kids.length l1, .slice none 0 0]) := by rw [hw3]; exact ((((HB.out).set 4 (.slice none 0 0) (by simp))).set 10 (.slice none 0 0) (by simp))
  have HC : Hid (RowAt w3 w.heap.size [.int .i64 5, .int .i64 id, .string nm, .int .i64 n, .slice i1 ids.length j1, .int .i64 d.kind, .string d.name, .int .i64 d.n, .slice s1 d.scopes.length t1, .slice k1 d.kids.length l1, .slice (some ⟨kb, koff, none⟩) ks.length cap]) := HA.out.later (by rw [hw3]; show (World.heap (World.setCell _ _ _))[_]? = _; repeat rw [Below.heap_setCell _ _ _ _ (by simp)])
  have HB3 : Hid (Below w.heap.size w w3) := by
    unfold Hid
    rw [hw3]
    exact (((HB2.out).setCell (p := ⟨w.heap.size + 1, 4, none⟩) (by simp) _).setCell (p := ⟨w.heap.size + 1, 10, none⟩) (by simp) _).drew
  have hs3 : w.heap.size + 2 ≤ w3.heap.size := by rw [hw3]; simpa [World.setCell] using hs2
  have HW3 := Lib.hid hw3
  clear hw3 c0 y0 c1 y1 c2 y2 c3 y3 c4 y4 c5 y5 c6 y6 c7 y7 c8 y8 c9 y9 c10 y10 f4 f10
  rw [← HW3.out]
  clear HW3
  have c0 : w3.cell? ⟨w.heap.size, 0, none⟩ = some (.int .i64 5) := HC.out 0 (by simp)
  have c1 : w3.cell? ⟨w.heap.size, 1, none⟩ = some (.int .i64 id) := HC.out 1 (by simp)
  have c2 : w3.cell? ⟨w.heap.size, 2, none⟩ = some (.string nm) := HC.out 2 (by simp)
  have c3 : w3.cell? ⟨w.heap.size, 3, none⟩ = some (.int .i64 n) := HC.out 3 (by simp)
  have c4 : w3.cell? ⟨w.heap.size, 4, none⟩ = some (.slice i1 ids.length j1) := HC.out 4 (by simp)
  have c5 : w3.cell? ⟨w.heap.size, 5, none⟩ = some (.int .i64 d.kind) := HC.out 5 (by simp)
  have c6 : w3.cell? ⟨w.heap.size, 6, none⟩ = some (.string d.name) := HC.out 6 (by simp)
  have c7 : w3.cell? ⟨w.heap.size, 7, none⟩ = some (.int .i64 d.n) := HC.out 7 (by simp)
  have c8 : w3.cell? ⟨w.heap.size, 8, none⟩ = some (.slice s1 d.scopes.length t1) := HC.out 8 (by simp)
  have c9 : w3.cell? ⟨w.heap.size, 9, none⟩ = some (.slice k1 d.kids.length l1) := HC.out 9 (by simp)
  have c10 : w3.cell? ⟨w.heap.size, 10, none⟩ = some (.slice (some ⟨kb, koff, none⟩) ks.length cap) := HC.out 10 (by simp)
  have y0 : w3.cell? ⟨(w.heap.size + 1), 0, none⟩ = some (.int .i64 5) := HY.out 0 (by simp)
  have y1 : w3.cell? ⟨(w.heap.size + 1), 1, none⟩ = some (.int .i64 id) := HY.out 1 (by simp)
  have y2 : w3.cell? ⟨(w.heap.size + 1), 2, none⟩ = some (.string nm) := HY.out 2 (by simp)
  have y3 : w3.cell? ⟨(w.heap.size + 1), 3, none⟩ = some (.int .i64 n) := HY.out 3 (by simp)
  have y4 : w3.cell? ⟨(w.heap.size + 1), 4, none⟩ = some (.slice none 0 0) := HY.out 4 (by simp)
  have y5 : w3.cell? ⟨(w.heap.size + 1), 5, none⟩ = some (.int .i64 d.kind) := HY.out 5 (by simp)
  have y6 : w3.cell? ⟨(w.heap.size + 1), 6, none⟩ = some (.string d.name) := HY.out 6 (by simp)
  have y7 : w3.cell? ⟨(w.heap.size + 1), 7, none⟩ = some (.int .i64 d.n) := HY.out 7 (by simp)
  have y8 : w3.cell? ⟨(w.heap.size + 1), 8, none⟩ = some (.slice s1 d.scopes.length t1) := HY.out 8 (by simp)
  have y9 : w3.cell? ⟨(w.heap.size + 1), 9, none⟩ = some (.slice k1 d.kids.length l1) := HY.out 9 (by simp)
  have y10 : w3.cell? ⟨(w.heap.size + 1), 10, none⟩ = some (.slice none 0 0) := HY.out 10 (by simp)
  have HIN := HV.out
  unfold InC at HIN
  obtain ⟨i1', j1', s1', t1', k1', l1', a', cap', e, hk, hi, hn, hm, hri, hd, h4, h5, h6⟩ := HIN
  injection e with e
  injection e with e
  simp only [List.cons.injEq, and_true, Value.slice.injEq, true_and] at e
  obtain ⟨⟨rfl, rfl⟩, ⟨rfl, rfl⟩, ⟨rfl, rfl⟩, rfl, rfl⟩ := e
  have HREST : Hid (InC (· < w3.heap.size) w3 (.mk 5 id nm n [] d []) (.agg #[.int .i64 5, .int .i64 id, .string nm, .int .i64 n, .slice none 0 0, .int .i64 d.kind, .string d.name, .int .i64 d.n, .slice s1 d.scopes.length t1, .slice k1 d.kids.length l1, .slice none 0 0])) := by
    refine InC.mono (φ := (· < w.heap.size)) (fun k hk => by show k < _; have := hk; omega) _ _ (InC.later (same_below HB3.out) _ _ ?_)
    unfold InC
    exact ⟨none, 0, s1, t1, k1, l1, none, 0, rfl, hk, hi, hn, hm, nilRow, hd, Nat.le_refl _, Nat.zero_le _, .inl rfl⟩
  have HBARE : Hid (InC (Pl w3.heap.size w3) w3 (bareCk 5) (.agg #[.int .i64 5, .int .i64 0, .string { data := #[] }, .int .i64 0, .slice none 0 0, .int .i64 0, .string { data := #[] }, .int .i64 0, .slice none 0 0, .slice none 0 0, .slice none 0 0])) := bareC_in _ _ _ (by omega)
  clear hk hi hn hm hri hd h4 h5 h6
  go_wp2_with fail
  refine (sameCoreNode_any (bareCk 5) (.mk 5 id nm n [] d []) _ _ w3 HBARE.out HREST.out (by show zeroForm.count ≤ 4294967296; decide)).mono ?_
  rintro e w4 ⟨rfl, hb4⟩
  rw [HRR.out]
  have HB4 : Hid (Below w.heap.size w w4) := HB3.out.trans (hb4.mono (by omega))
  clear hb4 c0 y0 c1 y1 c2 y2 c3 y3 c4 y4 c5 y5 c6 y6 c7 y7 c8 y8 c9 y9 c10 y10
  cases r with
  | false =>
    have HX := Lib.hid (HR2.out rfl)
    clear HR1 HR2
    go_wp2_with fail
    go_ret
    exact ⟨by rw [HX.out]; rfl, HB4.out⟩
  | true =>
    have HX := Lib.hid (HR1.out rfl)
    clear HR1 HR2
    go_wp2_with fail
    go_ret
    exact ⟨by rw [HX.out]; rfl, HB4.out⟩
set_option maxRecDepth 100000 in
set_option maxHeartbeats 4000000 in
theorem node_no5 (id : Int) (nm : ByteArray) (n : Int) (ids : List Int) (d : Fm) (ks : List Ck) (i1 : Option Addr) (j1 : Nat) (s1 : Option Addr) (t1 : Nat) (k1 : Option Addr) (l1 : Nat) (a : Option Addr) (cap : Nat) (w : World)
    (hv : InC (· < w.heap.size) w (.mk 5 id nm n ids d ks) (.agg #[.int .i64 5, .int .i64 id, .string nm, .int .i64 n, .slice i1 ids.length j1, .int .i64 d.kind, .string d.name, .int .i64 d.n, .slice s1 d.scopes.length t1, .slice k1 d.kids.length l1, .slice a ks.length cap])) (hks : ks.length ≠ 1) (r : Bool) (hr : nodeSameC (bareCk 5) (.mk 5 id nm n ids d ks) = r) (R : Value) (hR1 : r = true → R = .nilIface) (hR2 : r = false → R = .nilIface) :
    Calls Try.prog 133 #[.agg #[.int .i64 5, .int .i64 id, .string nm, .int .i64 n, .slice i1 ids.length j1, .int .i64 d.kind, .string d.name, .int .i64 d.n, .slice s1 d.scopes.length t1, .slice k1 d.kids.length l1, .slice a ks.length cap]] w fun e w' => e = .returned R ∧ Below w.heap.size w w' := by
  have HV := Lib.hid hv
  have HRR := Lib.hid hr
  have HR1 := Lib.hid hR1
  have HR2 := Lib.hid hR2
  clear hv hr hR1 hR2
  have hl5 : ((ks.length : Int) == 1) = false := by rw [beq_eq_false_iff_ne]; omega
  clear hks
  obtain ⟨w2, hw2⟩ : ∃ w2, w2 = (w.alloc (.cells #[.int .i64 5, .int .i64 id, .string nm, .int .i64 n, .slice i1 ids.length j1, .int .i64 d.kind, .string d.name, .int .i64 d.n, .slice s1 d.scopes.length t1, .slice k1 d.kids.length l1, .slice a ks.length cap] 36)).alloc (.cells #[.int .i64 5, .int .i64 id, .string nm, .int .i64 n, .slice i1 ids.length j1, .int .i64 d.kind, .string d.name, .int .i64 d.n, .slice s1 d.scopes.length t1, .slice k1 d.kids.length l1, .slice a ks.length cap] 36) := ⟨_, rfl⟩
  obtain ⟨hA, hB, hb2, hz2, hf2⟩ := two_boxes w [.int .i64 5, .int .i64 id, .string nm, .int .i64 n, .slice i1 ids.length j1, .int .i64 d.kind, .string d.name, .int .i64 d.n, .slice s1 d.scopes.length t1, .slice k1 d.kids.length l1, .slice a ks.length cap] 36 w2 hw2
  have HW2 := Lib.hid hw2
  have HA := Lib.hid hA
  have HB := Lib.hid hB
  have HB2 := Lib.hid hb2
  have hs2 : w.heap.size + 2 ≤ w2.heap.size := by omega
  clear hA hB hw2 hb2 hz2
  go_enter Try.func133, Try.ntmps133
  go_upto_region 3 with fail
  rw [← HW2.out]
  clear HW2
  have c0 : w2.cell? ⟨w.heap.size, 0, none⟩ = some (.int .i64 5) := HA.out 0 (by simp)
  have c1 : w2.cell? ⟨w.heap.size, 1, none⟩ = some (.int .i64 id) := HA.out 1 (by simp)
  have c2 : w2.cell? ⟨w.heap.size, 2, none⟩ = some (.string nm) := HA.out 2 (by simp)
  have c3 : w2.cell? ⟨w.heap.size, 3, none⟩ = some (.int .i64 n) := HA.out 3 (by simp)
  have c4 : w2.cell? ⟨w.heap.size, 4, none⟩ = some (.slice i1 ids.length j1) := HA.out 4 (by simp)
  have c5 : w2.cell? ⟨w.heap.size, 5, none⟩ = some (.int .i64 d.kind) := HA.out 5 (by simp)
  have c6 : w2.cell? ⟨w.heap.size, 6, none⟩ = some (.string d.name) := HA.out 6 (by simp)
  have c7 : w2.cell? ⟨w.heap.size, 7, none⟩ = some (.int .i64 d.n) := HA.out 7 (by simp)
  have c8 : w2.cell? ⟨w.heap.size, 8, none⟩ = some (.slice s1 d.scopes.length t1) := HA.out 8 (by simp)
  have c9 : w2.cell? ⟨w.heap.size, 9, none⟩ = some (.slice k1 d.kids.length l1) := HA.out 9 (by simp)
  have c10 : w2.cell? ⟨w.heap.size, 10, none⟩ = some (.slice a ks.length cap) := HA.out 10 (by simp)
  have y0 : w2.cell? ⟨(w.heap.size + 1), 0, none⟩ = some (.int .i64 5) := HB.out 0 (by simp)
  have y1 : w2.cell? ⟨(w.heap.size + 1), 1, none⟩ = some (.int .i64 id) := HB.out 1 (by simp)
  have y2 : w2.cell? ⟨(w.heap.size + 1), 2, none⟩ = some (.string nm) := HB.out 2 (by simp)
  have y3 : w2.cell? ⟨(w.heap.size + 1), 3, none⟩ = some (.int .i64 n) := HB.out 3 (by simp)
  have y4 : w2.cell? ⟨(w.heap.size + 1), 4, none⟩ = some (.slice i1 ids.length j1) := HB.out 4 (by simp)
  have y5 : w2.cell? ⟨(w.heap.size + 1), 5, none⟩ = some (.int .i64 d.kind) := HB.out 5 (by simp)
  have y6 : w2.cell? ⟨(w.heap.size + 1), 6, none⟩ = some (.string d.name) := HB.out 6 (by simp)
  have y7 : w2.cell? ⟨(w.heap.size + 1), 7, none⟩ = some (.int .i64 d.n) := HB.out 7 (by simp)
  have y8 : w2.cell? ⟨(w.heap.size + 1), 8, none⟩ = some (.slice s1 d.scopes.length t1) := HB.out 8 (by simp)
  have y9 : w2.cell? ⟨(w.heap.size + 1), 9, none⟩ = some (.slice k1 d.kids.length l1) := HB.out 9 (by simp)
  have y10 : w2.cell? ⟨(w.heap.size + 1), 10, none⟩ = some (.slice a ks.length cap) := HB.out 10 (by simp)

  go_upto_region 17 with fail
  obtain ⟨w3, hw3⟩ : ∃ w3, w3 = w2 := ⟨_, rfl⟩
  have HY : Hid (RowAt w3 (w.heap.size + 1) [.int .i64 5, .int .i64 id, .string nm, .int .i64 n, .slice i1 ids.length j1, .int .i64 d.kind, .string d.name, .int .i64 d.n, .slice s1 d.scopes.length t1, .slice k1 d.kids.length l1, .slice a ks.length cap]) := by rw [hw3]; exact HB.out
  have HC : Hid (RowAt w3 w.heap.size [.int .i64 5, .int .i64 id, .string nm, .int .i64 n, .slice i1 ids.length j1, .int .i64 d.kind, .string d.name, .int .i64 d.n, .slice s1 d.scopes.length t1, .slice k1 d.kids.length l1, .slice a ks.length cap]) := by rw [hw3]; exact HA.out
  have HB3 : Hid (Below w.heap.size w w3) := by rw [hw3]; exact HB2.out
  have hs3 : w.heap.size + 2 ≤ w3.heap.size := by rw [hw3]; exact hs2
  have HW3 := Lib.hid hw3
  clear hw3 c0 y0 c1 y1 c2 y2 c3 y3 c4 y4 c5 y5 c6 y6 c7 y7 c8 y8 c9 y9 c10 y10
  rw [← HW3.out]
  clear HW3
  have c0 : w3.cell? ⟨w.heap.size, 0, none⟩ = some (.int .i64 5) := HC.out 0 (by simp)
  have c1 : w3.cell? ⟨w.heap.size, 1, none⟩ = some (.int .i64 id) := HC.out 1 (by simp)
  have c2 : w3.cell? ⟨w.heap.size, 2, none⟩ = some (.string nm) := HC.out 2 (by simp)
  have c3 : w3.cell? ⟨w.heap.size, 3, none⟩ = some (.int .i64 n) := HC.out 3 (by simp)
  have c4 : w3.cell? ⟨w.heap.size, 4, none⟩ = some (.slice i1 ids.length j1) := HC.out 4 (by simp)
  have c5 : w3.cell? ⟨w.heap.size, 5, none⟩ = some (.int .i64 d.kind) := HC.out 5 (by simp)
  have c6 : w3.cell? ⟨w.heap.size, 6, none⟩ = some (.string d.name) := HC.out 6 (by simp)
  have c7 : w3.cell? ⟨w.heap.size, 7, none⟩ = some (.int .i64 d.n) := HC.out 7 (by simp)
  have c8 : w3.cell? ⟨w.heap.size, 8, none⟩ = some (.slice s1 d.scopes.length t1) := HC.out 8 (by simp)
  have c9 : w3.cell? ⟨w.heap.size, 9, none⟩ = some (.slice k1 d.kids.length l1) := HC.out 9 (by simp)
  have c10 : w3.cell? ⟨w.heap.size, 10, none⟩ = some (.slice a ks.length cap) := HC.out 10 (by simp)
  have y0 : w3.cell? ⟨(w.heap.size + 1), 0, none⟩ = some (.int .i64 5) := HY.out 0 (by simp)
  have y1 : w3.cell? ⟨(w.heap.size + 1), 1, none⟩ = some (.int .i64 id) := HY.out 1 (by simp)
  have y2 : w3.cell? ⟨(w.heap.size + 1), 2, none⟩ = some (.string nm) := HY.out 2 (by simp)
  have y3 : w3.cell? ⟨(w.heap.size + 1), 3, none⟩ = some (.int .i64 n) := HY.out 3 (by simp)
  have y4 : w3.cell? ⟨(w.heap.size + 1), 4, none⟩ = some (.slice i1 ids.length j1) := HY.out 4 (by simp)
  have y5 : w3.cell? ⟨(w.heap.size + 1), 5, none⟩ = some (.int .i64 d.kind) := HY.out 5 (by simp)
  have y6 : w3.cell? ⟨(w.heap.size + 1), 6, none⟩ = some (.string d.name) := HY.out 6 (by simp)
  have y7 : w3.cell? ⟨(w.heap.size + 1), 7, none⟩ = some (.int .i64 d.n) := HY.out 7 (by simp)
  have y8 : w3.cell? ⟨(w.heap.size + 1), 8, none⟩ = some (.slice s1 d.scopes.length t1) := HY.out 8 (by simp)
  have y9 : w3.cell? ⟨(w.heap.size + 1), 9, none⟩ = some (.slice k1 d.kids.length l1) := HY.out 9 (by simp)
  have y10 : w3.cell? ⟨(w.heap.size + 1), 10, none⟩ = some (.slice a ks.length cap) := HY.out 10 (by simp)
  have HIN := HV.out
  unfold InC at HIN
  obtain ⟨i1', j1', s1', t1', k1', l1', a', cap', e, hk, hi, hn, hm, hri, hd, h4, h5, h6⟩ := HIN
  injection e with e
  injection e with e
  simp only [List.cons.injEq, and_true, Value.slice.injEq, true_and] at e
  obtain ⟨⟨rfl, rfl⟩, ⟨rfl, rfl⟩, ⟨rfl, rfl⟩, rfl, rfl⟩ := e
  have HREST : Hid (InC (· < w3.heap.size) w3 (.mk 5 id nm n ids d ks) (.agg #[.int .i64 5, .int .i64 id, .string nm, .int .i64 n, .slice i1 ids.length j1, .int .i64 d.kind, .string d.name, .int .i64 d.n, .slice s1 d.scopes.length t1, .slice k1 d.kids.length l1, .slice a ks.length cap])) := by
    refine InC.mono (φ := (· < w.heap.size)) (fun k hk => by show k < _; have := hk; omega) _ _ (InC.later (same_below HB3.out) _ _ ?_)
    unfold InC
    exact ⟨i1, j1, s1, t1, k1, l1, a, cap, rfl, hk, hi, hn, hm, hri, hd, h4, h5, h6⟩
  have HBARE : Hid (InC (Pl w3.heap.size w3) w3 (bareCk 5) (.agg #[.int .i64 5, .int .i64 0, .string { data := #[] }, .int .i64 0, .slice none 0 0, .int .i64 0, .string { data := #[] }, .int .i64 0, .slice none 0 0, .slice none 0 0, .slice none 0 0])) := bareC_in _ _ _ (by omega)
  clear hk hi hn hm hri hd h4 h5 h6
  go_wp2_with fail
  refine (sameCoreNode_any (bareCk 5) (.mk 5 id nm n ids d ks) _ _ w3 HBARE.out HREST.out (by show zeroForm.count ≤ 4294967296; decide)).mono ?_
  rintro e w4 ⟨rfl, hb4⟩
  rw [HRR.out]
  have HB4 : Hid (Below w.heap.size w w4) := HB3.out.trans (hb4.mono (by omega))
  clear hb4 c0 y0 c1 y1 c2 y2 c3 y3 c4 y4 c5 y5 c6 y6 c7 y7 c8 y8 c9 y9 c10 y10
  cases r with
  | false =>
    have HX := Lib.hid (HR2.out rfl)
    clear HR1 HR2
    go_wp2_with fail
    go_ret
    exact ⟨by rw [HX.out]; rfl, HB4.out⟩
  | true =>
    have HX := Lib.hid (HR1.out rfl)
    clear HR1 HR2
    go_wp2_with fail
    go_ret
    exact ⟨by rw [HX.out]; rfl, HB4.out⟩
set_option maxRecDepth 100000 in
set_option maxHeartbeats 4000000 in
theorem node_no6 (id : Int) (nm : ByteArray) (n : Int) (ids : List Int) (d : Fm) (ks : List Ck) (i1 : Option Addr) (j1 : Nat) (s1 : Option Addr) (t1 : Nat) (k1 : Option Addr) (l1 : Nat) (a : Option Addr) (cap : Nat) (w : World)
    (hv : InC (· < w.heap.size) w (.mk 6 id nm n ids d ks) (.agg #[.int .i64 6, .int .i64 id, .string nm, .int .i64 n, .slice i1 ids.length j1, .int .i64 d.kind, .string d.name, .int .i64 d.n, .slice s1 d.scopes.length t1, .slice k1 d.kids.length l1, .slice a ks.length cap])) (hks : ¬ 0 < ks.length) (r : Bool) (hr : nodeSameC (bareCk 6) (.mk 6 id nm n ids d ks) = r) (R : Value) (hR1 : r = true → R = .nilIface) (hR2 : r = false → R = .nilIface) :
    Calls Try.prog 133 #[.agg #[.int .i64 6, .int .i64 id, .string nm, .int .i64 n, .slice i1 ids.length j1, .int .i64 d.kind, .string d.name, .int .i64 d.n, .slice s1 d.scopes.length t1, .slice k1 d.kids.length l1, .slice a ks.length cap]] w fun e w' => e = .returned R ∧ Below w.heap.size w w' := by
  have HV := Lib.hid hv
  have HRR := Lib.hid hr
  have HR1 := Lib.hid hR1
  have HR2 := Lib.hid hR2
  clear hv hr hR1 hR2
  have hl5 : decide ((0 : Int) < (ks.length : Int)) = false := by rw [decide_eq_false_iff_not]; omega
  have hl6 : decide (0 < ks.length) = false := by rw [decide_eq_false_iff_not]; exact hks
  clear hks
  obtain ⟨w2, hw2⟩ : ∃ w2, w2 = (w.alloc (.cells #[.int .i64 6, .int .i64 id, .string nm, .int .i64 n, .slice i1 ids.length j1, .int .i64 d.kind, .string d.name, .int .i64 d.n, .slice s1 d.scopes.length t1, .slice k1 d.kids.length l1, .slice a ks.length cap] 36)).alloc (.cells #[.int .i64 6, .int .i64 id, .string nm, .int .i64 n, .slice i1 ids.length j1, .int .i64 d.kind, .string d.name, .int .i64 d.n, .slice s1 d.scopes.length t1, .slice k1 d.kids.length l1, .slice a ks.length cap] 36) := ⟨_, rfl⟩
  obtain ⟨hA, hB, hb2, hz2, hf2⟩ := two_boxes w [.int .i64 6, .int .i64 id, .string nm, .int .i64 n, .slice i1 ids.length j1, .int .i64 d.kind, .string d.name, .int .i64 d.n, .slice s1 d.scopes.length t1, .slice k1 d.kids.length l1, .slice a ks.length cap] 36 w2 hw2
  have HW2 := Lib.hid hw2
  have HA := Lib.hid hA
  have HB := Lib.hid hB
  have HB2 := Lib.hid hb2
  have hs2 : w.heap.size + 2 ≤ w2.heap.size := by omega
  clear hA hB hw2 hb2 hz2
  go_enter Try.func133, Try.ntmps133
  go_upto_region 3 with fail
  rw [← HW2.out]
  clear HW2
  have c0 : w2.cell? ⟨w.heap.size, 0, none⟩ = some (.int .i64 6) := HA.out 0 (by simp)
  have c1 : w2.cell? ⟨w.heap.size, 1, none⟩ = some (.int .i64 id) := HA.out 1 (by simp)
  have c2 : w2.cell? ⟨w.heap.size, 2, none⟩ = some (.string nm) := HA.out 2 (by simp)
  have c3 : w2.cell? ⟨w.heap.size, 3, none⟩ = some (.int .i64 n) := HA.out 3 (by simp)
  have c4 : w2.cell? ⟨w.heap.size, 4, none⟩ = some (.slice i1 ids.length j1) := HA.out 4 (by simp)
  have c5 : w2.cell? ⟨w.heap.size, 5, none⟩ = some (.int .i64 d.kind) := HA.out 5 (by simp)
  have c6 : w2.cell? ⟨w.heap.size, 6, none⟩ = some (.string d.name) := HA.out 6 (by simp)
  have c7 : w2.cell? ⟨w.heap.size, 7, none⟩ = some (.int .i64 d.n) := HA.out 7 (by simp)
  have c8 : w2.cell? ⟨w.heap.size, 8, none⟩ = some (.slice s1 d.scopes.length t1) := HA.out 8 (by simp)
  have c9 : w2.cell? ⟨w.heap.size, 9, none⟩ = some (.slice k1 d.kids.length l1) := HA.out 9 (by simp)
  have c10 : w2.cell? ⟨w.heap.size, 10, none⟩ = some (.slice a ks.length cap) := HA.out 10 (by simp)
  have y0 : w2.cell? ⟨(w.heap.size + 1), 0, none⟩ = some (.int .i64 6) := HB.out 0 (by simp)
  have y1 : w2.cell? ⟨(w.heap.size + 1), 1, none⟩ = some (.int .i64 id) := HB.out 1 (by simp)
  have y2 : w2.cell? ⟨(w.heap.size + 1), 2, none⟩ = some (.string nm) := HB.out 2 (by simp)
  have y3 : w2.cell? ⟨(w.heap.size + 1), 3, none⟩ = some (.int .i64 n) := HB.out 3 (by simp)
  have y4 : w2.cell? ⟨(w.heap.size + 1), 4, none⟩ = some (.slice i1 ids.length j1) := HB.out 4 (by simp)
  have y5 : w2.cell? ⟨(w.heap.size + 1), 5, none⟩ = some (.int .i64 d.kind) := HB.out 5 (by simp)
  have y6 : w2.cell? ⟨(w.heap.size + 1), 6, none⟩ = some (.string d.name) := HB.out 6 (by simp)
  have y7 : w2.cell? ⟨(w.heap.size + 1), 7, none⟩ = some (.int .i64 d.n) := HB.out 7 (by simp)
  have y8 : w2.cell? ⟨(w.heap.size + 1), 8, none⟩ = some (.slice s1 d.scopes.length t1) := HB.out 8 (by simp)
  have y9 : w2.cell? ⟨(w.heap.size + 1), 9, none⟩ = some (.slice k1 d.kids.length l1) := HB.out 9 (by simp)
  have y10 : w2.cell? ⟨(w.heap.size + 1), 10, none⟩ = some (.slice a ks.length cap) := HB.out 10 (by simp)

  go_upto_region 17 with fail
  obtain ⟨w3, hw3⟩ : ∃ w3, w3 = w2 := ⟨_, rfl⟩
  have HY : Hid (RowAt w3 (w.heap.size + 1) [.int .i64 6, .int .i64 id, .string nm, .int .i64 n, .slice i1 ids.length j1, .int .i64 d.kind, .string d.name, .int .i64 d.n, .slice s1 d.scopes.length t1, .slice k1 d.kids.length l1, .slice a ks.length cap]) := by rw [hw3]; exact HB.out
  have HC : Hid (RowAt w3 w.heap.size [.int .i64 6, .int .i64 id, .string nm, .int .i64 n, .slice i1 ids.length j1, .int .i64 d.kind, .string d.name, .int .i64 d.n, .slice s1 d.scopes.length t1, .slice k1 d.kids.length l1, .slice a ks.length cap]) := by rw [hw3]; exact HA.out
  have HB3 : Hid (Below w.heap.size w w3) := by rw [hw3]; exact HB2.out
  have hs3 : w.heap.size + 2 ≤ w3.heap.size := by rw [hw3]; exact hs2
  have HW3 := Lib.hid hw3
  clear hw3 c0 y0 c1 y1 c2 y2 c3 y3 c4 y4 c5 y5 c6 y6 c7 y7 c8 y8 c9 y9 c10 y10
  rw [← HW3.out]
  clear HW3
  have c0 : w3.cell? ⟨w.heap.size, 0, none⟩ = some (.int .i64 6) := HC.out 0 (by simp)
  have c1 : w3.cell? ⟨w.heap.size, 1, none⟩ = some (.int .i64 id) := HC.out 1 (by simp)
  have c2 : w3.cell? ⟨w.heap.size, 2, none⟩ = some (.string nm) := HC.out 2 (by simp)
  have c3 : w3.cell? ⟨w.heap.size, 3, none⟩ = some (.int .i64 n) := HC.out 3 (by simp)
  have c4 : w3.cell? ⟨w.heap.size, 4, none⟩ = some (.slice i1 ids.length j1) := HC.out 4 (by simp)
  have c5 : w3.cell? ⟨w.heap.size, 5, none⟩ = some (.int .i64 d.kind) := HC.out 5 (by simp)
  have c6 : w3.cell? ⟨w.heap.size, 6, none⟩ = some (.string d.name) := HC.out 6 (by simp)
  have c7 : w3.cell? ⟨w.heap.size, 7, none⟩ = some (.int .i64 d.n) := HC.out 7 (by simp)
  have c8 : w3.cell? ⟨w.heap.size, 8, none⟩ = some (.slice s1 d.scopes.length t1) := HC.out 8 (by simp)
  have c9 : w3.cell? ⟨w.heap.size, 9, none⟩ = some (.slice k1 d.kids.length l1) := HC.out 9 (by simp)
  have c10 : w3.cell? ⟨w.heap.size, 10, none⟩ = some (.slice a ks.length cap) := HC.out 10 (by simp)
  have y0 : w3.cell? ⟨(w.heap.size + 1), 0, none⟩ = some (.int .i64 6) := HY.out 0 (by simp)
  have y1 : w3.cell? ⟨(w.heap.size + 1), 1, none⟩ = some (.int .i64 id) := HY.out 1 (by simp)
  have y2 : w3.cell? ⟨(w.heap.size + 1), 2, none⟩ = some (.string nm) := HY.out 2 (by simp)
  have y3 : w3.cell? ⟨(w.heap.size + 1), 3, none⟩ = some (.int .i64 n) := HY.out 3 (by simp)
  have y4 : w3.cell? ⟨(w.heap.size + 1), 4, none⟩ = some (.slice i1 ids.length j1) := HY.out 4 (by simp)
  have y5 : w3.cell? ⟨(w.heap.size + 1), 5, none⟩ = some (.int .i64 d.kind) := HY.out 5 (by simp)
  have y6 : w3.cell? ⟨(w.heap.size + 1), 6, none⟩ = some (.string d.name) := HY.out 6 (by simp)
  have y7 : w3.cell? ⟨(w.heap.size + 1), 7, none⟩ = some (.int .i64 d.n) := HY.out 7 (by simp)
  have y8 : w3.cell? ⟨(w.heap.size + 1), 8, none⟩ = some (.slice s1 d.scopes.length t1) := HY.out 8 (by simp)
  have y9 : w3.cell? ⟨(w.heap.size + 1), 9, none⟩ = some (.slice k1 d.kids.length l1) := HY.out 9 (by simp)
  have y10 : w3.cell? ⟨(w.heap.size + 1), 10, none⟩ = some (.slice a ks.length cap) := HY.out 10 (by simp)
  have HIN := HV.out
  unfold InC at HIN
  obtain ⟨i1', j1', s1', t1', k1', l1', a', cap', e, hk, hi, hn, hm, hri, hd, h4, h5, h6⟩ := HIN
  injection e with e
  injection e with e
  simp only [List.cons.injEq, and_true, Value.slice.injEq, true_and] at e
  obtain ⟨⟨rfl, rfl⟩, ⟨rfl, rfl⟩, ⟨rfl, rfl⟩, rfl, rfl⟩ := e
  have HREST : Hid (InC (· < w3.heap.size) w3 (.mk 6 id nm n ids d ks) (.agg #[.int .i64 6, .int .i64 id, .string nm, .int .i64 n, .slice i1 ids.length j1, .int .i64 d.kind, .string d.name, .int .i64 d.n, .slice s1 d.scopes.length t1, .slice k1 d.kids.length l1, .slice a ks.length cap])) := by
    refine InC.mono (φ := (· < w.heap.size)) (fun k hk => by show k < _; have := hk; omega) _ _ (InC.later (same_below HB3.out) _ _ ?_)
    unfold InC
    exact ⟨i1, j1, s1, t1, k1, l1, a, cap, rfl, hk, hi, hn, hm, hri, hd, h4, h5, h6⟩
  have HBARE : Hid (InC (Pl w3.heap.size w3) w3 (bareCk 6) (.agg #[.int .i64 6, .int .i64 0, .string { data := #[] }, .int .i64 0, .slice none 0 0, .int .i64 0, .string { data := #[] }, .int .i64 0, .slice none 0 0, .slice none 0 0, .slice none 0 0])) := bareC_in _ _ _ (by omega)
  clear hk hi hn hm hri hd h4 h5 h6
  go_wp2_with fail
  refine (sameCoreNode_any (bareCk 6) (.mk 6 id nm n ids d ks) _ _ w3 HBARE.out HREST.out (by show zeroForm.count ≤ 4294967296; decide)).mono ?_
  rintro e w4 ⟨rfl, hb4⟩
  rw [HRR.out]
  have HB4 : Hid (Below w.heap.size w w4) := HB3.out.trans (hb4.mono (by omega))
  clear hb4 c0 y0 c1 y1 c2 y2 c3 y3 c4 y4 c5 y5 c6 y6 c7 y7 c8 y8 c9 y9 c10 y10
  cases r with
  | false =>
    have HX := Lib.hid (HR2.out rfl)
    clear HR1 HR2
    go_wp2_with fail
    go_ret
    exact ⟨by rw [HX.out]; rfl, HB4.out⟩
  | true =>
    have HX := Lib.hid (HR1.out rfl)
    clear HR1 HR2
    go_wp2_with fail
    go_ret
    exact ⟨by rw [HX.out]; rfl, HB4.out⟩
set_option maxRecDepth 100000 in
set_option maxHeartbeats 4000000 in
theorem node_no7 (id : Int) (nm : ByteArray) (n : Int) (ids : List Int) (d : Fm) (ks : List Ck) (i1 : Option Addr) (j1 : Nat) (s1 : Option Addr) (t1 : Nat) (k1 : Option Addr) (l1 : Nat) (a : Option Addr) (cap : Nat) (w : World)
    (hv : InC (· < w.heap.size) w (.mk 7 id nm n ids d ks) (.agg #[.int .i64 7, .int .i64 id, .string nm, .int .i64 n, .slice i1 ids.length j1, .int .i64 d.kind, .string d.name, .int .i64 d.n, .slice s1 d.scopes.length t1, .slice k1 d.kids.length l1, .slice a ks.length cap])) (hks : ks.length ≠ 3) (r : Bool) (hr : nodeSameC (bareCk 7) (.mk 7 id nm n ids d ks) = r) (R : Value) (hR1 : r = true → R = .nilIface) (hR2 : r = false → R = .nilIface) :
    Calls Try.prog 133 #[.agg #[.int .i64 7, .int .i64 id, .string nm, .int .i64 n, .slice i1 ids.length j1, .int .i64 d.kind, .string d.name, .int .i64 d.n, .slice s1 d.scopes.length t1, .slice k1 d.kids.length l1, .slice a ks.length cap]] w fun e w' => e = .returned R ∧ Below w.heap.size w w' := by
  have HV := Lib.hid hv
  have HRR := Lib.hid hr
  have HR1 := Lib.hid hR1
  have HR2 := Lib.hid hR2
  clear hv hr hR1 hR2
  have hl5 : ((ks.length : Int) == 3) = false := by rw [beq_eq_false_iff_ne]; omega
  clear hks
  obtain ⟨w2, hw2⟩ : ∃ w2, w2 = (w.alloc (.cells #[.int .i64 7, .int .i64 id, .string nm, .int .i64 n, .slice i1 ids.length j1, .int .i64 d.kind, .string d.name, .int .i64 d.n, .slice s1 d.scopes.length t1, .slice k1 d.kids.length l1, .slice a ks.length cap] 36)).alloc (.cells #[.int .i64 7, .int .i64 id, .string nm, .int .i64 n, .slice i1 ids.length j1, .int .i64 d.kind, .string d.name, .int .i64 d.n, .slice s1 d.scopes.length t1, .slice k1 d.kids.length l1, .slice a ks.length cap] 36) := ⟨_, rfl⟩
  obtain ⟨hA, hB, hb2, hz2, hf2⟩ := two_boxes w [.int .i64 7, .int .i64 id, .string nm, .int .i64 n, .slice i1 ids.length j1, .int .i64 d.kind, .string d.name, .int .i64 d.n, .slice s1 d.scopes.length t1, .slice k1 d.kids.length l1, .slice a ks.length cap] 36 w2 hw2
  have HW2 := Lib.hid hw2
  have HA := Lib.hid hA
  have HB := Lib.hid hB
  have HB2 := Lib.hid hb2
  have hs2 : w.heap.size + 2 ≤ w2.heap.size := by omega
  clear hA hB hw2 hb2 hz2
  go_enter Try.func133, Try.ntmps133
  go_upto_region 3 with fail
  rw [← HW2.out]
  clear HW2
  have c0 : w2.cell? ⟨w.heap.size, 0, none⟩ = some (.int .i64 7) := HA.out 0 (by simp)
  have c1 : w2.cell? ⟨w.heap.size, 1, none⟩ = some (.int .i64 id) := HA.out 1 (by simp)
  have c2 : w2.cell? ⟨w.heap.size, 2, none⟩ = some (.string nm) := HA.out 2 (by simp)
  have c3 : w2.cell? ⟨w.heap.size, 3, none⟩ = some (.int .i64 n) := HA.out 3 (by simp)
  have c4 : w2.cell? ⟨w.heap.size, 4, none⟩ = some (.slice i1 ids.length j1) := HA.out 4 (by simp)
  have c5 : w2.cell? ⟨w.heap.size, 5, none⟩ = some (.int .i64 d.kind) := HA.out 5 (by simp)
  have c6 : w2.cell? ⟨w.heap.size, 6, none⟩ = some (.string d.name) := HA.out 6 (by simp)
  have c7 : w2.cell? ⟨w.heap.size, 7, none⟩ = some (.int .i64 d.n) := HA.out 7 (by simp)
  have c8 : w2.cell? ⟨w.heap.size, 8, none⟩ = some (.slice s1 d.scopes.length t1) := HA.out 8 (by simp)
  have c9 : w2.cell? ⟨w.heap.size, 9, none⟩ = some (.slice k1 d.kids.length l1) := HA.out 9 (by simp)
  have c10 : w2.cell? ⟨w.heap.size, 10, none⟩ = some (.slice a ks.length cap) := HA.out 10 (by simp)
  have y0 : w2.cell? ⟨(w.heap.size + 1), 0, none⟩ = some (.int .i64 7) := HB.out 0 (by simp)
  have y1 : w2.cell? ⟨(w.heap.size + 1), 1, none⟩ = some (.int .i64 id) := HB.out 1 (by simp)
  have y2 : w2.cell? ⟨(w.heap.size + 1), 2, none⟩ = some (.string nm) := HB.out 2 (by simp)
  have y3 : w2.cell? ⟨(w.heap.size + 1), 3, none⟩ = some (.int .i64 n) := HB.out 3 (by simp)
  have y4 : w2.cell? ⟨(w.heap.size + 1), 4, none⟩ = some (.slice i1 ids.length j1) := HB.out 4 (by simp)
  have y5 : w2.cell? ⟨(w.heap.size + 1), 5, none⟩ = some (.int .i64 d.kind) := HB.out 5 (by simp)
  have y6 : w2.cell? ⟨(w.heap.size + 1), 6, none⟩ = some (.string d.name) := HB.out 6 (by simp)
  have y7 : w2.cell? ⟨(w.heap.size + 1), 7, none⟩ = some (.int .i64 d.n) := HB.out 7 (by simp)
  have y8 : w2.cell? ⟨(w.heap.size + 1), 8, none⟩ = some (.slice s1 d.scopes.length t1) := HB.out 8 (by simp)
  have y9 : w2.cell? ⟨(w.heap.size + 1), 9, none⟩ = some (.slice k1 d.kids.length l1) := HB.out 9 (by simp)
  have y10 : w2.cell? ⟨(w.heap.size + 1), 10, none⟩ = some (.slice a ks.length cap) := HB.out 10 (by simp)

  go_upto_region 17 with fail
  obtain ⟨w3, hw3⟩ : ∃ w3, w3 = w2 := ⟨_, rfl⟩
  have HY : Hid (RowAt w3 (w.heap.size + 1) [.int .i64 7, .int .i64 id, .string nm, .int .i64 n, .slice i1 ids.length j1, .int .i64 d.kind, .string d.name, .int .i64 d.n, .slice s1 d.scopes.length t1, .slice k1 d.kids.length l1, .slice a ks.length cap]) := by rw [hw3]; exact HB.out
  have HC : Hid (RowAt w3 w.heap.size [.int .i64 7, .int .i64 id, .string nm, .int .i64 n, .slice i1 ids.length j1, .int .i64 d.kind, .string d.name, .int .i64 d.n, .slice s1 d.scopes.length t1, .slice k1 d.kids.length l1, .slice a ks.length cap]) := by rw [hw3]; exact HA.out
  have HB3 : Hid (Below w.heap.size w w3) := by rw [hw3]; exact HB2.out
  have hs3 : w.heap.size + 2 ≤ w3.heap.size := by rw [hw3]; exact hs2
  have HW3 := Lib.hid hw3
  clear hw3 c0 y0 c1 y1 c2 y2 c3 y3 c4 y4 c5 y5 c6 y6 c7 y7 c8 y8 c9 y9 c10 y10
  rw [← HW3.out]
  clear HW3
  have c0 : w3.cell? ⟨w.heap.size, 0, none⟩ = some (.int .i64 7) := HC.out 0 (by simp)
  have c1 : w3.cell? ⟨w.heap.size, 1, none⟩ = some (.int .i64 id) := HC.out 1 (by simp)
  have c2 : w3.cell? ⟨w.heap.size, 2, none⟩ = some (.string nm) := HC.out 2 (by simp)
  have c3 : w3.cell? ⟨w.heap.size, 3, none⟩ = some (.int .i64 n) := HC.out 3 (by simp)
  have c4 : w3.cell? ⟨w.heap.size, 4, none⟩ = some (.slice i1 ids.length j1) := HC.out 4 (by simp)
  have c5 : w3.cell? ⟨w.heap.size, 5, none⟩ = some (.int .i64 d.kind) := HC.out 5 (by simp)
  have c6 : w3.cell? ⟨w.heap.size, 6, none⟩ = some (.string d.name) := HC.out 6 (by simp)
  have c7 : w3.cell? ⟨w.heap.size, 7, none⟩ = some (.int .i64 d.n) := HC.out 7 (by simp)
  have c8 : w3.cell? ⟨w.heap.size, 8, none⟩ = some (.slice s1 d.scopes.length t1) := HC.out 8 (by simp)
  have c9 : w3.cell? ⟨w.heap.size, 9, none⟩ = some (.slice k1 d.kids.length l1) := HC.out 9 (by simp)
  have c10 : w3.cell? ⟨w.heap.size, 10, none⟩ = some (.slice a ks.length cap) := HC.out 10 (by simp)
  have y0 : w3.cell? ⟨(w.heap.size + 1), 0, none⟩ = some (.int .i64 7) := HY.out 0 (by simp)
  have y1 : w3.cell? ⟨(w.heap.size + 1), 1, none⟩ = some (.int .i64 id) := HY.out 1 (by simp)
  have y2 : w3.cell? ⟨(w.heap.size + 1), 2, none⟩ = some (.string nm) := HY.out 2 (by simp)
  have y3 : w3.cell? ⟨(w.heap.size + 1), 3, none⟩ = some (.int .i64 n) := HY.out 3 (by simp)
  have y4 : w3.cell? ⟨(w.heap.size + 1), 4, none⟩ = some (.slice i1 ids.length j1) := HY.out 4 (by simp)
  have y5 : w3.cell? ⟨(w.heap.size + 1), 5, none⟩ = some (.int .i64 d.kind) := HY.out 5 (by simp)
  have y6 : w3.cell? ⟨(w.heap.size + 1), 6, none⟩ = some (.string d.name) := HY.out 6 (by simp)
  have y7 : w3.cell? ⟨(w.heap.size + 1), 7, none⟩ = some (.int .i64 d.n) := HY.out 7 (by simp)
  have y8 : w3.cell? ⟨(w.heap.size + 1), 8, none⟩ = some (.slice s1 d.scopes.length t1) := HY.out 8 (by simp)
  have y9 : w3.cell? ⟨(w.heap.size + 1), 9, none⟩ = some (.slice k1 d.kids.length l1) := HY.out 9 (by simp)
  have y10 : w3.cell? ⟨(w.heap.size + 1), 10, none⟩ = some (.slice a ks.length cap) := HY.out 10 (by simp)
  have HIN := HV.out
  unfold InC at HIN
  obtain ⟨i1', j1', s1', t1', k1', l1', a', cap', e, hk, hi, hn, hm, hri, hd, h4, h5, h6⟩ := HIN
  injection e with e
  injection e with e
  simp only [List.cons.injEq, and_true, Value.slice.injEq, true_and] at e
  obtain ⟨⟨rfl, rfl⟩, ⟨rfl, rfl⟩, ⟨rfl, rfl⟩, rfl, rfl⟩ := e
  have HREST : Hid (InC (· < w3.heap.size) w3 (.mk 7 id nm n ids d ks) (.agg #[.int .i64 7, .int .i64 id, .string nm, .int .i64 n, .slice i1 ids.length j1, .int .i64 d.kind, .string d.name, .int .i64 d.n, .slice s1 d.scopes.length t1, .slice k1 d.kids.length l1, .slice a ks.length cap])) := by
    refine InC.mono (φ := (· < w.heap.size)) (fun k hk => by show k < _; have := hk; omega) _ _ (InC.later (same_below HB3.out) _ _ ?_)
    unfold InC
    exact ⟨i1, j1, s1, t1, k1, l1, a, cap, rfl, hk, hi, hn, hm, hri, hd, h4, h5, h6⟩
  have HBARE : Hid (InC (Pl w3.heap.size w3) w3 (bareCk 7) (.agg #[.int .i64 7, .int .i64 0, .string { data := #[] }, .int .i64 0, .slice none 0 0, .int .i64 0, .string { data := #[] }, .int .i64 0, .slice none 0 0, .slice none 0 0, .slice none 0 0])) := bareC_in _ _ _ (by omega)
  clear hk hi hn hm hri hd h4 h5 h6
  go_wp2_with fail
  refine (sameCoreNode_any (bareCk 7) (.mk 7 id nm n ids d ks) _ _ w3 HBARE.out HREST.out (by show zeroForm.count ≤ 4294967296; decide)).mono ?_
  rintro e w4 ⟨rfl, hb4⟩
  rw [HRR.out]
  have HB4 : Hid (Below w.heap.size w w4) := HB3.out.trans (hb4.mono (by omega))
  clear hb4 c0 y0 c1 y1 c2 y2 c3 y3 c4 y4 c5 y5 c6 y6 c7 y7 c8 y8 c9 y9 c10 y10
  cases r with
  | false =>
    have HX := Lib.hid (HR2.out rfl)
    clear HR1 HR2
    go_wp2_with fail
    go_ret
    exact ⟨by rw [HX.out]; rfl, HB4.out⟩
  | true =>
    have HX := Lib.hid (HR1.out rfl)
    clear HR1 HR2
    go_wp2_with fail
    go_ret
    exact ⟨by rw [HX.out]; rfl, HB4.out⟩
set_option maxRecDepth 100000 in
set_option maxHeartbeats 4000000 in
theorem node_nok (k : Int) (id : Int) (nm : ByteArray) (n : Int) (ids : List Int) (d : Fm) (ks : List Ck) (i1 : Option Addr) (j1 : Nat) (s1 : Option Addr) (t1 : Nat) (k1 : Option Addr) (l1 : Nat) (a : Option Addr) (cap : Nat) (w : World)
    (hv : InC (· < w.heap.size) w (.mk k id nm n ids d ks) (.agg #[.int .i64 k, .int .i64 id, .string nm, .int .i64 n, .slice i1 ids.length j1, .int .i64 d.kind, .string d.name, .int .i64 d.n, .slice s1 d.scopes.length t1, .slice k1 d.kids.length l1, .slice a ks.length cap])) (e1 : k ≠ 1) (e2 : k ≠ 2) (e3 : k ≠ 3) (e4 : k ≠ 4) (e5 : k ≠ 5) (e6 : k ≠ 6) (e7 : k ≠ 7) (r : Bool) (hr : nodeSameC (bareCk k) (.mk k id nm n ids d ks) = r) (R : Value) (hR1 : r = true → R = .nilIface) (hR2 : r = false → R = .nilIface) :
    Calls Try.prog 133 #[.agg #[.int .i64 k, .int .i64 id, .string nm, .int .i64 n, .slice i1 ids.length j1, .int .i64 d.kind, .string d.name, .int .i64 d.n, .slice s1 d.scopes.length t1, .slice k1 d.kids.length l1, .slice a ks.length cap]] w fun e w' => e = .returned R ∧ Below w.heap.size w w' := by
  have HV := Lib.hid hv
  have HRR := Lib.hid hr
  have HR1 := Lib.hid hR1
  have HR2 := Lib.hid hR2
  clear hv hr hR1 hR2
  have hk1 : (k == (1 : Int)) = false := by rw [beq_eq_false_iff_ne]; exact e1
  have hk2 : (k == (2 : Int)) = false := by rw [beq_eq_false_iff_ne]; exact e2
  have hk3 : (k == (3 : Int)) = false := by rw [beq_eq_false_iff_ne]; exact e3
  have hk4 : (k == (4 : Int)) = false := by rw [beq_eq_false_iff_ne]; exact e4
  have hk5 : (k == (5 : Int)) = false := by rw [beq_eq_false_iff_ne]; exact e5
  have hk6 : (k == (6 : Int)) = false := by rw [beq_eq_false_iff_ne]; exact e6
  have hk7 : (k == (7 : Int)) = false := by rw [beq_eq_false_iff_ne]; exact e7
  clear e1 e2 e3 e4 e5 e6 e7
  obtain ⟨w2, hw2⟩ : ∃ w2, w2 = (w.alloc (.cells #[.int .i64 k, .int .i64 id, .string nm, .int .i64 n, .slice i1 ids.length j1, .int .i64 d.kind, .string d.name, .int .i64 d.n, .slice s1 d.scopes.length t1, .slice k1 d.kids.length l1, .slice a ks.length cap] 36)).alloc (.cells #[.int .i64 k, .int .i64 id, .string nm, .int .i64 n, .slice i1 ids.length j1, .int .i64 d.kind, .string d.name, .int .i64 d.n, .slice s1 d.scopes.length t1, .slice k1 d.kids.length l1, .slice a ks.length cap] 36) := ⟨_, rfl⟩
  obtain ⟨hA, hB, hb2, hz2, hf2⟩ := two_boxes w [.int .i64 k, .int .i64 id, .string nm, .int .i64 n, .slice i1 ids.length j1, .int .i64 d.kind, .string d.name, .int .i64 d.n, .slice s1 d.scopes.length t1, .slice k1 d.kids.length l1, .slice a ks.length cap] 36 w2 hw2
  have HW2 := Lib.hid hw2
  have HA := Lib.hid hA
  have HB := Lib.hid hB
  have HB2 := Lib.hid hb2
  have hs2 : w.heap.size + 2 ≤ w2.heap.size := by omega
  clear hA hB hw2 hb2 hz2
  go_enter Try.func133, Try.ntmps133
  go_upto_region 3 with fail
  rw [← HW2.out]
  clear HW2
  have c0 : w2.cell? ⟨w.heap.size, 0, none⟩ = some (.int .i64 k) := HA.out 0 (by simp)
  have c1 : w2.cell? ⟨w.heap.size, 1, none⟩ = some (.int .i64 id) := HA.out 1 (by simp)
  have c2 : w2.cell? ⟨w.heap.size, 2, none⟩ = some (.string nm) := HA.out 2 (by simp)
  have c3 : w2.cell? ⟨w.heap.size, 3, none⟩ = some (.int .i64 n) := HA.out 3 (by simp)
  have c4 : w2.cell? ⟨w.heap.size, 4, none⟩ = some (.slice i1 ids.length j1) := HA.out 4 (by simp)
  have c5 : w2.cell? ⟨w.heap.size, 5, none⟩ = some (.int .i64 d.kind) := HA.out 5 (by simp)
  have c6 : w2.cell? ⟨w.heap.size, 6, none⟩ = some (.string d.name) := HA.out 6 (by simp)
  have c7 : w2.cell? ⟨w.heap.size, 7, none⟩ = some (.int .i64 d.n) := HA.out 7 (by simp)
  have c8 : w2.cell? ⟨w.heap.size, 8, none⟩ = some (.slice s1 d.scopes.length t1) := HA.out 8 (by simp)
  have c9 : w2.cell? ⟨w.heap.size, 9, none⟩ = some (.slice k1 d.kids.length l1) := HA.out 9 (by simp)
  have c10 : w2.cell? ⟨w.heap.size, 10, none⟩ = some (.slice a ks.length cap) := HA.out 10 (by simp)
  have y0 : w2.cell? ⟨(w.heap.size + 1), 0, none⟩ = some (.int .i64 k) := HB.out 0 (by simp)
  have y1 : w2.cell? ⟨(w.heap.size + 1), 1, none⟩ = some (.int .i64 id) := HB.out 1 (by simp)
  have y2 : w2.cell? ⟨(w.heap.size + 1), 2, none⟩ = some (.string nm) := HB.out 2 (by simp)
  have y3 : w2.cell? ⟨(w.heap.size + 1), 3, none⟩ = some (.int .i64 n) := HB.out 3 (by simp)
  have y4 : w2.cell? ⟨(w.heap.size + 1), 4, none⟩ = some (.slice i1 ids.length j1) := HB.out 4 (by simp)
  have y5 : w2.cell? ⟨(w.heap.size + 1), 5, none⟩ = some (.int .i64 d.kind) := HB.out 5 (by simp)
  have y6 : w2.cell? ⟨(w.heap.size + 1), 6, none⟩ = some (.string d.name) := HB.out 6 (by simp)
  have y7 : w2.cell? ⟨(w.heap.size + 1), 7, none⟩ = some (.int .i64 d.n) := HB.out 7 (by simp)
  have y8 : w2.cell? ⟨(w.heap.size + 1), 8, none⟩ = some (.slice s1 d.scopes.length t1) := HB.out 8 (by simp)
  have y9 : w2.cell? ⟨(w.heap.size + 1), 9, none⟩ = some (.slice k1 d.kids.length l1) := HB.out 9 (by simp)
  have y10 : w2.cell? ⟨(w.heap.size + 1), 10, none⟩ = some (.slice a ks.length cap) := HB.out 10 (by simp)

  go_upto_region 17 with fail
  obtain ⟨w3, hw3⟩ : ∃ w3, w3 = w2 := ⟨_, rfl⟩
  have HY : Hid (RowAt w3 (w.heap.size + 1) [.int .i64 k, .int .i64 id, .string nm, .int .i64 n, .slice i1 ids.length j1, .int .i64 d.kind, .string d.name, .int .i64 d.n, .slice s1 d.scopes.length t1, .slice k1 d.kids.length l1, .slice a ks.length cap]) := by rw [hw3]; exact HB.out
  have HC : Hid (RowAt w3 w.heap.size [.int .i64 k, .int .i64 id, .string nm, .int .i64 n, .slice i1 ids.length j1, .int .i64 d.kind, .string d.name, .int .i64 d.n, .slice s1 d.scopes.length t1, .slice k1 d.kids.length l1, .slice a ks.length cap]) := by rw [hw3]; exact HA.out
  have HB3 : Hid (Below w.heap.size w w3) := by rw [hw3]; exact HB2.out
  have hs3 : w.heap.size + 2 ≤ w3.heap.size := by rw [hw3]; exact hs2
  have HW3 := Lib.hid hw3
  clear hw3 c0 y0 c1 y1 c2 y2 c3 y3 c4 y4 c5 y5 c6 y6 c7 y7 c8 y8 c9 y9 c10 y10
  rw [← HW3.out]
  clear HW3
  have c0 : w3.cell? ⟨w.heap.size, 0, none⟩ = some (.int .i64 k) := HC.out 0 (by simp)
  have c1 : w3.cell? ⟨w.heap.size, 1, none⟩ = some (.int .i64 id) := HC.out 1 (by simp)
  have c2 : w3.cell? ⟨w.heap.size, 2, none⟩ = some (.string nm) := HC.out 2 (by simp)
  have c3 : w3.cell? ⟨w.heap.size, 3, none⟩ = some (.int .i64 n) := HC.out 3 (by simp)
  have c4 : w3.cell? ⟨w.heap.size, 4, none⟩ = some (.slice i1 ids.length j1) := HC.out 4 (by simp)
  have c5 : w3.cell? ⟨w.heap.size, 5, none⟩ = some (.int .i64 d.kind) := HC.out 5 (by simp)
  have c6 : w3.cell? ⟨w.heap.size, 6, none⟩ = some (.string d.name) := HC.out 6 (by simp)
  have c7 : w3.cell? ⟨w.heap.size, 7, none⟩ = some (.int .i64 d.n) := HC.out 7 (by simp)
  have c8 : w3.cell? ⟨w.heap.size, 8, none⟩ = some (.slice s1 d.scopes.length t1) := HC.out 8 (by simp)
  have c9 : w3.cell? ⟨w.heap.size, 9, none⟩ = some (.slice k1 d.kids.length l1) := HC.out 9 (by simp)
  have c10 : w3.cell? ⟨w.heap.size, 10, none⟩ = some (.slice a ks.length cap) := HC.out 10 (by simp)
  have y0 : w3.cell? ⟨(w.heap.size + 1), 0, none⟩ = some (.int .i64 k) := HY.out 0 (by simp)
  have y1 : w3.cell? ⟨(w.heap.size + 1), 1, none⟩ = some (.int .i64 id) := HY.out 1 (by simp)
  have y2 : w3.cell? ⟨(w.heap.size + 1), 2, none⟩ = some (.string nm) := HY.out 2 (by simp)
  have y3 : w3.cell? ⟨(w.heap.size + 1), 3, none⟩ = some (.int .i64 n) := HY.out 3 (by simp)
  have y4 : w3.cell? ⟨(w.heap.size + 1), 4, none⟩ = some (.slice i1 ids.length j1) := HY.out 4 (by simp)
  have y5 : w3.cell? ⟨(w.heap.size + 1), 5, none⟩ = some (.int .i64 d.kind) := HY.out 5 (by simp)
  have y6 : w3.cell? ⟨(w.heap.size + 1), 6, none⟩ = some (.string d.name) := HY.out 6 (by simp)
  have y7 : w3.cell? ⟨(w.heap.size + 1), 7, none⟩ = some (.int .i64 d.n) := HY.out 7 (by simp)
  have y8 : w3.cell? ⟨(w.heap.size + 1), 8, none⟩ = some (.slice s1 d.scopes.length t1) := HY.out 8 (by simp)
  have y9 : w3.cell? ⟨(w.heap.size + 1), 9, none⟩ = some (.slice k1 d.kids.length l1) := HY.out 9 (by simp)
  have y10 : w3.cell? ⟨(w.heap.size + 1), 10, none⟩ = some (.slice a ks.length cap) := HY.out 10 (by simp)
  have HIN := HV.out
  unfold InC at HIN
  obtain ⟨i1', j1', s1', t1', k1', l1', a', cap', e, hk, hi, hn, hm, hri, hd, h4, h5, h6⟩ := HIN
  injection e with e
  injection e with e
  simp only [List.cons.injEq, and_true, Value.slice.injEq, true_and] at e
  obtain ⟨⟨rfl, rfl⟩, ⟨rfl, rfl⟩, ⟨rfl, rfl⟩, rfl, rfl⟩ := e
  have HREST : Hid (InC (· < w3.heap.size) w3 (.mk k id nm n ids d ks) (.agg #[.int .i64 k, .int .i64 id, .string nm, .int .i64 n, .slice i1 ids.length j1, .int .i64 d.kind, .string d.name, .int .i64 d.n, .slice s1 d.scopes.length t1, .slice k1 d.kids.length l1, .slice a ks.length cap])) := by
    refine InC.mono (φ := (· < w.heap.size)) (fun k hk => by show k < _; have := hk; omega) _ _ (InC.later (same_below HB3.out) _ _ ?_)
    unfold InC
    exact ⟨i1, j1, s1, t1, k1, l1, a, cap, rfl, hk, hi, hn, hm, hri, hd, h4, h5, h6⟩
  have HBARE : Hid (InC (Pl w3.heap.size w3) w3 (bareCk k) (.agg #[.int .i64 k, .int .i64 0, .string { data := #[] }, .int .i64 0, .slice none 0 0, .int .i64 0, .string { data := #[] }, .int .i64 0, .slice none 0 0, .slice none 0 0, .slice none 0 0])) := bareC_in _ _ _ (by exact hk)
  clear hi hn hm hri hd h4 h5 h6
  go_wp2_with fail
  refine (sameCoreNode_any (bareCk k) (.mk k id nm n ids d ks) _ _ w3 HBARE.out HREST.out (by show zeroForm.count ≤ 4294967296; decide)).mono ?_
  rintro e w4 ⟨rfl, hb4⟩
  rw [HRR.out]
  have HB4 : Hid (Below w.heap.size w w4) := HB3.out.trans (hb4.mono (by omega))
  clear hb4 c0 y0 c1 y1 c2 y2 c3 y3 c4 y4 c5 y5 c6 y6 c7 y7 c8 y8 c9 y9 c10 y10
  cases r with
  | false =>
    have HX := Lib.hid (HR2.out rfl)
    clear HR1 HR2
    go_wp2_with fail
    go_ret
    exact ⟨by rw [HX.out]; rfl, HB4.out⟩
  | true =>
    have HX := Lib.hid (HR1.out rfl)
    clear HR1 HR2
    go_wp2_with fail
    go_ret
    exact ⟨by rw [HX.out]; rfl, HB4.out⟩
theorem node_none (id : Int) (nm : ByteArray) (n : Int) (ids : List Int) (d : Fm) (ks : List Ck) (i1 : Option Addr) (j1 : Nat) (s1 : Option Addr) (t1 : Nat) (k1 : Option Addr) (l1 : Nat) (a : Option Addr) (cap : Nat) (w : World) (k : Int)
    (e1 : k ≠ 1) (e2 : k ≠ 2) (e3 : k ≠ 3) (e4 : k ≠ 4) (e5 : ¬ (k = 5 ∧ ks.length = 1)) (e6 : ¬ (k = 6 ∧ 0 < ks.length)) (e7 : ¬ (k = 7 ∧ ks.length = 3))
    (hv : InC (· < w.heap.size) w (.mk k id nm n ids d ks) (.agg #[.int .i64 k, .int .i64 id, .string nm, .int .i64 n, .slice i1 ids.length j1, .int .i64 d.kind, .string d.name, .int .i64 d.n, .slice s1 d.scopes.length t1, .slice k1 d.kids.length l1, .slice a ks.length cap])) :
    Calls Try.prog 133 #[.agg #[.int .i64 k, .int .i64 id, .string nm, .int .i64 n, .slice i1 ids.length j1, .int .i64 d.kind, .string d.name, .int .i64 d.n, .slice s1 d.scopes.length t1, .slice k1 d.kids.length l1, .slice a ks.length cap]] w fun e w' => e = .returned (.nilIface) ∧ Below w.heap.size w w' := by
  by_cases h5 : k = 5
  · subst h5
    exact node_no5 id nm n ids d ks i1 j1 s1 t1 k1 l1 a cap w hv (fun h => e5 ⟨rfl, h⟩) _ rfl _ (fun _ => rfl) (fun _ => rfl)
  by_cases h6 : k = 6
  · subst h6
    exact node_no6 id nm n ids d ks i1 j1 s1 t1 k1 l1 a cap w hv (fun h => e6 ⟨rfl, h⟩) _ rfl _ (fun _ => rfl) (fun _ => rfl)
  by_cases h7 : k = 7
  · subst h7
    exact node_no7 id nm n ids d ks i1 j1 s1 t1 k1 l1 a cap w hv (fun h => e7 ⟨rfl, h⟩) _ rfl _ (fun _ => rfl) (fun _ => rfl)
  exact node_nok k id nm n ids d ks i1 j1 s1 t1 k1 l1 a cap w hv e1 e2 e3 e4 h5 h6 h7 _ rfl _ (fun _ => rfl) (fun _ => rfl)
end
end Go.Proofs.Ytbclgmabidjegaa.CoreT
namespace Go.Proofs.Ytbclgmabidjegaa.CoreT
section
open Go.RowKit
set_option linter.unusedVariables false
set_option linter.unusedSimpArgs false
theorem _root_.Go.Proofs.Ytbclgmabidjegaa.OneB.refl (mb : Nat) (w : World) : OneB mb w w := ⟨rfl, rfl, rfl, rfl, fun _ _ => rfl⟩
theorem _root_.Go.Proofs.Ytbclgmabidjegaa.OneB.trans {mb : Nat} {u v w : World} (h : OneB mb u v) (g : OneB mb v w) : OneB mb u w :=
  ⟨g.os.trans h.os, g.tape.trans h.tape, g.output.trans h.output, g.size.trans h.size, fun k hk => (g.block k hk).trans (h.block k hk)⟩
theorem idsB_cons (S : List Int) (x : Int) (r : List Int) : idsB S (x :: r) = (decide (1 ≤ x) && (decide (x ≤ 999) && (!(S.any fun z => z == x) && idsB (S ++ [x]) r))) := by rw [idsB]
set_option maxRecDepth 100000 in
set_option maxHeartbeats 4000000 in
theorem bind_any (b mb n d : Nat) (S ids : List Int) (iv : Value) (w : World) (φ : Nat → Prop) (hr : RoomC w b mb n d S) (hv : IntRow φ w iv ids) (hφ : ∀ k, φ k → k ≠ mb) :
    Calls Try.prog 267 #[.pointer (some ⟨b, 0, none⟩), iv] w fun e w' => e = .returned (.bool (idsB S ids)) ∧ (∃ S', RoomC w' b mb n d S' ∧ (idsB S ids = true → S' = S ++ ids)) ∧ OneB mb w w' := by
  obtain ⟨a, cap, rfl, hcap, hmax, hwf, hrow⟩ := hv
  unfold maxLen at hmax
  have HR := Lib.hid hr
  have HROW := Lib.hid hrow
  clear hr hrow hwf
  go_enter Try.func267, Try.ntmps267
  go_wp2_with fail
  go_loopw [9] (fun i wr => ∃ j : Nat, j ≤ ids.length ∧ i = .int .i64 j ∧ RoomC wr b mb n d (S ++ ids.take j) ∧ OneB mb w wr ∧ idsB S ids = idsB (S ++ ids.take j) (ids.drop j)) (fun i _ => ids.length - (intOf i).toNat)
  case atStart => exact ⟨0, Nat.zero_le _, rfl, by simpa using HR.out, OneB.refl _ _, by simp⟩
  case round =>
    obtain ⟨j, hj, rfl, hrj, hoj, hbj⟩ := hrel
    have HRJ := Lib.hid hrj
    have HOJ := Lib.hid hoj
    have HBJ := Lib.hid hbj
    have hptr := hrj.ptr
    clear hrj hoj hbj
    by_cases hlt : j < ids.length
    · rcases HROW.out with h0 | ⟨rb, off, rfl, hrb, hcells⟩
      · exfalso; rw [h0] at hlt; simp at hlt
      · have hc0 : wr.cell? ⟨rb, off + j, none⟩ = some (.int .i64 ids[j]) := (World.cell?_of_block (a := ⟨rb, off + j, none⟩) (HOJ.out.block rb (hφ rb hrb))).trans (hcells j hlt)
        have hst : idsB S ids = (decide (1 ≤ ids[j]) && (decide (ids[j] ≤ 999) && (!((S ++ ids.take j).any fun z => z == ids[j]) && idsB (S ++ ids.take (j + 1)) (ids.drop (j + 1))))) := by
          rw [HBJ.out, List.drop_eq_getElem_cons hlt, idsB_cons, List.take_succ_eq_append_getElem hlt, List.append_assoc]
        have htk : S ++ ids.take (j + 1) = (S ++ ids.take j) ++ [ids[j]] := by rw [List.take_succ_eq_append_getElem hlt, List.append_assoc]
        generalize ids[j] = x at hc0 hst htk
        have HTK := Lib.hid htk
        have HST := Lib.hid hst
        clear hst hcells HBJ htk
        by_cases hx1 : x < 1
        · have HE : Hid (idsB S ids = false) := by refine Lib.hid ?_; rw [HST.out, decide_eq_false (by omega), Bool.false_and]
          go_wp2_with fail
          go_ret
          exact ⟨ret_bool HE.out.symm, ⟨_, HRJ.out, fun h => by rw [HE.out] at h; cases h⟩, HOJ.out⟩
        · by_cases hx2 : 999 < x
          · have HE : Hid (idsB S ids = false) := by refine Lib.hid ?_; rw [HST.out, decide_eq_false (by omega : ¬ x ≤ 999), Bool.false_and, Bool.and_false]
            go_wp2_with fail
            go_ret
            exact ⟨ret_bool HE.out.symm, ⟨_, HRJ.out, fun h => by rw [HE.out] at h; cases h⟩, HOJ.out⟩
          · have hlk := lookup_int wr mb (S ++ ids.take j) x HRJ.out.set (by omega)
            cases hq : (S ++ ids.take j).any fun z => z == x with
            | true =>
              have HE : Hid (idsB S ids = false) := by refine Lib.hid ?_; rw [HST.out, hq]; simp
              rw [hq] at hlk
              clear hq
              go_wp2_with fail
              go_ret
              exact ⟨ret_bool HE.out.symm, ⟨_, HRJ.out, fun h => by rw [HE.out] at h; cases h⟩, HOJ.out⟩
            | false =>
              have HE : Hid (idsB S ids = idsB (S ++ ids.take (j + 1)) (ids.drop (j + 1))) := by refine Lib.hid ?_; rw [HST.out, hq, decide_eq_true (by omega), decide_eq_true (by omega)]; rfl
              rw [hq] at hlk
              obtain ⟨w3, hup, hm3, ho3⟩ := update_int wr mb (S ++ ids.take j) x HRJ.out.set (by omega) hq
              rw [← HTK.out] at hm3
              have HM3 := Lib.hid hm3
              have HO3 := Lib.hid ho3
              clear hq hm3 ho3
              go_wp2_with fail
              go_roundw
              case rel => exact ⟨j + 1, by omega, by go_num, HRJ.out.one HM3.out HO3.out, HOJ.out.trans HO3.out, HE.out⟩
              case measure => simp [intOf]; omega
    · obtain rfl : j = ids.length := by omega
      have HE : Hid (idsB S ids = true) := by refine Lib.hid ?_; rw [HBJ.out, List.drop_length, idsB]
      have HRE : Hid (RoomC wr b mb n d (S ++ ids)) := by have := HRJ.out; rw [List.take_length] at this; exact this
      clear HBJ
      go_wp2_with fail
      go_ret
      exact ⟨ret_bool HE.out.symm, ⟨_, HRE.out, fun _ => rfl⟩, HOJ.out⟩
/-- what unbinding leaves -/
def UnPost (b mb n d : Nat) (S ids : List Int) (w : World) (e : Ending) (w' : World) : Prop := e = .returned (.tuple #[]) ∧ RoomC w' b mb n d (unB S ids) ∧ OneB mb w w'
set_option maxRecDepth 100000 in
set_option maxHeartbeats 4000000 in
theorem unbind_deferred (b mb n d : Nat) (S ids : List Int) (iv : Value) (u : FrameMode) (w : World) (φ : Nat → Prop) (hr : RoomC w b mb n d S) (hv : IntRow φ w iv ids) (hφ : ∀ k, φ k → k ≠ mb) (hi : ∀ i ∈ ids, 1 ≤ i ∧ i ≤ 999) :
    CallsD Try.prog 233 #[.pointer (some ⟨b, 0, none⟩), iv] u w fun e u' w' => u' = u ∧ UnPost b mb n d S ids w e w' := by
  obtain ⟨a, cap, rfl, hcap, hmax, hwf, hrow⟩ := hv
  unfold maxLen at hmax
  have HR := Lib.hid hr
  have HROW := Lib.hid hrow
  have HI := Lib.hid hi
  clear hr hrow hwf hi
  go_enter_d Try.func233, Try.ntmps233
  go_wp2_with fail
  go_loopw [8] (fun i wr => ∃ j : Nat, j ≤ ids.length ∧ i = .int .i64 j ∧ RoomC wr b mb n d (unB S (ids.take j)) ∧ OneB mb w wr) (fun i _ => ids.length - (intOf i).toNat)
  case atStart => exact ⟨0, Nat.zero_le _, rfl, by simpa [unB] using HR.out, OneB.refl _ _⟩
  case round =>
    obtain ⟨j, hj, rfl, hrj, hoj⟩ := hrel
    have HRJ := Lib.hid hrj
    have HOJ := Lib.hid hoj
    have hptr := hrj.ptr
    clear hrj hoj
    by_cases hlt : j < ids.length
    · rcases HROW.out with h0 | ⟨rb, off, rfl, hrb, hcells⟩
      · exfalso; rw [h0] at hlt; simp at hlt
      · have hc0 : wr.cell? ⟨rb, off + j, none⟩ = some (.int .i64 ids[j]) := (World.cell?_of_block (a := ⟨rb, off + j, none⟩) (HOJ.out.block rb (hφ rb hrb))).trans (hcells j hlt)
        have htk := unB_take S ids j hlt
        have hxb := HI.out ids[j] (List.getElem_mem hlt)
        generalize ids[j] = x at hc0 htk hxb
        have HTK := Lib.hid htk
        clear hcells htk
        obtain ⟨w3, hdel, hm3, ho3⟩ := delete_int wr mb (unB S (ids.take j)) x HRJ.out.set (by omega)
        rw [← HTK.out] at hm3
        have HM3 := Lib.hid hm3
        have HO3 := Lib.hid ho3
        clear hm3 ho3
        go_wp2_with fail
        go_roundw
        case rel => exact ⟨j + 1, by omega, by go_num, HRJ.out.one HM3.out HO3.out, HOJ.out.trans HO3.out⟩
        case measure => simp [intOf]; omega
    · obtain rfl : j = ids.length := by omega
      have HRE : Hid (RoomC wr b mb n d (unB S ids)) := by have := HRJ.out; rw [List.take_length] at this; exact this
      go_wp2_with fail
      go_end0
      exact ⟨rfl, HRE.out, HOJ.out⟩
set_option maxRecDepth 100000 in
set_option maxHeartbeats 4000000 in
theorem var_fits_any (b mb n d : Nat) (S : List Int) (id : Int) (w : World) (hr : RoomC w b mb n d S) (hid : -9223372036854775808 ≤ id ∧ id ≤ 9223372036854775807) :
    Calls Try.prog 235 #[.agg #[.int .i64 id], .pointer (some ⟨b, 0, none⟩)] w fun e w' => e = .returned (.bool (S.any fun z => z == id)) ∧ Below w.heap.size w w' := by
  obtain ⟨w0, hw0⟩ : ∃ w0, w0 = w.alloc (.cells #[.int .i64 id] 225) := ⟨_, rfl⟩
  have hc : w0.cell? ⟨w.heap.size, 0, none⟩ = some (.int .i64 id) := by rw [hw0]; exact World.cell?_alloc_at _ _ _ _ rfl
  have HB : Hid (Below w.heap.size w w0) := by rw [hw0]; exact below_alloc _ _
  have HR : Hid (RoomC w0 b mb n d S) := by rw [hw0]; exact hr.later (below_alloc _ _)
  have hptr := HR.out.ptr
  have hlk := lookup_int w0 mb S id HR.out.set hid
  have hlkd := lookup_int w0.drew mb S id (HR.out.set.same rfl) hid
  have HW0 := Lib.hid hw0
  clear hw0 hr
  generalize (S.any fun z => z == id) = q at hlk hlkd ⊢
  go_enter Try.func235, Try.ntmps235
  go_upto_region 1 with fail
  rw [← HW0.out]
  go_region
  go_wp2_with fail
  go_ret
  exact ⟨rfl, HB.out.drew⟩
set_option maxRecDepth 100000 in
set_option maxHeartbeats 4000000 in
theorem quote_fits_any (p : Value) (x : Item) (w : World) (hv : InV (Pl w.heap.size w) w x.f x.val) (hsz : x.f.sz ≤ 1048576) :
    Calls Try.prog 239 #[x.val, p] w fun e w' => e = .returned (.bool (formB x.f && bareB x.f)) ∧ Below w.heap.size w w' := by
  have HV := Lib.hid hv
  have hcf := x.f.count_le
  have HB0 : ∀ O, Hid (Below w.heap.size w (w.alloc O)) := fun O => below_alloc w O
  clear hv
  unfold Item.val
  unfold Item.val at HV
  go_enter Try.func239, Try.ntmps239
  go_wp2_with fail
  refine (implFormValid_any w.heap.size x.f _ _ (by simp) (InV.mono (fun k hk => hk.1) _ _ (InV.later (fun k hk => (HB0 _).out.block k hk.1) _ _ HV.out))).mono ?_
  rintro e w1 ⟨rfl, hb1⟩
  have hs1 : w.heap.size + 1 ≤ w1.heap.size := by have := hb1.size; simpa using this
  have c0 : w1.cell? ⟨w.heap.size, 0, none⟩ = some (.int .i64 x.f.kind) := (hb1.cell (p := ⟨w.heap.size, 0, none⟩) (by simp)).trans (by simp)
  have c1 : w1.cell? ⟨w.heap.size, 1, none⟩ = some (.string x.f.name) := (hb1.cell (p := ⟨w.heap.size, 1, none⟩) (by simp)).trans (by simp)
  have c2 : w1.cell? ⟨w.heap.size, 2, none⟩ = some (.int .i64 x.f.n) := (hb1.cell (p := ⟨w.heap.size, 2, none⟩) (by simp)).trans (by simp)
  have c3 : w1.cell? ⟨w.heap.size, 3, none⟩ = some (.slice x.sa x.f.scopes.length x.scap) := (hb1.cell (p := ⟨w.heap.size, 3, none⟩) (by simp)).trans (by simp)
  have c4 : w1.cell? ⟨w.heap.size, 4, none⟩ = some (.slice x.a x.f.kids.length x.cap) := (hb1.cell (p := ⟨w.heap.size, 4, none⟩) (by simp)).trans (by simp)
  have HB1 : Hid (Below w.heap.size w w1) := (below_alloc w _).trans (hb1.mono (by simp))
  clear hb1 HB0
  cases hf : formB x.f with
  | false =>
    have HX : Hid ((formB x.f && bareB x.f) = false) := by unfold Hid; rw [hf]; rfl
    clear hf
    go_wp2_with fail
    go_ret
    exact ⟨ret_bool HX.out.symm, HB1.out⟩
  | true =>
    have HBS := Lib.hid (bareB_scopes x.f hf)
    have HF := Lib.hid hf
    have HVP : Hid (InV (Pl w1.heap.size w1) w1 x.f (.agg #[.int .i64 x.f.kind, .string x.f.name, .int .i64 x.f.n, .slice x.sa x.f.scopes.length x.scap, .slice x.a x.f.kids.length x.cap])) := InV.pl HB1.out HV.out
    have HVN : Hid (InV (· < w1.heap.size) w1 x.f x.val) := InV.mono (fun k hk => hk.1) _ _ HVP.out
    have HEN : Hid (EndlessAt x.val w1) := endlessAt_in HVP.out (by omega)
    clear hf
    go_wp2_with fail
    refine (implScopesOf_any x w1 HVN.out hsz HEN.out).mono ?_
    rintro e w2 ⟨pa, ca, bs, rfl, _, _, _, hb2⟩
    have HB2 : Hid (Below w.heap.size w w2) := HB1.out.trans (hb2.mono (by omega))
    clear hb2 c0 c1 c2 c3 c4 HVN HEN HVP
    have HX : Hid ((formB x.f && bareB x.f) = (((scopesOf x.f).length : Int) == 0)) := by
      unfold Hid
      rw [HF.out, Bool.true_and, ← HBS.out, Bool.eq_iff_iff, beq_iff_eq, beq_iff_eq]
      omega
    go_wp2_with fail
    go_ret
    exact ⟨ret_bool HX.out.symm, HB2.out⟩
end
end Go.Proofs.Ytbclgmabidjegaa.CoreT
namespace Go.Proofs.Ytbclgmabidjegaa.CoreT
section
open Go.RowKit
set_option linter.unusedVariables false
set_option linter.unusedSimpArgs false
theorem ac_var (x : Value) (w : World) : (Instr.typeAssert (.iface 225 x) 165 168 true).run Try.prog w = .ok (.tuple #[.iface 225 x, .bool true]) w := by kernel_rfl
theorem ac_quote (x : Value) (w : World) : (Instr.typeAssert (.iface 231 x) 165 168 true).run Try.prog w = .ok (.tuple #[.iface 231 x, .bool true]) w := by kernel_rfl
theorem ac_fun (x : Value) (w : World) : (Instr.typeAssert (.iface 233 x) 165 168 true).run Try.prog w = .ok (.tuple #[.iface 233 x, .bool true]) w := by kernel_rfl
theorem ac_group (x : Value) (w : World) : (Instr.typeAssert (.iface 235 x) 165 168 true).run Try.prog w = .ok (.tuple #[.iface 235 x, .bool true]) w := by kernel_rfl
theorem least_some {l : List String} (h : l ≠ []) : ∃ m, Instr.least l = some m := by
  cases l with
  | nil => exact absurd rfl h
  | cons s r => exact ⟨_, rfl⟩
theorem miss_some (want : Array (String × TypeId)) (got : Array Method) (h : (want.toList.filter fun (x : String × TypeId) => !got.any fun m => m.name == x.1 && m.sig == x.2) ≠ []) : ∃ m, Instr.missingMethod want got = some m := by
  unfold Instr.missingMethod
  simp only [List.partition_eq_filter_filter]
  have h2 : ((want.toList.filter fun (x : String × TypeId) => !got.any fun m => m.name == x.1 && m.sig == x.2).map (·.1)) ≠ [] := by
    intro e
    exact h (List.map_eq_nil_iff.1 e)
  generalize ((want.toList.filter fun (x : String × TypeId) => !got.any fun m => m.name == x.1 && m.sig == x.2).map (·.1)) = L at h2
  by_cases h3 : L.filter (fun x => !(x.contains '.')) = []
  · have h4 : L.filter (fun x => x.contains '.') ≠ [] := by
      intro h4
      obtain ⟨s, r, rfl⟩ : ∃ s r, L = s :: r := by cases L with
        | nil => exact absurd rfl h2
        | cons s r => exact ⟨s, r, rfl⟩
      rw [List.filter_eq_nil_iff] at h3 h4
      have a := h3 s (by simp)
      have b := h4 s (by simp)
      cases hc : s.contains '.' <;> simp_all
    obtain ⟨m, hm⟩ := least_some (l := (L.filter (fun x => x.contains '.')).map fun id => (id.splitOn ".").getLastD id) (by intro e; exact h4 (List.map_eq_nil_iff.1 e))
    refine ⟨m, ?_⟩
    have : L.filter (not ∘ fun x => x.contains '.') = [] := h3
    rw [this]
    show (none <|> _) = _
    exact hm
  · obtain ⟨m, hm⟩ := least_some (l := L.filter (fun x => !(x.contains '.'))) h3
    refine ⟨m, ?_⟩
    have : Instr.least (L.filter (not ∘ fun x => x.contains '.')) = some m := hm
    rw [this]
    rfl
theorem miss_none {want : Array (String × TypeId)} {got : Array Method} (h : Instr.missingMethod want got = none) : (want.toList.filter fun (x : String × TypeId) => !got.any fun m => m.name == x.1 && m.sig == x.2) = [] := by
  by_cases e : (want.toList.filter fun (x : String × TypeId) => !got.any fun m => m.name == x.1 && m.sig == x.2) = []
  · exact e
  · obtain ⟨m, hm⟩ := miss_some want got e
    rw [h] at hm
    cases hm
theorem ac_name (x : Value) (w : World) : (Instr.typeAssert (.iface 227 x) 165 168 true).run Try.prog w = .ok (.tuple #[.nilIface, .bool false]) w := by
  have hz : (zeroValue 168).run Try.prog w = .ok .nilIface w := by kernel_rfl
  simp [Instr.typeAssert]
  split
  · rename_i hq
    exact absurd (miss_none hq) (of_decide_eq_true (by kernel_rfl))
  · simp [hz, Result.andThen]
theorem ac_num (x : Value) (w : World) : (Instr.typeAssert (.iface 229 x) 165 168 true).run Try.prog w = .ok (.tuple #[.nilIface, .bool false]) w := by
  have hz : (zeroValue 168).run Try.prog w = .ok .nilIface w := by kernel_rfl
  simp [Instr.typeAssert]
  split
  · rename_i hq
    exact absurd (miss_none hq) (of_decide_eq_true (by kernel_rfl))
  · simp [hz, Result.andThen]
theorem ac_none (w : World) : (Instr.typeAssert .nilIface 165 168 true).run Try.prog w = .ok (.tuple #[.nilIface, .bool false]) w := by kernel_rfl
theorem nil_var (x : Value) (w : World) : (nilAhead 157 225 x "loop.example/macroexpander/impl.fits").run Try.prog w = .ok (some false) w := by kernel_rfl
theorem meth_var (x : Value) (w : World) : (method 157 225 x "loop.example/macroexpander/impl.fits").run Try.prog w = .ok (235, x) w := by kernel_rfl
set_option maxRecDepth 100000 in
set_option maxHeartbeats 4000000 in
theorem holds_var_of (B : Nat) (w : World) (b mb n d : Nat) (S : List Int) (hB : B ≤ b) (hM : B ≤ mb) (hs : B ≤ w.heap.size) (hr : RoomC w b mb n d S) (hn : n ≤ 600) (hd : d ≤ 120) (hroom : n + 1 ≤ 600 ∧ d + 1 ≤ 120) (x : CItem) (nx : Value) (c : Nat) (P : Bool → Prop)
    (hnode : ∀ w' : World, KeptC b mb w w' → Calls Try.prog 133 #[x.val] w' fun e w'' => e = .returned (.iface 225 nx) ∧ Below w'.heap.size w' w'')
    (hf : ∀ w' : World, RoomC w' b mb (n + 1) (d + 1) S → KeptC b mb w w' → Calls Try.prog 235 #[nx, .pointer (some ⟨b, 0, none⟩)] w' fun e w'' => ∃ r, e = .returned (.bool r) ∧ P r ∧ (∃ n' d' S', n' ≤ 601 ∧ d + 1 ≤ d' ∧ d' ≤ d + 2 ∧ RoomC w'' b mb n' d' S' ∧ (r = true → n' = n + c ∧ d' = d + 1 ∧ S' = S)) ∧ KeptC b mb w' w'') :
    Calls Try.prog 70 #[.pointer (some ⟨b, 0, none⟩), x.val] w fun e w' => ∃ r, P r ∧ HoldsC r c S b mb n d w e w' := by
  rw [CItem.val_eq] at hnode ⊢
  have HR := Lib.hid hr
  have HW : Hid ((decide (n + 1 ≤ 600) && decide (d + 1 ≤ 120)) = true) := by unfold Hid; simp; omega
  have HN := Lib.hid hnode
  have HF := Lib.hid hf
  clear hr hnode hf
  go_enter_defers Try.func70, Try.ntmps70
  go_wp2_with fail
  refine (enterWithin_any 600 120 b 0 n d _ (HR.out.room.later (below_alloc _ _)) (by omega) (by omega)).mono ?_
  rintro e w1 ⟨rfl, hr1, hk1⟩
  rw [HW.out]
  have hz1 : w.heap.size + 1 ≤ w1.heap.size := by have := hk1.size; simpa using this
  have hbl := HR.out.lt
  have hne : w.heap.size ≠ b := by omega
  have hc0 := (hk1.other (k := w.heap.size) (o := 0) (by simp) (by omega)).trans (World.cell?_alloc_at _ _ _ _ rfl)
  have hc1 := (hk1.other (k := w.heap.size) (o := 1) (by simp) (by omega)).trans (World.cell?_alloc_at _ _ _ _ rfl)
  have hc2 := (hk1.other (k := w.heap.size) (o := 2) (by simp) (by omega)).trans (World.cell?_alloc_at _ _ _ _ rfl)
  have hc3 := (hk1.other (k := w.heap.size) (o := 3) (by simp) (by omega)).trans (World.cell?_alloc_at _ _ _ _ rfl)
  have hc4 := (hk1.other (k := w.heap.size) (o := 4) (by simp) (by omega)).trans (World.cell?_alloc_at _ _ _ _ rfl)
  have hc5 := (hk1.other (k := w.heap.size) (o := 5) (by simp) (by omega)).trans (World.cell?_alloc_at _ _ _ _ rfl)
  have hc6 := (hk1.other (k := w.heap.size) (o := 6) (by simp) (by omega)).trans (World.cell?_alloc_at _ _ _ _ rfl)
  have hc7 := (hk1.other (k := w.heap.size) (o := 7) (by simp) (by omega)).trans (World.cell?_alloc_at _ _ _ _ rfl)
  have hc8 := (hk1.other (k := w.heap.size) (o := 8) (by simp) (by omega)).trans (World.cell?_alloc_at _ _ _ _ rfl)
  have hc9 := (hk1.other (k := w.heap.size) (o := 9) (by simp) (by omega)).trans (World.cell?_alloc_at _ _ _ _ rfl)
  have hc10 := (hk1.other (k := w.heap.size) (o := 10) (by simp) (by omega)).trans (World.cell?_alloc_at _ _ _ _ rfl)
  simp at hc0 hc1 hc2 hc3 hc4 hc5 hc6 hc7 hc8 hc9 hc10
  have HR1 : Hid (RoomC w1 b mb (n + 1) (d + 1) S) := (HR.out.later (below_alloc _ _)).kept hr1 hk1
  have HK1 : Hid (KeptC b mb w w1) := ((KeptC.refl b mb w).alloc _).trans (KeptC.of_kept hk1)
  clear hr1 hk1
  go_wp2_with fail
  refine (HN.out _ HK1.out).mono ?_
  rintro e w2 ⟨rfl, hb2⟩
  have HR2 : Hid (RoomC w2 b mb (n + 1) (d + 1) S) := HR1.out.later hb2
  have HK2 : Hid (KeptC b mb w w2) := HK1.out.trans (KeptC.of_below hb2 (Nat.le_refl _))
  clear hb2 hc0 hc1 hc2 hc3 hc4 hc5 hc6 hc7 hc8 hc9 hc10
  have ta := ac_var nx
  have tn := nil_var nx
  have tm := meth_var nx
  go_wp2_with fail
  refine (HF.out w2 HR2.out HK2.out).mono ?_
  rintro e w3 ⟨r, rfl, hp, ⟨n', d', S', hn', h1, h2, hr3, ht⟩, hk3⟩
  have HP := Lib.hid hp
  have HR3 := Lib.hid hr3
  have HT := Lib.hid ht
  have HK3 := Lib.hid (HK2.out.trans hk3)
  obtain ⟨d2, rfl⟩ : ∃ d2, d' = d2 + 1 := ⟨d' - 1, by omega⟩
  clear hp hr3 ht hk3
  go_wp2_with fail
  refine leaves_cons (f := 132) (args := #[.pointer (some ⟨b, 0, none⟩)]) (by simp) (by simp [go_sem]) ?_
  refine (leave_deferred b 0 n' d2 .returning _ HR3.out.room (by omega)).mono ?_
  rintro e u' w5 ⟨rfl, rfl, hr5, hk5⟩
  exact ⟨.bool r, results_tmp (t := 4) rfl _ _ _, r, HP.out, rfl, ⟨n', d2, S', hn', by omega, by omega, HR3.out.kept hr5 hk5, fun h => by have := HT.out h; exact ⟨this.1, by omega, this.2.2⟩⟩, HK3.out.trans (KeptC.of_kept hk5)⟩
theorem nil_quote (x : Value) (w : World) : (nilAhead 157 231 x "loop.example/macroexpander/impl.fits").run Try.prog w = .ok (some false) w := by kernel_rfl
theorem meth_quote (x : Value) (w : World) : (method 157 231 x "loop.example/macroexpander/impl.fits").run Try.prog w = .ok (239, x) w := by kernel_rfl
set_option maxRecDepth 100000 in
set_option maxHeartbeats 4000000 in
theorem holds_quote_of (B : Nat) (w : World) (b mb n d : Nat) (S : List Int) (hB : B ≤ b) (hM : B ≤ mb) (hs : B ≤ w.heap.size) (hr : RoomC w b mb n d S) (hn : n ≤ 600) (hd : d ≤ 120) (hroom : n + 1 ≤ 600 ∧ d + 1 ≤ 120) (x : CItem) (nx : Value) (c : Nat) (P : Bool → Prop)
    (hnode : ∀ w' : World, KeptC b mb w w' → Calls Try.prog 133 #[x.val] w' fun e w'' => e = .returned (.iface 231 nx) ∧ Below w'.heap.size w' w'')
    (hf : ∀ w' : World, RoomC w' b mb (n + 1) (d + 1) S → KeptC b mb w w' → Calls Try.prog 239 #[nx, .pointer (some ⟨b, 0, none⟩)] w' fun e w'' => ∃ r, e = .returned (.bool r) ∧ P r ∧ (∃ n' d' S', n' ≤ 601 ∧ d + 1 ≤ d' ∧ d' ≤ d + 2 ∧ RoomC w'' b mb n' d' S' ∧ (r = true → n' = n + c ∧ d' = d + 1 ∧ S' = S)) ∧ KeptC b mb w' w'') :
    Calls Try.prog 70 #[.pointer (some ⟨b, 0, none⟩), x.val] w fun e w' => ∃ r, P r ∧ HoldsC r c S b mb n d w e w' := by
  rw [CItem.val_eq] at hnode ⊢
  have HR := Lib.hid hr
  have HW : Hid ((decide (n + 1 ≤ 600) && decide (d + 1 ≤ 120)) = true) := by unfold Hid; simp; omega
  have HN := Lib.hid hnode
  have HF := Lib.hid hf
  clear hr hnode hf
  go_enter_defers Try.func70, Try.ntmps70
  go_wp2_with fail
  refine (enterWithin_any 600 120 b 0 n d _ (HR.out.room.later (below_alloc _ _)) (by omega) (by omega)).mono ?_
  rintro e w1 ⟨rfl, hr1, hk1⟩
  rw [HW.out]
  have hz1 : w.heap.size + 1 ≤ w1.heap.size := by have := hk1.size; simpa using this
  have hbl := HR.out.lt
  have hne : w.heap.size ≠ b := by omega
  have hc0 := (hk1.other (k := w.heap.size) (o := 0) (by simp) (by omega)).trans (World.cell?_alloc_at _ _ _ _ rfl)
  have hc1 := (hk1.other (k := w.heap.size) (o := 1) (by simp) (by omega)).trans (World.cell?_alloc_at _ _ _ _ rfl)
  have hc2 := (hk1.other (k := w.heap.size) (o := 2) (by simp) (by omega)).trans (World.cell?_alloc_at _ _ _ _ rfl)
  have hc3 := (hk1.other (k := w.heap.size) (o := 3) (by simp) (by omega)).trans (World.cell?_alloc_at _ _ _ _ rfl)
  have hc4 := (hk1.other (k := w.heap.size) (o := 4) (by simp) (by omega)).trans (World.cell?_alloc_at _ _ _ _ rfl)
  have hc5 := (hk1.other (k := w.heap.size) (o := 5) (by simp) (by omega)).trans (World.cell?_alloc_at _ _ _ _ rfl)
  have hc6 := (hk1.other (k := w.heap.size) (o := 6) (by simp) (by omega)).trans (World.cell?_alloc_at _ _ _ _ rfl)
  have hc7 := (hk1.other (k := w.heap.size) (o := 7) (by simp) (by omega)).trans (World.cell?_alloc_at _ _ _ _ rfl)
  have hc8 := (hk1.other (k := w.heap.size) (o := 8) (by simp) (by omega)).trans (World.cell?_alloc_at _ _ _ _ rfl)
  have hc9 := (hk1.other (k := w.heap.size) (o := 9) (by simp) (by omega)).trans (World.cell?_alloc_at _ _ _ _ rfl)
  have hc10 := (hk1.other (k := w.heap.size) (o := 10) (by simp) (by omega)).trans (World.cell?_alloc_at _ _ _ _ rfl)
  simp at hc0 hc1 hc2 hc3 hc4 hc5 hc6 hc7 hc8 hc9 hc10
  have HR1 : Hid (RoomC w1 b mb (n + 1) (d + 1) S) := (HR.out.later (below_alloc _ _)).kept hr1 hk1
  have HK1 : Hid (KeptC b mb w w1) := ((KeptC.refl b mb w).alloc _).trans (KeptC.of_kept hk1)
  clear hr1 hk1
  go_wp2_with fail
  refine (HN.out _ HK1.out).mono ?_
  rintro e w2 ⟨rfl, hb2⟩
  have HR2 : Hid (RoomC w2 b mb (n + 1) (d + 1) S) := HR1.out.later hb2
  have HK2 : Hid (KeptC b mb w w2) := HK1.out.trans (KeptC.of_below hb2 (Nat.le_refl _))
  clear hb2 hc0 hc1 hc2 hc3 hc4 hc5 hc6 hc7 hc8 hc9 hc10
  have ta := ac_quote nx
  have tn := nil_quote nx
  have tm := meth_quote nx
  go_wp2_with fail
  refine (HF.out w2 HR2.out HK2.out).mono ?_
  rintro e w3 ⟨r, rfl, hp, ⟨n', d', S', hn', h1, h2, hr3, ht⟩, hk3⟩
  have HP := Lib.hid hp
  have HR3 := Lib.hid hr3
  have HT := Lib.hid ht
  have HK3 := Lib.hid (HK2.out.trans hk3)
  obtain ⟨d2, rfl⟩ : ∃ d2, d' = d2 + 1 := ⟨d' - 1, by omega⟩
  clear hp hr3 ht hk3
  go_wp2_with fail
  refine leaves_cons (f := 132) (args := #[.pointer (some ⟨b, 0, none⟩)]) (by simp) (by simp [go_sem]) ?_
  refine (leave_deferred b 0 n' d2 .returning _ HR3.out.room (by omega)).mono ?_
  rintro e u' w5 ⟨rfl, rfl, hr5, hk5⟩
  exact ⟨.bool r, results_tmp (t := 4) rfl _ _ _, r, HP.out, rfl, ⟨n', d2, S', hn', by omega, by omega, HR3.out.kept hr5 hk5, fun h => by have := HT.out h; exact ⟨this.1, by omega, this.2.2⟩⟩, HK3.out.trans (KeptC.of_kept hk5)⟩
theorem nil_fun (x : Value) (w : World) : (nilAhead 157 233 x "loop.example/macroexpander/impl.fits").run Try.prog w = .ok (some false) w := by kernel_rfl
theorem meth_fun (x : Value) (w : World) : (method 157 233 x "loop.example/macroexpander/impl.fits").run Try.prog w = .ok (266, x) w := by kernel_rfl
set_option maxRecDepth 100000 in
set_option maxHeartbeats 4000000 in
theorem holds_fun_of (B : Nat) (w : World) (b mb n d : Nat) (S : List Int) (hB : B ≤ b) (hM : B ≤ mb) (hs : B ≤ w.heap.size) (hr : RoomC w b mb n d S) (hn : n ≤ 600) (hd : d ≤ 120) (hroom : n + 1 ≤ 600 ∧ d + 1 ≤ 120) (x : CItem) (nx : Value) (c : Nat) (P : Bool → Prop)
    (hnode : ∀ w' : World, KeptC b mb w w' → Calls Try.prog 133 #[x.val] w' fun e w'' => e = .returned (.iface 233 nx) ∧ Below w'.heap.size w' w'')
    (hf : ∀ w' : World, RoomC w' b mb (n + 1) (d + 1) S → KeptC b mb w w' → Calls Try.prog 266 #[nx, .pointer (some ⟨b, 0, none⟩)] w' fun e w'' => ∃ r, e = .returned (.bool r) ∧ P r ∧ (∃ n' d' S', n' ≤ 601 ∧ d + 1 ≤ d' ∧ d' ≤ d + 2 ∧ RoomC w'' b mb n' d' S' ∧ (r = true → n' = n + c ∧ d' = d + 1 ∧ S' = S)) ∧ KeptC b mb w' w'') :
    Calls Try.prog 70 #[.pointer (some ⟨b, 0, none⟩), x.val] w fun e w' => ∃ r, P r ∧ HoldsC r c S b mb n d w e w' := by
  rw [CItem.val_eq] at hnode ⊢
  have HR := Lib.hid hr
  have HW : Hid ((decide (n + 1 ≤ 600) && decide (d + 1 ≤ 120)) = true) := by unfold Hid; simp; omega
  have HN := Lib.hid hnode
  have HF := Lib.hid hf
  clear hr hnode hf
  go_enter_defers Try.func70, Try.ntmps70
  go_wp2_with fail
  refine (enterWithin_any 600 120 b 0 n d _ (HR.out.room.later (below_alloc _ _)) (by omega) (by omega)).mono ?_
  rintro e w1 ⟨rfl, hr1, hk1⟩
  rw [HW.out]
  have hz1 : w.heap.size + 1 ≤ w1.heap.size := by have := hk1.size; simpa using this
  have hbl := HR.out.lt
  have hne : w.heap.size ≠ b := by omega
  have hc0 := (hk1.other (k := w.heap.size) (o := 0) (by simp) (by omega)).trans (World.cell?_alloc_at _ _ _ _ rfl)
  have hc1 := (hk1.other (k := w.heap.size) (o := 1) (by simp) (by omega)).trans (World.cell?_alloc_at _ _ _ _ rfl)
  have hc2 := (hk1.other (k := w.heap.size) (o := 2) (by simp) (by omega)).trans (World.cell?_alloc_at _ _ _ _ rfl)
  have hc3 := (hk1.other (k := w.heap.size) (o := 3) (by simp) (by omega)).trans (World.cell?_alloc_at _ _ _ _ rfl)
  have hc4 := (hk1.other (k := w.heap.size) (o := 4) (by simp) (by omega)).trans (World.cell?_alloc_at _ _ _ _ rfl)
  have hc5 := (hk1.other (k := w.heap.size) (o := 5) (by simp) (by omega)).trans (World.cell?_alloc_at _ _ _ _ rfl)
  have hc6 := (hk1.other (k := w.heap.size) (o := 6) (by simp) (by omega)).trans (World.cell?_alloc_at _ _ _ _ rfl)
  have hc7 := (hk1.other (k := w.heap.size) (o := 7) (by simp) (by omega)).trans (World.cell?_alloc_at _ _ _ _ rfl)
  have hc8 := (hk1.other (k := w.heap.size) (o := 8) (by simp) (by omega)).trans (World.cell?_alloc_at _ _ _ _ rfl)
  have hc9 := (hk1.other (k := w.heap.size) (o := 9) (by simp) (by omega)).trans (World.cell?_alloc_at _ _ _ _ rfl)
  have hc10 := (hk1.other (k := w.heap.size) (o := 10) (by simp) (by omega)).trans (World.cell?_alloc_at _ _ _ _ rfl)
  simp at hc0 hc1 hc2 hc3 hc4 hc5 hc6 hc7 hc8 hc9 hc10
  have HR1 : Hid (RoomC w1 b mb (n + 1) (d + 1) S) := (HR.out.later (below_alloc _ _)).kept hr1 hk1
  have HK1 : Hid (KeptC b mb w w1) := ((KeptC.refl b mb w).alloc _).trans (KeptC.of_kept hk1)
  clear hr1 hk1
  go_wp2_with fail
  refine (HN.out _ HK1.out).mono ?_
  rintro e w2 ⟨rfl, hb2⟩
  have HR2 : Hid (RoomC w2 b mb (n + 1) (d + 1) S) := HR1.out.later hb2
  have HK2 : Hid (KeptC b mb w w2) := HK1.out.trans (KeptC.of_below hb2 (Nat.le_refl _))
  clear hb2 hc0 hc1 hc2 hc3 hc4 hc5 hc6 hc7 hc8 hc9 hc10
  have ta := ac_fun nx
  have tn := nil_fun nx
  have tm := meth_fun nx
  go_wp2_with fail
  refine (HF.out w2 HR2.out HK2.out).mono ?_
  rintro e w3 ⟨r, rfl, hp, ⟨n', d', S', hn', h1, h2, hr3, ht⟩, hk3⟩
  have HP := Lib.hid hp
  have HR3 := Lib.hid hr3
  have HT := Lib.hid ht
  have HK3 := Lib.hid (HK2.out.trans hk3)
  obtain ⟨d2, rfl⟩ : ∃ d2, d' = d2 + 1 := ⟨d' - 1, by omega⟩
  clear hp hr3 ht hk3
  go_wp2_with fail
  refine leaves_cons (f := 132) (args := #[.pointer (some ⟨b, 0, none⟩)]) (by simp) (by simp [go_sem]) ?_
  refine (leave_deferred b 0 n' d2 .returning _ HR3.out.room (by omega)).mono ?_
  rintro e u' w5 ⟨rfl, rfl, hr5, hk5⟩
  exact ⟨.bool r, results_tmp (t := 4) rfl _ _ _, r, HP.out, rfl, ⟨n', d2, S', hn', by omega, by omega, HR3.out.kept hr5 hk5, fun h => by have := HT.out h; exact ⟨this.1, by omega, this.2.2⟩⟩, HK3.out.trans (KeptC.of_kept hk5)⟩
theorem nil_group (x : Value) (w : World) : (nilAhead 157 235 x "loop.example/macroexpander/impl.fits").run Try.prog w = .ok (some false) w := by kernel_rfl
theorem meth_group (x : Value) (w : World) : (method 157 235 x "loop.example/macroexpander/impl.fits").run Try.prog w = .ok (269, x) w := by kernel_rfl
set_option maxRecDepth 100000 in
set_option maxHeartbeats 4000000 in
theorem holds_group_of (B : Nat) (w : World) (b mb n d : Nat) (S : List Int) (hB : B ≤ b) (hM : B ≤ mb) (hs : B ≤ w.heap.size) (hr : RoomC w b mb n d S) (hn : n ≤ 600) (hd : d ≤ 120) (hroom : n + 1 ≤ 600 ∧ d + 1 ≤ 120) (x : CItem) (nx : Value) (c : Nat) (P : Bool → Prop)
    (hnode : ∀ w' : World, KeptC b mb w w' → Calls Try.prog 133 #[x.val] w' fun e w'' => e = .returned (.iface 235 nx) ∧ Below w'.heap.size w' w'')
    (hf : ∀ w' : World, RoomC w' b mb (n + 1) (d + 1) S → KeptC b mb w w' → Calls Try.prog 269 #[nx, .pointer (some ⟨b, 0, none⟩)] w' fun e w'' => ∃ r, e = .returned (.bool r) ∧ P r ∧ (∃ n' d' S', n' ≤ 601 ∧ d + 1 ≤ d' ∧ d' ≤ d + 2 ∧ RoomC w'' b mb n' d' S' ∧ (r = true → n' = n + c ∧ d' = d + 1 ∧ S' = S)) ∧ KeptC b mb w' w'') :
    Calls Try.prog 70 #[.pointer (some ⟨b, 0, none⟩), x.val] w fun e w' => ∃ r, P r ∧ HoldsC r c S b mb n d w e w' := by
  rw [CItem.val_eq] at hnode ⊢
  have HR := Lib.hid hr
  have HW : Hid ((decide (n + 1 ≤ 600) && decide (d + 1 ≤ 120)) = true) := by unfold Hid; simp; omega
  have HN := Lib.hid hnode
  have HF := Lib.hid hf
  clear hr hnode hf
  go_enter_defers Try.func70, Try.ntmps70
  go_wp2_with fail
  refine (enterWithin_any 600 120 b 0 n d _ (HR.out.room.later (below_alloc _ _)) (by omega) (by omega)).mono ?_
  rintro e w1 ⟨rfl, hr1, hk1⟩
  rw [HW.out]
  have hz1 : w.heap.size + 1 ≤ w1.heap.size := by have := hk1.size; simpa using this
  have hbl := HR.out.lt
  have hne : w.heap.size ≠ b := by omega
  have hc0 := (hk1.other (k := w.heap.size) (o := 0) (by simp) (by omega)).trans (World.cell?_alloc_at _ _ _ _ rfl)
  have hc1 := (hk1.other (k := w.heap.size) (o := 1) (by simp) (by omega)).trans (World.cell?_alloc_at _ _ _ _ rfl)
  have hc2 := (hk1.other (k := w.heap.size) (o := 2) (by simp) (by omega)).trans (World.cell?_alloc_at _ _ _ _ rfl)
  have hc3 := (hk1.other (k := w.heap.size) (o := 3) (by simp) (by omega)).trans (World.cell?_alloc_at _ _ _ _ rfl)
  have hc4 := (hk1.other (k := w.heap.size) (o := 4) (by simp) (by omega)).trans (World.cell?_alloc_at _ _ _ _ rfl)
  have hc5 := (hk1.other (k := w.heap.size) (o := 5) (by simp) (by omega)).trans (World.cell?_alloc_at _ _ _ _ rfl)
  have hc6 := (hk1.other (k := w.heap.size) (o := 6) (by simp) (by omega)).trans (World.cell?_alloc_at _ _ _ _ rfl)
  have hc7 := (hk1.other (k := w.heap.size) (o := 7) (by simp) (by omega)).trans (World.cell?_alloc_at _ _ _ _ rfl)
  have hc8 := (hk1.other (k := w.heap.size) (o := 8) (by simp) (by omega)).trans (World.cell?_alloc_at _ _ _ _ rfl)
  have hc9 := (hk1.other (k := w.heap.size) (o := 9) (by simp) (by omega)).trans (World.cell?_alloc_at _ _ _ _ rfl)
  have hc10 := (hk1.other (k := w.heap.size) (o := 10) (by simp) (by omega)).trans (World.cell?_alloc_at _ _ _ _ rfl)
  simp at hc0 hc1 hc2 hc3 hc4 hc5 hc6 hc7 hc8 hc9 hc10
  have HR1 : Hid (RoomC w1 b mb (n + 1) (d + 1) S) := (HR.out.later (below_alloc _ _)).kept hr1 hk1
  have HK1 : Hid (KeptC b mb w w1) := ((KeptC.refl b mb w).alloc _).trans (KeptC.of_kept hk1)
  clear hr1 hk1
  go_wp2_with fail
  refine (HN.out _ HK1.out).mono ?_
  rintro e w2 ⟨rfl, hb2⟩
  have HR2 : Hid (RoomC w2 b mb (n + 1) (d + 1) S) := HR1.out.later hb2
  have HK2 : Hid (KeptC b mb w w2) := HK1.out.trans (KeptC.of_below hb2 (Nat.le_refl _))
  clear hb2 hc0 hc1 hc2 hc3 hc4 hc5 hc6 hc7 hc8 hc9 hc10
  have ta := ac_group nx
  have tn := nil_group nx
  have tm := meth_group nx
  go_wp2_with fail
  refine (HF.out w2 HR2.out HK2.out).mono ?_
  rintro e w3 ⟨r, rfl, hp, ⟨n', d', S', hn', h1, h2, hr3, ht⟩, hk3⟩
  have HP := Lib.hid hp
  have HR3 := Lib.hid hr3
  have HT := Lib.hid ht
  have HK3 := Lib.hid (HK2.out.trans hk3)
  obtain ⟨d2, rfl⟩ : ∃ d2, d' = d2 + 1 := ⟨d' - 1, by omega⟩
  clear hp hr3 ht hk3
  go_wp2_with fail
  refine leaves_cons (f := 132) (args := #[.pointer (some ⟨b, 0, none⟩)]) (by simp) (by simp [go_sem]) ?_
  refine (leave_deferred b 0 n' d2 .returning _ HR3.out.room (by omega)).mono ?_
  rintro e u' w5 ⟨rfl, rfl, hr5, hk5⟩
  exact ⟨.bool r, results_tmp (t := 4) rfl _ _ _, r, HP.out, rfl, ⟨n', d2, S', hn', by omega, by omega, HR3.out.kept hr5 hk5, fun h => by have := HT.out h; exact ⟨this.1, by omega, this.2.2⟩⟩, HK3.out.trans (KeptC.of_kept hk5)⟩
set_option maxRecDepth 100000 in
set_option maxHeartbeats 4000000 in
theorem holds_name_of (B : Nat) (w : World) (b mb n d : Nat) (S : List Int) (hB : B ≤ b) (hM : B ≤ mb) (hs : B ≤ w.heap.size) (hr : RoomC w b mb n d S) (hn : n ≤ 600) (hd : d ≤ 120) (hroom : n + 1 ≤ 600 ∧ d + 1 ≤ 120) (x : CItem) (nx : Value) (c : Nat) (P : Bool → Prop)
    (hnode : ∀ w' : World, KeptC b mb w w' → Calls Try.prog 133 #[x.val] w' fun e w'' => e = .returned (.iface 227 nx) ∧ Below w'.heap.size w' w'')
    (hf : ∀ w' : World, RoomC w' b mb (n + 1) (d + 1) S → KeptC b mb w w' → Calls Try.prog 134 #[.pointer (some ⟨b, 0, none⟩), .iface 227 nx] w' fun e w'' => ∃ r, e = .returned (.bool r) ∧ P r ∧ (∃ n' d' S', n' ≤ 601 ∧ d + 1 ≤ d' ∧ d' ≤ d + 2 ∧ RoomC w'' b mb n' d' S' ∧ (r = true → n' = n + c ∧ d' = d + 1 ∧ S' = S)) ∧ KeptC b mb w' w'') :
    Calls Try.prog 70 #[.pointer (some ⟨b, 0, none⟩), x.val] w fun e w' => ∃ r, P r ∧ HoldsC r c S b mb n d w e w' := by
  rw [CItem.val_eq] at hnode ⊢
  have HR := Lib.hid hr
  have HW : Hid ((decide (n + 1 ≤ 600) && decide (d + 1 ≤ 120)) = true) := by unfold Hid; simp; omega
  have HN := Lib.hid hnode
  have HF := Lib.hid hf
  clear hr hnode hf
  go_enter_defers Try.func70, Try.ntmps70
  go_wp2_with fail
  refine (enterWithin_any 600 120 b 0 n d _ (HR.out.room.later (below_alloc _ _)) (by omega) (by omega)).mono ?_
  rintro e w1 ⟨rfl, hr1, hk1⟩
  rw [HW.out]
  have hz1 : w.heap.size + 1 ≤ w1.heap.size := by have := hk1.size; simpa using this
  have hbl := HR.out.lt
  have hne : w.heap.size ≠ b := by omega
  have hc0 := (hk1.other (k := w.heap.size) (o := 0) (by simp) (by omega)).trans (World.cell?_alloc_at _ _ _ _ rfl)
  have hc1 := (hk1.other (k := w.heap.size) (o := 1) (by simp) (by omega)).trans (World.cell?_alloc_at _ _ _ _ rfl)
  have hc2 := (hk1.other (k := w.heap.size) (o := 2) (by simp) (by omega)).trans (World.cell?_alloc_at _ _ _ _ rfl)
  have hc3 := (hk1.other (k := w.heap.size) (o := 3) (by simp) (by omega)).trans (World.cell?_alloc_at _ _ _ _ rfl)
  have hc4 := (hk1.other (k := w.heap.size) (o := 4) (by simp) (by omega)).trans (World.cell?_alloc_at _ _ _ _ rfl)
  have hc5 := (hk1.other (k := w.heap.size) (o := 5) (by simp) (by omega)).trans (World.cell?_alloc_at _ _ _ _ rfl)
  have hc6 := (hk1.other (k := w.heap.size) (o := 6) (by simp) (by omega)).trans (World.cell?_alloc_at _ _ _ _ rfl)
  have hc7 := (hk1.other (k := w.heap.size) (o := 7) (by simp) (by omega)).trans (World.cell?_alloc_at _ _ _ _ rfl)
  have hc8 := (hk1.other (k := w.heap.size) (o := 8) (by simp) (by omega)).trans (World.cell?_alloc_at _ _ _ _ rfl)
  have hc9 := (hk1.other (k := w.heap.size) (o := 9) (by simp) (by omega)).trans (World.cell?_alloc_at _ _ _ _ rfl)
  have hc10 := (hk1.other (k := w.heap.size) (o := 10) (by simp) (by omega)).trans (World.cell?_alloc_at _ _ _ _ rfl)
  simp at hc0 hc1 hc2 hc3 hc4 hc5 hc6 hc7 hc8 hc9 hc10
  have HR1 : Hid (RoomC w1 b mb (n + 1) (d + 1) S) := (HR.out.later (below_alloc _ _)).kept hr1 hk1
  have HK1 : Hid (KeptC b mb w w1) := ((KeptC.refl b mb w).alloc _).trans (KeptC.of_kept hk1)
  clear hr1 hk1
  go_wp2_with fail
  refine (HN.out _ HK1.out).mono ?_
  rintro e w2 ⟨rfl, hb2⟩
  have HR2 : Hid (RoomC w2 b mb (n + 1) (d + 1) S) := HR1.out.later hb2
  have HK2 : Hid (KeptC b mb w w2) := HK1.out.trans (KeptC.of_below hb2 (Nat.le_refl _))
  clear hb2 hc0 hc1 hc2 hc3 hc4 hc5 hc6 hc7 hc8 hc9 hc10
  have ta := ac_name nx
  go_wp2_with fail
  refine (HF.out w2 HR2.out HK2.out).mono ?_
  rintro e w3 ⟨r, rfl, hp, ⟨n', d', S', hn', h1, h2, hr3, ht⟩, hk3⟩
  have HP := Lib.hid hp
  have HR3 := Lib.hid hr3
  have HT := Lib.hid ht
  have HK3 := Lib.hid (HK2.out.trans hk3)
  obtain ⟨d2, rfl⟩ : ∃ d2, d' = d2 + 1 := ⟨d' - 1, by omega⟩
  clear hp hr3 ht hk3
  go_wp2_with fail
  refine leaves_cons (f := 132) (args := #[.pointer (some ⟨b, 0, none⟩)]) (by simp) (by simp [go_sem]) ?_
  refine (leave_deferred b 0 n' d2 .returning _ HR3.out.room (by omega)).mono ?_
  rintro e u' w5 ⟨rfl, rfl, hr5, hk5⟩
  exact ⟨.bool r, results_tmp (t := 4) rfl _ _ _, r, HP.out, rfl, ⟨n', d2, S', hn', by omega, by omega, HR3.out.kept hr5 hk5, fun h => by have := HT.out h; exact ⟨this.1, by omega, this.2.2⟩⟩, HK3.out.trans (KeptC.of_kept hk5)⟩
set_option maxRecDepth 100000 in
set_option maxHeartbeats 4000000 in
theorem holds_num_of (B : Nat) (w : World) (b mb n d : Nat) (S : List Int) (hB : B ≤ b) (hM : B ≤ mb) (hs : B ≤ w.heap.size) (hr : RoomC w b mb n d S) (hn : n ≤ 600) (hd : d ≤ 120) (hroom : n + 1 ≤ 600 ∧ d + 1 ≤ 120) (x : CItem) (nx : Value) (c : Nat) (P : Bool → Prop)
    (hnode : ∀ w' : World, KeptC b mb w w' → Calls Try.prog 133 #[x.val] w' fun e w'' => e = .returned (.iface 229 nx) ∧ Below w'.heap.size w' w'')
    (hf : ∀ w' : World, RoomC w' b mb (n + 1) (d + 1) S → KeptC b mb w w' → Calls Try.prog 134 #[.pointer (some ⟨b, 0, none⟩), .iface 229 nx] w' fun e w'' => ∃ r, e = .returned (.bool r) ∧ P r ∧ (∃ n' d' S', n' ≤ 601 ∧ d + 1 ≤ d' ∧ d' ≤ d + 2 ∧ RoomC w'' b mb n' d' S' ∧ (r = true → n' = n + c ∧ d' = d + 1 ∧ S' = S)) ∧ KeptC b mb w' w'') :
    Calls Try.prog 70 #[.pointer (some ⟨b, 0, none⟩), x.val] w fun e w' => ∃ r, P r ∧ HoldsC r c S b mb n d w e w' := by
  rw [CItem.val_eq] at hnode ⊢
  have HR := Lib.hid hr
  have HW : Hid ((decide (n + 1 ≤ 600) && decide (d + 1 ≤ 120)) = true) := by unfold Hid; simp; omega
  have HN := Lib.hid hnode
  have HF := Lib.hid hf
  clear hr hnode hf
  go_enter_defers Try.func70, Try.ntmps70
  go_wp2_with fail
  refine (enterWithin_any 600 120 b 0 n d _ (HR.out.room.later (below_alloc _ _)) (by omega) (by omega)).mono ?_
  rintro e w1 ⟨rfl, hr1, hk1⟩
  rw [HW.out]
  have hz1 : w.heap.size + 1 ≤ w1.heap.size := by have := hk1.size; simpa using this
  have hbl := HR.out.lt
  have hne : w.heap.size ≠ b := by omega
  have hc0 := (hk1.other (k := w.heap.size) (o := 0) (by simp) (by omega)).trans (World.cell?_alloc_at _ _ _ _ rfl)
  have hc1 := (hk1.other (k := w.heap.size) (o := 1) (by simp) (by omega)).trans (World.cell?_alloc_at _ _ _ _ rfl)
  have hc2 := (hk1.other (k := w.heap.size) (o := 2) (by simp) (by omega)).trans (World.cell?_alloc_at _ _ _ _ rfl)
  have hc3 := (hk1.other (k := w.heap.size) (o := 3) (by simp) (by omega)).trans (World.cell?_alloc_at _ _ _ _ rfl)
  have hc4 := (hk1.other (k := w.heap.size) (o := 4) (by simp) (by omega)).trans (World.cell?_alloc_at _ _ _ _ rfl)
  have hc5 := (hk1.other (k := w.heap.size) (o := 5) (by simp) (by omega)).trans (World.cell?_alloc_at _ _ _ _ rfl)
  have hc6 := (hk1.other (k := w.heap.size) (o := 6) (by simp) (by omega)).trans (World.cell?_alloc_at _ _ _ _ rfl)
  have hc7 := (hk1.other (k := w.heap.size) (o := 7) (by simp) (by omega)).trans (World.cell?_alloc_at _ _ _ _ rfl)
  have hc8 := (hk1.other (k := w.heap.size) (o := 8) (by simp) (by omega)).trans (World.cell?_alloc_at _ _ _ _ rfl)
  have hc9 := (hk1.other (k := w.heap.size) (o := 9) (by simp) (by omega)).trans (World.cell?_alloc_at _ _ _ _ rfl)
  have hc10 := (hk1.other (k := w.heap.size) (o := 10) (by simp) (by omega)).trans (World.cell?_alloc_at _ _ _ _ rfl)
  simp at hc0 hc1 hc2 hc3 hc4 hc5 hc6 hc7 hc8 hc9 hc10
  have HR1 : Hid (RoomC w1 b mb (n + 1) (d + 1) S) := (HR.out.later (below_alloc _ _)).kept hr1 hk1
  have HK1 : Hid (KeptC b mb w w1) := ((KeptC.refl b mb w).alloc _).trans (KeptC.of_kept hk1)
  clear hr1 hk1
  go_wp2_with fail
  refine (HN.out _ HK1.out).mono ?_
  rintro e w2 ⟨rfl, hb2⟩
  have HR2 : Hid (RoomC w2 b mb (n + 1) (d + 1) S) := HR1.out.later hb2
  have HK2 : Hid (KeptC b mb w w2) := HK1.out.trans (KeptC.of_below hb2 (Nat.le_refl _))
  clear hb2 hc0 hc1 hc2 hc3 hc4 hc5 hc6 hc7 hc8 hc9 hc10
  have ta := ac_num nx
  go_wp2_with fail
  refine (HF.out w2 HR2.out HK2.out).mono ?_
  rintro e w3 ⟨r, rfl, hp, ⟨n', d', S', hn', h1, h2, hr3, ht⟩, hk3⟩
  have HP := Lib.hid hp
  have HR3 := Lib.hid hr3
  have HT := Lib.hid ht
  have HK3 := Lib.hid (HK2.out.trans hk3)
  obtain ⟨d2, rfl⟩ : ∃ d2, d' = d2 + 1 := ⟨d' - 1, by omega⟩
  clear hp hr3 ht hk3
  go_wp2_with fail
  refine leaves_cons (f := 132) (args := #[.pointer (some ⟨b, 0, none⟩)]) (by simp) (by simp [go_sem]) ?_
  refine (leave_deferred b 0 n' d2 .returning _ HR3.out.room (by omega)).mono ?_
  rintro e u' w5 ⟨rfl, rfl, hr5, hk5⟩
  exact ⟨.bool r, results_tmp (t := 4) rfl _ _ _, r, HP.out, rfl, ⟨n', d2, S', hn', by omega, by omega, HR3.out.kept hr5 hk5, fun h => by have := HT.out h; exact ⟨this.1, by omega, this.2.2⟩⟩, HK3.out.trans (KeptC.of_kept hk5)⟩
set_option maxRecDepth 100000 in
set_option maxHeartbeats 4000000 in
theorem holds_none_of (B : Nat) (w : World) (b mb n d : Nat) (S : List Int) (hB : B ≤ b) (hM : B ≤ mb) (hs : B ≤ w.heap.size) (hr : RoomC w b mb n d S) (hn : n ≤ 600) (hd : d ≤ 120) (hroom : n + 1 ≤ 600 ∧ d + 1 ≤ 120) (x : CItem) (c : Nat) (P : Bool → Prop)
    (hnode : ∀ w' : World, KeptC b mb w w' → Calls Try.prog 133 #[x.val] w' fun e w'' => e = .returned (.nilIface) ∧ Below w'.heap.size w' w'')
    (hf : ∀ w' : World, RoomC w' b mb (n + 1) (d + 1) S → KeptC b mb w w' → Calls Try.prog 134 #[.pointer (some ⟨b, 0, none⟩), .nilIface] w' fun e w'' => ∃ r, e = .returned (.bool r) ∧ P r ∧ (∃ n' d' S', n' ≤ 601 ∧ d + 1 ≤ d' ∧ d' ≤ d + 2 ∧ RoomC w'' b mb n' d' S' ∧ (r = true → n' = n + c ∧ d' = d + 1 ∧ S' = S)) ∧ KeptC b mb w' w'') :
    Calls Try.prog 70 #[.pointer (some ⟨b, 0, none⟩), x.val] w fun e w' => ∃ r, P r ∧ HoldsC r c S b mb n d w e w' := by
  rw [CItem.val_eq] at hnode ⊢
  have HR := Lib.hid hr
  have HW : Hid ((decide (n + 1 ≤ 600) && decide (d + 1 ≤ 120)) = true) := by unfold Hid; simp; omega
  have HN := Lib.hid hnode
  have HF := Lib.hid hf
  clear hr hnode hf
  go_enter_defers Try.func70, Try.ntmps70
  go_wp2_with fail
  refine (enterWithin_any 600 120 b 0 n d _ (HR.out.room.later (below_alloc _ _)) (by omega) (by omega)).mono ?_
  rintro e w1 ⟨rfl, hr1, hk1⟩
  rw [HW.out]
  have hz1 : w.heap.size + 1 ≤ w1.heap.size := by have := hk1.size; simpa using this
  have hbl := HR.out.lt
  have hne : w.heap.size ≠ b := by omega
  have hc0 := (hk1.other (k := w.heap.size) (o := 0) (by simp) (by omega)).trans (World.cell?_alloc_at _ _ _ _ rfl)
  have hc1 := (hk1.other (k := w.heap.size) (o := 1) (by simp) (by omega)).trans (World.cell?_alloc_at _ _ _ _ rfl)
  have hc2 := (hk1.other (k := w.heap.size) (o := 2) (by simp) (by omega)).trans (World.cell?_alloc_at _ _ _ _ rfl)
  have hc3 := (hk1.other (k := w.heap.size) (o := 3) (by simp) (by omega)).trans (World.cell?_alloc_at _ _ _ _ rfl)
  have hc4 := (hk1.other (k := w.heap.size) (o := 4) (by simp) (by omega)).trans (World.cell?_alloc_at _ _ _ _ rfl)
  have hc5 := (hk1.other (k := w.heap.size) (o := 5) (by simp) (by omega)).trans (World.cell?_alloc_at _ _ _ _ rfl)
  have hc6 := (hk1.other (k := w.heap.size) (o := 6) (by simp) (by omega)).trans (World.cell?_alloc_at _ _ _ _ rfl)
  have hc7 := (hk1.other (k := w.heap.size) (o := 7) (by simp) (by omega)).trans (World.cell?_alloc_at _ _ _ _ rfl)
  have hc8 := (hk1.other (k := w.heap.size) (o := 8) (by simp) (by omega)).trans (World.cell?_alloc_at _ _ _ _ rfl)
  have hc9 := (hk1.other (k := w.heap.size) (o := 9) (by simp) (by omega)).trans (World.cell?_alloc_at _ _ _ _ rfl)
  have hc10 := (hk1.other (k := w.heap.size) (o := 10) (by simp) (by omega)).trans (World.cell?_alloc_at _ _ _ _ rfl)
  simp at hc0 hc1 hc2 hc3 hc4 hc5 hc6 hc7 hc8 hc9 hc10
  have HR1 : Hid (RoomC w1 b mb (n + 1) (d + 1) S) := (HR.out.later (below_alloc _ _)).kept hr1 hk1
  have HK1 : Hid (KeptC b mb w w1) := ((KeptC.refl b mb w).alloc _).trans (KeptC.of_kept hk1)
  clear hr1 hk1
  go_wp2_with fail
  refine (HN.out _ HK1.out).mono ?_
  rintro e w2 ⟨rfl, hb2⟩
  have HR2 : Hid (RoomC w2 b mb (n + 1) (d + 1) S) := HR1.out.later hb2
  have HK2 : Hid (KeptC b mb w w2) := HK1.out.trans (KeptC.of_below hb2 (Nat.le_refl _))
  clear hb2 hc0 hc1 hc2 hc3 hc4 hc5 hc6 hc7 hc8 hc9 hc10
  have ta := ac_none
  go_wp2_with fail
  refine (HF.out w2 HR2.out HK2.out).mono ?_
  rintro e w3 ⟨r, rfl, hp, ⟨n', d', S', hn', h1, h2, hr3, ht⟩, hk3⟩
  have HP := Lib.hid hp
  have HR3 := Lib.hid hr3
  have HT := Lib.hid ht
  have HK3 := Lib.hid (HK2.out.trans hk3)
  obtain ⟨d2, rfl⟩ : ∃ d2, d' = d2 + 1 := ⟨d' - 1, by omega⟩
  clear hp hr3 ht hk3
  go_wp2_with fail
  refine leaves_cons (f := 132) (args := #[.pointer (some ⟨b, 0, none⟩)]) (by simp) (by simp [go_sem]) ?_
  refine (leave_deferred b 0 n' d2 .returning _ HR3.out.room (by omega)).mono ?_
  rintro e u' w5 ⟨rfl, rfl, hr5, hk5⟩
  exact ⟨.bool r, results_tmp (t := 4) rfl _ _ _, r, HP.out, rfl, ⟨n', d2, S', hn', by omega, by omega, HR3.out.kept hr5 hk5, fun h => by have := HT.out h; exact ⟨this.1, by omega, this.2.2⟩⟩, HK3.out.trans (KeptC.of_kept hk5)⟩
set_option maxRecDepth 100000 in
set_option maxHeartbeats 4000000 in
theorem holds_full_of (w : World) (b mb n d : Nat) (S : List Int) (hr : RoomC w b mb n d S) (hn : n ≤ 600) (hd : d ≤ 120) (hroom : ¬ (n + 1 ≤ 600 ∧ d + 1 ≤ 120)) (v0 v1 v2 v3 v4 v5 v6 v7 v8 v9 v10 : Value) (c : Nat) :
    Calls Try.prog 70 #[.pointer (some ⟨b, 0, none⟩), .agg #[v0, v1, v2, v3, v4, v5, v6, v7, v8, v9, v10]] w (HoldsC false c S b mb n d w) := by
  have HR := Lib.hid hr
  have HW : Hid ((decide (n + 1 ≤ 600) && decide (d + 1 ≤ 120)) = false) := by unfold Hid; simp; omega
  clear hr
  go_enter_defers Try.func70, Try.ntmps70
  go_wp2_with fail
  refine (enterWithin_any 600 120 b 0 n d _ (HR.out.room.later (below_alloc _ _)) (by omega) (by omega)).mono ?_
  rintro e w1 ⟨rfl, hr1, hk1⟩
  rw [HW.out]
  have HR1 : Hid (RoomC w1 b mb (n + 1) (d + 1) S) := (HR.out.later (below_alloc _ _)).kept hr1 hk1
  have HK1 : Hid (KeptC b mb w w1) := ((KeptC.refl b mb w).alloc _).trans (KeptC.of_kept hk1)
  clear hr1 hk1
  go_wp2_with fail
  exact ⟨.bool false, results_tmp (t := 4) rfl _ _ _, rfl, ⟨n + 1, d + 1, S, by omega, by omega, by omega, HR1.out, fun h => by cases h⟩, HK1.out⟩
end
end Go.Proofs.Ytbclgmabidjegaa.CoreT
namespace Go.Proofs.Ytbclgmabidjegaa.CoreT
section
open Go.RowKit
set_option linter.unusedVariables false
set_option linter.unusedSimpArgs false
theorem same_kids {k id : Int} {nm : ByteArray} {n : Int} {ids : List Int} {d : Fm} {ks : List Ck} (h : nodeSameC (bareCk k) (.mk k id nm n ids d ks) = true) : ks = [] := by
  rw [same_bare] at h
  simp only [Bool.and_eq_true] at h
  exact len_nil h.2
theorem okCs_false {S : List Int} {d n : Nat} {ks : List Ck} (h : okCs S d n ks = true) : n + countCs ks ≤ 600 := by
  unfold okCs at h
  rw [Bool.and_eq_true, decide_eq_true_eq] at h
  exact h.2
theorem okC_room {S : List Int} {d n : Nat} {x : Ck} (h : okC S d n x = true) : n + x.count ≤ 600 := by
  unfold okC at h
  rw [Bool.and_eq_true, decide_eq_true_eq] at h
  exact h.2
theorem countCs_take_one (ks : List Ck) (j : Nat) (h : j < ks.length) : countCs (ks.take (j + 1)) = countCs (ks.take j) + (ks[j]).count := countCs_take_succ ks j h
def HoldsSaid (B : Nat) (g : Ck) : Prop := ∀ (y : CItem) (w : World) (b mb n d : Nat) (S : List Int), y.f = g → B ≤ b → B ≤ mb → B ≤ w.heap.size → RoomC w b mb n d S → n ≤ 600 → d ≤ 120 → InC (Pl B w) w g y.val → g.sz ≤ 1048576 →
    Calls Try.prog 70 #[.pointer (some ⟨b, 0, none⟩), y.val] w (HoldsC (okC S d n g) g.count S b mb n d w)
set_option maxRecDepth 100000 in
set_option maxHeartbeats 4000000 in
theorem group_fits_any (B : Nat) (op : ByteArray) (ks : List Ck) (a : Option Addr) (cap : Nat) (w : World) (b mb n d : Nat) (S : List Int) (hB : B ≤ b) (hM : B ≤ mb) (hs : B ≤ w.heap.size) (hr : RoomC w b mb n d S) (hn : n ≤ 600) (hd : d ≤ 120)
    (hcap : ks.length ≤ cap) (hmax : cap ≤ maxLen) (hks : ks = [] ∨ ∃ kb off, a = some ⟨kb, off, none⟩ ∧ Pl B w kb ∧ RowC (Pl B w) w kb off ks) (hsz : szCs ks ≤ 1048576) (ih : ∀ g ∈ ks, HoldsSaid B g) :
    Calls Try.prog 269 #[.agg #[.string op, .slice a ks.length cap], .pointer (some ⟨b, 0, none⟩)] w (HoldsC (okCs S d n ks) (countCs ks) S b mb n d w) := by
  unfold maxLen at hmax
  have HR2 : Hid (RoomC (w.alloc (.cells #[.string op, .slice a ks.length cap] 235)) b mb n d S) := hr.later (below_alloc _ _)
  have HK2 : Hid (KeptC b mb w (w.alloc (.cells #[.string op, .slice a ks.length cap] 235))) := (KeptC.refl b mb w).alloc _
  have HIH := Lib.hid ih
  have HKS := Lib.hid hks
  clear ih hks hr
  go_enter Try.func269, Try.ntmps269
  go_wp2_with fail
  go_loopw [10] (fun i wr => ∃ j : Nat, j ≤ ks.length ∧ i = .int .i64 j ∧ RoomC wr b mb (n + countCs (ks.take j)) d S ∧ KeptC b mb w wr ∧ n + countCs (ks.take j) ≤ 600 ∧ okCs S d n ks = okCs S d (n + countCs (ks.take j)) (ks.drop j)) (fun i _ => ks.length - (intOf i).toNat)
  case atStart => exact ⟨0, Nat.zero_le _, rfl, by simpa [countCs] using HR2.out, HK2.out, by simpa [countCs] using hn, by simp [countCs]⟩
  case round =>
    obtain ⟨j, hj, rfl, hrj, hkj, hnj, haj⟩ := hrel
    have HRJ := Lib.hid hrj
    have HKJ := Lib.hid hkj
    have HAJ := Lib.hid haj
    clear hrj hkj haj
    by_cases hlt : j < ks.length
    · rcases HKS.out with h0 | ⟨kb, off, rfl, hkb, hrow⟩
      · exfalso; rw [h0] at hlt; simp at hlt
      · have hbw : Below B w wr := HKJ.out.below hB hM hs
        obtain ⟨q0, q1, q2, q3, q4, q5, q6, q7, h0, h1, h2, h3, h4, h5, h6, h7, h8, h9, h10, hin⟩ := (rowC_plB hbw hkb hrow).at' j hlt
        have HIN := Lib.hid hin
        have HIHJ := Lib.hid (HIH.out ks[j] (List.getElem_mem hlt))
        have hszj := szCs_get ks j hlt
        have hszk : (ks[j]).sz ≤ 1048576 := by omega
        have hwr : w.heap.size ≤ wr.heap.size := HKJ.out.size
        have HTS := Lib.hid (countCs_take_one ks j hlt)
        have HST : Hid (okCs S d n ks = (okC S d (n + countCs (ks.take j)) ks[j] && okCs S d (n + countCs (ks.take (j + 1))) (ks.drop (j + 1)))) := by
          unfold Hid
          rw [HAJ.out, List.drop_eq_getElem_cons hlt, okCs_cons, HTS.out, Nat.add_assoc]
        clear hin hrow hbw hszj HAJ
        go_wp2_with fail
        refine (HIHJ.out ⟨ks[j], q0, q1, q2, q3, q4, q5, q6, q7⟩ _ b mb (n + countCs (ks.take j)) d S rfl hB hM (by simp; omega) (HRJ.out.later (below_alloc _ _)) hnj hd (inC_plB (w := wr) ((below_alloc wr _).mono (by omega)) HIN.out) hszk).mono ?_
        rintro e w3 ⟨rfl, ⟨n', d', S', hn', hd1, hd2, hr3, ht⟩, hk3⟩
        have HK3 : Hid (KeptC b mb w w3) := (HKJ.out.alloc _).trans hk3
        have HR3 := Lib.hid hr3
        have HT := Lib.hid ht
        clear hk3 hr3 ht h0 h1 h2 h3 h4 h5 h6 h7 h8 h9 h10
        cases hg : okC S d (n + countCs (ks.take j)) ks[j] with
        | true =>
          have hrm := okC_room hg
          have HE : Hid (okCs S d n ks = okCs S d (n + countCs (ks.take (j + 1))) (ks.drop (j + 1))) := by unfold Hid; rw [HST.out, hg, Bool.true_and]
          obtain ⟨e1, e2, e3⟩ := HT.out hg
          have HR4 : Hid (RoomC w3 b mb (n + countCs (ks.take (j + 1))) d S) := by
            have h := HR3.out
            rw [e1, e2, e3] at h
            unfold Hid
            rw [HTS.out, ← Nat.add_assoc]
            exact h
          have hle : n + countCs (ks.take (j + 1)) ≤ 600 := by rw [HTS.out]; omega
          clear hg e1 e2 e3 hrm
          go_wp2_with fail
          go_roundw
          case rel => exact ⟨j + 1, by omega, by go_num, HR4.out, HK3.out, hle, HE.out⟩
          case measure => simp [intOf]; omega
        | false =>
          have HE : Hid (okCs S d n ks = false) := by unfold Hid; rw [HST.out, hg, Bool.false_and]
          clear hg
          go_wp2_with fail
          go_ret
          exact ⟨ret_bool HE.out.symm, ⟨n', d', S', hn', hd1, hd2, HR3.out, fun h => by rw [HE.out] at h; cases h⟩, HK3.out⟩
    · obtain rfl : j = ks.length := by omega
      have HE : Hid (okCs S d n ks = true) := by unfold Hid; rw [HAJ.out, List.drop_length]; exact okCs_nil S d _ hnj
      have HRE : Hid (RoomC wr b mb (n + countCs ks) d S) := by have := HRJ.out; rw [List.take_length] at this; exact this
      have hle : n + countCs ks ≤ 600 := by rw [List.take_length] at hnj; exact hnj
      clear HAJ
      go_wp2_with fail
      go_ret
      exact ⟨ret_bool HE.out.symm, ⟨_, d, S, by omega, Nat.le_refl _, by omega, HRE.out, fun _ => ⟨rfl, rfl, rfl⟩⟩, HKJ.out⟩
set_option maxRecDepth 100000 in
set_option maxHeartbeats 4000000 in
theorem fun_fits_any (B : Nat) (ids : List Int) (i1 : Option Addr) (j1 : Nat) (q : CItem) (w : World) (b mb n d : Nat) (S : List Int) (hB : B ≤ b) (hM : B ≤ mb) (hs : B ≤ w.heap.size) (hr : RoomC w b mb n d S) (hn : n ≤ 600) (hd : d ≤ 120)
    (hi : IntRow (Pl B w) w (.slice i1 ids.length j1) ids) (hq : InC (Pl B w) w q.f q.val) (hsz : q.f.sz ≤ 1048576) (ih : HoldsSaid B q.f) :
    Calls Try.prog 266 #[.agg #[.slice i1 ids.length j1, .int .i64 q.f.kind, .int .i64 q.f.id, .string q.f.name, .int .i64 q.f.n, .slice q.i1 q.f.ids.length q.j1, .int .i64 q.f.data.kind, .string q.f.data.name, .int .i64 q.f.data.n, .slice q.s1 q.f.data.scopes.length q.t1, .slice q.k1 q.f.data.kids.length q.l1, .slice q.a q.f.kids.length q.cap], .pointer (some ⟨b, 0, none⟩)] w (HoldsC (idsB S ids && okC (S ++ ids) d n q.f) q.f.count S b mb n d w) := by
  have HI := Lib.hid hi
  have HQ := Lib.hid hq
  have HIH := Lib.hid ih
  have HR := Lib.hid hr
  clear hi hq ih hr
  have hbl := HR.out.lt
  have hml := HR.out.mlt
  have hn1 : w.heap.size ≠ mb := by omega
  go_enter_defers Try.func266, Try.ntmps266
  go_upto_region 1 with fail
  obtain ⟨w0, hw0⟩ : ∃ w0, w0 = w.alloc (.cells #[.slice i1 ids.length j1, .int .i64 q.f.kind, .int .i64 q.f.id, .string q.f.name, .int .i64 q.f.n, .slice q.i1 q.f.ids.length q.j1, .int .i64 q.f.data.kind, .string q.f.data.name, .int .i64 q.f.data.n, .slice q.s1 q.f.data.scopes.length q.t1, .slice q.k1 q.f.data.kids.length q.l1, .slice q.a q.f.kids.length q.cap] 233) := ⟨_, rfl⟩
  have HB0 : Hid (Below w.heap.size w w0) := by rw [hw0]; exact below_alloc _ _
  have HK0 : Hid (KeptC b mb w w0) := KeptC.of_below HB0.out (Nat.le_refl _)
  have HR0 : Hid (RoomC w0 b mb n d S) := HR.out.later HB0.out
  have hz0 : w.heap.size + 1 ≤ w0.heap.size := by rw [hw0]; simp
  have c0 : w0.cell? ⟨w.heap.size, 0, none⟩ = some (.slice i1 ids.length j1) := by rw [hw0]; exact World.cell?_alloc_at _ _ _ _ rfl
  have c1 : w0.cell? ⟨w.heap.size, 1, none⟩ = some (.int .i64 q.f.kind) := by rw [hw0]; exact World.cell?_alloc_at _ _ _ _ rfl
  have c2 : w0.cell? ⟨w.heap.size, 2, none⟩ = some (.int .i64 q.f.id) := by rw [hw0]; exact World.cell?_alloc_at _ _ _ _ rfl
  have c3 : w0.cell? ⟨w.heap.size, 3, none⟩ = some (.string q.f.name) := by rw [hw0]; exact World.cell?_alloc_at _ _ _ _ rfl
  have c4 : w0.cell? ⟨w.heap.size, 4, none⟩ = some (.int .i64 q.f.n) := by rw [hw0]; exact World.cell?_alloc_at _ _ _ _ rfl
  have c5 : w0.cell? ⟨w.heap.size, 5, none⟩ = some (.slice q.i1 q.f.ids.length q.j1) := by rw [hw0]; exact World.cell?_alloc_at _ _ _ _ rfl
  have c6 : w0.cell? ⟨w.heap.size, 6, none⟩ = some (.int .i64 q.f.data.kind) := by rw [hw0]; exact World.cell?_alloc_at _ _ _ _ rfl
  have c7 : w0.cell? ⟨w.heap.size, 7, none⟩ = some (.string q.f.data.name) := by rw [hw0]; exact World.cell?_alloc_at _ _ _ _ rfl
  have c8 : w0.cell? ⟨w.heap.size, 8, none⟩ = some (.int .i64 q.f.data.n) := by rw [hw0]; exact World.cell?_alloc_at _ _ _ _ rfl
  have c9 : w0.cell? ⟨w.heap.size, 9, none⟩ = some (.slice q.s1 q.f.data.scopes.length q.t1) := by rw [hw0]; exact World.cell?_alloc_at _ _ _ _ rfl
  have c10 : w0.cell? ⟨w.heap.size, 10, none⟩ = some (.slice q.k1 q.f.data.kids.length q.l1) := by rw [hw0]; exact World.cell?_alloc_at _ _ _ _ rfl
  have c11 : w0.cell? ⟨w.heap.size, 11, none⟩ = some (.slice q.a q.f.kids.length q.cap) := by rw [hw0]; exact World.cell?_alloc_at _ _ _ _ rfl
  have HW0 := Lib.hid hw0
  clear hw0
  rw [← HW0.out]
  clear HW0
  go_wp2_with fail
  refine (bind_any b mb n d S ids _ w0 (Pl B w) HR0.out (HI.out.later (fun k hk => HB0.out.block k (by have := hk.1; omega))) (fun k hk => by have := hk.1; omega)).mono ?_
  rintro e w1 ⟨rfl, ⟨S1, hr1, hS1⟩, ho1⟩
  have hz1 : w.heap.size + 1 ≤ w1.heap.size := by rw [ho1.size]; exact hz0
  have hblk : w1.heap[w.heap.size]? = w0.heap[w.heap.size]? := ho1.block _ hn1
  have d0 : w1.cell? ⟨w.heap.size, 0, none⟩ = some (.slice i1 ids.length j1) := (World.cell?_of_block (a := ⟨w.heap.size, 0, none⟩) hblk).trans c0
  have d1 : w1.cell? ⟨w.heap.size, 1, none⟩ = some (.int .i64 q.f.kind) := (World.cell?_of_block (a := ⟨w.heap.size, 1, none⟩) hblk).trans c1
  have d2 : w1.cell? ⟨w.heap.size, 2, none⟩ = some (.int .i64 q.f.id) := (World.cell?_of_block (a := ⟨w.heap.size, 2, none⟩) hblk).trans c2
  have d3 : w1.cell? ⟨w.heap.size, 3, none⟩ = some (.string q.f.name) := (World.cell?_of_block (a := ⟨w.heap.size, 3, none⟩) hblk).trans c3
  have d4 : w1.cell? ⟨w.heap.size, 4, none⟩ = some (.int .i64 q.f.n) := (World.cell?_of_block (a := ⟨w.heap.size, 4, none⟩) hblk).trans c4
  have d5 : w1.cell? ⟨w.heap.size, 5, none⟩ = some (.slice q.i1 q.f.ids.length q.j1) := (World.cell?_of_block (a := ⟨w.heap.size, 5, none⟩) hblk).trans c5
  have d6 : w1.cell? ⟨w.heap.size, 6, none⟩ = some (.int .i64 q.f.data.kind) := (World.cell?_of_block (a := ⟨w.heap.size, 6, none⟩) hblk).trans c6
  have d7 : w1.cell? ⟨w.heap.size, 7, none⟩ = some (.string q.f.data.name) := (World.cell?_of_block (a := ⟨w.heap.size, 7, none⟩) hblk).trans c7
  have d8 : w1.cell? ⟨w.heap.size, 8, none⟩ = some (.int .i64 q.f.data.n) := (World.cell?_of_block (a := ⟨w.heap.size, 8, none⟩) hblk).trans c8
  have d9 : w1.cell? ⟨w.heap.size, 9, none⟩ = some (.slice q.s1 q.f.data.scopes.length q.t1) := (World.cell?_of_block (a := ⟨w.heap.size, 9, none⟩) hblk).trans c9
  have d10 : w1.cell? ⟨w.heap.size, 10, none⟩ = some (.slice q.k1 q.f.data.kids.length q.l1) := (World.cell?_of_block (a := ⟨w.heap.size, 10, none⟩) hblk).trans c10
  have d11 : w1.cell? ⟨w.heap.size, 11, none⟩ = some (.slice q.a q.f.kids.length q.cap) := (World.cell?_of_block (a := ⟨w.heap.size, 11, none⟩) hblk).trans c11
  have HK1 : Hid (KeptC b mb w w1) := HK0.out.trans (KeptC.of_one ho1)
  have HR1 := Lib.hid hr1
  clear ho1 hr1 hblk c0 c1 c2 c3 c4 c5 c6 c7 c8 c9 c10 c11
  cases hb : idsB S ids with
  | false =>
    have HE : Hid ((idsB S ids && okC (S ++ ids) d n q.f) = false) := by unfold Hid; rw [hb, Bool.false_and]
    clear hb
    go_wp2_with fail
    exact ⟨.bool false, results_tmp (t := 4) rfl _ _ _, ret_bool HE.out.symm, ⟨n, d, S1, by omega, Nat.le_refl _, by omega, HR1.out, fun h => by rw [HE.out] at h; cases h⟩, HK1.out⟩
  | true =>
    obtain rfl := hS1 hb
    have HBT := Lib.hid hb
    have HE : Hid ((idsB S ids && okC (S ++ ids) d n q.f) = okC (S ++ ids) d n q.f) := by unfold Hid; rw [hb, Bool.true_and]
    clear hb hS1
    go_wp2_with fail
    have hbw : Below B w w1 := HK1.out.below hB hM hs
    refine (HIH.out q w1 b mb n d (S ++ ids) rfl hB hM (by omega) HR1.out hn hd (inC_plB hbw HQ.out) hsz).mono ?_
    rintro e w2 ⟨rfl, ⟨n', d', S', hn', hd1, hd2, hr2, ht⟩, hk2⟩
    have HK2 := Lib.hid (HK1.out.trans hk2)
    have HR2 := Lib.hid hr2
    have HT := Lib.hid ht
    have hz2 := hk2.size
    clear hbw hr2 ht hk2
    go_wp2_with fail
    refine leaves_cons (f := 233) (args := #[.pointer (some ⟨b, 0, none⟩), .slice i1 ids.length j1]) (by simp) (by simp [go_sem]) ?_
    refine (unbind_deferred b mb n' d' S' ids _ .returning w2 (Pl B w) HR2.out (HI.out.later (fun k hk => (HK2.out.below hB hM hs).block k hk.1)) (fun k hk => by have := hk.1; omega) (idsB_small ids S HBT.out)).mono ?_
    rintro e u' w5 ⟨rfl, rfl, hr5, ho5⟩
    refine ⟨.bool (okC (S ++ ids) d n q.f), results_tmp (t := 4) rfl _ _ _, ret_bool HE.out.symm, ?_, HK2.out.trans (KeptC.of_one ho5)⟩
    rw [HE.out]
    cases hok : okC (S ++ ids) d n q.f with
    | false => exact ⟨n', d', _, hn', hd1, hd2, hr5, fun h => by cases h⟩
    | true =>
      obtain ⟨e1, e2, e3⟩ := HT.out hok
      subst e1 e2 e3
      exact ⟨_, _, S, hn', hd1, hd2, hr5.congr (unB_back HBT.out), fun _ => ⟨rfl, rfl, rfl⟩⟩
end
end Go.Proofs.Ytbclgmabidjegaa.CoreT
namespace Go.Proofs.Ytbclgmabidjegaa.CoreT
section
open Go.RowKit
set_option linter.unusedVariables false
set_option linter.unusedSimpArgs false
theorem okCs_one (S : List Int) (d n : Nat) (g : Ck) : okCs S d n [g] = okC S d n g := by
  unfold okCs okC
  rw [coreAll, coreAll_nil, countCs, countCs, Bool.and_true, Nat.add_zero]
theorem nil_fits (P : Bool → Prop) (c : Nat) (p : Value) (b mb n d : Nat) (S : List Int) (w' : World) (hr : RoomC w' b mb (n + 1) (d + 1) S) (hn : n + 1 ≤ 600) (hp : P false) :
    Calls Try.prog 134 #[p, .nilIface] w' fun e w'' => ∃ r, e = .returned (.bool r) ∧ P r ∧ (∃ n' d' S', n' ≤ 601 ∧ d + 1 ≤ d' ∧ d' ≤ d + 2 ∧ RoomC w'' b mb n' d' S' ∧ (r = true → n' = n + c ∧ d' = d + 1 ∧ S' = S)) ∧ KeptC b mb w' w'' := by
  refine (fields_zero_any p w').mono ?_
  rintro e w'' ⟨rfl, rfl⟩
  exact ⟨false, rfl, hp, ⟨n + 1, d + 1, S, by omega, by omega, by omega, hr, fun h => by cases h⟩, KeptC.refl _ _ _⟩
theorem after {r0 : Bool} {c b mb n d : Nat} {S : List Int} {w : World} {e : Ending} {w' : World} (h : ∃ r, (r0 = r) ∧ HoldsC r c S b mb n d w e w') : HoldsC r0 c S b mb n d w e w' := by
  obtain ⟨r, rfl, h⟩ := h
  exact h
theorem leafPost {r : Bool} {c b mb n d : Nat} {S : List Int} {w' w'' : World} (hr : RoomC w' b mb (n + 1) (d + 1) S) (hn : n + 1 ≤ 600) (hb : Below w'.heap.size w' w'') (hc : c = 1) :
    (∃ n' d' S', n' ≤ 601 ∧ d + 1 ≤ d' ∧ d' ≤ d + 2 ∧ RoomC w'' b mb n' d' S' ∧ (r = true → n' = n + c ∧ d' = d + 1 ∧ S' = S)) ∧ KeptC b mb w' w'' :=
  ⟨⟨n + 1, d + 1, S, by omega, by omega, by omega, hr.later hb, fun _ => ⟨by rw [hc], rfl, rfl⟩⟩, KeptC.of_below hb (Nat.le_refl _)⟩
theorem count_one (k id : Int) (nm : ByteArray) (n : Int) (ids : List Int) (d : Fm) : (Ck.mk k id nm n ids d []).count = 1 := by rw [Ck.count_eq]; rfl
theorem inC_lt {B : Nat} {x : Ck} {v : Value} {w w' : World} (hb : Below B w w') (hB : B ≤ w'.heap.size) (h : InC (Pl B w) w x v) : InC (· < w'.heap.size) w' x v :=
  InC.mono (fun k hk => Nat.lt_of_lt_of_le hk.1 hB) _ _ (inC_plB hb h)
set_option maxRecDepth 100000 in
set_option maxHeartbeats 4000000 in
theorem hc_var (B : Nat) (id : Int) (nm : ByteArray) (x : Int) (ids : List Int) (f : Fm) (ks : List Ck) (i1 : Option Addr) (j1 : Nat) (s1 : Option Addr) (t1 : Nat) (k1 : Option Addr) (l1 : Nat) (a : Option Addr) (cap : Nat) (w : World) (b mb n d : Nat) (S : List Int)
    (hB : B ≤ b) (hM : B ≤ mb) (hs : B ≤ w.heap.size) (hr : RoomC w b mb n d S) (hn : n ≤ 600) (hd : d ≤ 120) (hv : InC (Pl B w) w (.mk 1 id nm x ids f ks) (CItem.val ⟨.mk 1 id nm x ids f ks, i1, j1, s1, t1, k1, l1, a, cap⟩)) (hsz : (Ck.mk 1 id nm x ids f ks).sz ≤ 1048576) (hroom : n + 1 ≤ 600 ∧ d + 1 ≤ 120) :
    Calls Try.prog 70 #[.pointer (some ⟨b, 0, none⟩), CItem.val ⟨.mk 1 id nm x ids f ks, i1, j1, s1, t1, k1, l1, a, cap⟩] w (HoldsC (okC S d n (.mk 1 id nm x ids f ks)) (Ck.mk 1 id nm x ids f ks).count S b mb n d w) := by
  have hparts := InC.parts hv
  simp only [Ck.kind, Ck.id, Ck.name, Ck.n, Ck.ids, Ck.data, Ck.kids] at hparts
  obtain ⟨hkb, hib, hxb, hmb, hids, hdat, hkids⟩ := hparts
  have hS : ∀ i ∈ S, 1 ≤ i ∧ i ≤ 999 := fun i hi => hr.set.small hi
  have hW : ∀ w', KeptC b mb w w' → InC (· < w'.heap.size) w' (.mk 1 id nm x ids f ks) (CItem.val ⟨.mk 1 id nm x ids f ks, i1, j1, s1, t1, k1, l1, a, cap⟩) := fun w' hk => inC_lt (hk.below hB hM hs) (by have := hk.size; omega) hv
  have hcv := cv_var (119 - d) S hS id nm x ids f ks
  cases hsm : nodeSameC (bareCk 1) (.mk 1 0 nm x ids f ks) with
  | false =>
    rw [hsm, Bool.false_and] at hcv
    have hok : okC S d n (.mk 1 id nm x ids f ks) = false := okC_leaf hroom (fun h => by cases h) hcv
    have h1 := holds_none_of B w b mb n d S hB hM hs hr hn hd hroom ⟨.mk 1 id nm x ids f ks, i1, j1, s1, t1, k1, l1, a, cap⟩ (Ck.mk 1 id nm x ids f ks).count (fun r => okC S d n (.mk 1 id nm x ids f ks) = r)
      (fun w' hk => node_var id nm x ids f ks i1 j1 s1 t1 k1 l1 a cap w' (hW w' hk) false hsm _ (fun h => by cases h) (fun _ => rfl))
      (fun w' hr' hk => nil_fits _ _ _ b mb n d S w' hr' hroom.1 hok)
    exact h1.mono fun e w' h => after h
  | true =>
    obtain rfl := same_kids hsm
    rw [hsm, Bool.true_and] at hcv
    have h1 := holds_var_of B w b mb n d S hB hM hs hr hn hd hroom ⟨.mk 1 id nm x ids f [], i1, j1, s1, t1, k1, l1, a, cap⟩ (.agg #[.int .i64 id]) (Ck.mk 1 id nm x ids f []).count (fun r => okC S d n (.mk 1 id nm x ids f []) = r)
      (fun w' hk => node_var id nm x ids f [] i1 j1 s1 t1 k1 l1 a cap w' (hW w' hk) true hsm _ (fun _ => rfl) (fun h => by cases h))
      (fun w' hr' hk => (var_fits_any b mb (n + 1) (d + 1) S id w' hr' hib).mono fun e w'' h => ⟨_, h.1, okC_leaf hroom (fun _ => rfl) (hcv), leafPost hr' hroom.1 h.2 (count_one _ _ _ _ _ _)⟩)
    exact h1.mono fun e w' h => after h
set_option maxRecDepth 100000 in
set_option maxHeartbeats 4000000 in
theorem hc_free (B : Nat) (id : Int) (nm : ByteArray) (x : Int) (ids : List Int) (f : Fm) (ks : List Ck) (i1 : Option Addr) (j1 : Nat) (s1 : Option Addr) (t1 : Nat) (k1 : Option Addr) (l1 : Nat) (a : Option Addr) (cap : Nat) (w : World) (b mb n d : Nat) (S : List Int)
    (hB : B ≤ b) (hM : B ≤ mb) (hs : B ≤ w.heap.size) (hr : RoomC w b mb n d S) (hn : n ≤ 600) (hd : d ≤ 120) (hv : InC (Pl B w) w (.mk 2 id nm x ids f ks) (CItem.val ⟨.mk 2 id nm x ids f ks, i1, j1, s1, t1, k1, l1, a, cap⟩)) (hsz : (Ck.mk 2 id nm x ids f ks).sz ≤ 1048576) (hroom : n + 1 ≤ 600 ∧ d + 1 ≤ 120) :
    Calls Try.prog 70 #[.pointer (some ⟨b, 0, none⟩), CItem.val ⟨.mk 2 id nm x ids f ks, i1, j1, s1, t1, k1, l1, a, cap⟩] w (HoldsC (okC S d n (.mk 2 id nm x ids f ks)) (Ck.mk 2 id nm x ids f ks).count S b mb n d w) := by
  have hparts := InC.parts hv
  simp only [Ck.kind, Ck.id, Ck.name, Ck.n, Ck.ids, Ck.data, Ck.kids] at hparts
  obtain ⟨hkb, hib, hxb, hmb, hids, hdat, hkids⟩ := hparts
  have hS : ∀ i ∈ S, 1 ≤ i ∧ i ≤ 999 := fun i hi => hr.set.small hi
  have hW : ∀ w', KeptC b mb w w' → InC (· < w'.heap.size) w' (.mk 2 id nm x ids f ks) (CItem.val ⟨.mk 2 id nm x ids f ks, i1, j1, s1, t1, k1, l1, a, cap⟩) := fun w' hk => inC_lt (hk.below hB hM hs) (by have := hk.size; omega) hv
  have hcv := cv_free (119 - d) S id nm x ids f ks
  cases hsm : nodeSameC (bareCk 2) (.mk 2 id ByteArray.empty x ids f ks) with
  | false =>
    rw [hsm, Bool.false_and] at hcv
    have hok : okC S d n (.mk 2 id nm x ids f ks) = false := okC_leaf hroom (fun h => by cases h) hcv
    have h1 := holds_none_of B w b mb n d S hB hM hs hr hn hd hroom ⟨.mk 2 id nm x ids f ks, i1, j1, s1, t1, k1, l1, a, cap⟩ (Ck.mk 2 id nm x ids f ks).count (fun r => okC S d n (.mk 2 id nm x ids f ks) = r)
      (fun w' hk => node_free id nm x ids f ks i1 j1 s1 t1 k1 l1 a cap w' (hW w' hk) false hsm _ (fun h => by cases h) (fun _ => rfl))
      (fun w' hr' hk => nil_fits _ _ _ b mb n d S w' hr' hroom.1 hok)
    exact h1.mono fun e w' h => after h
  | true =>
    obtain rfl := same_kids hsm
    rw [hsm, Bool.true_and] at hcv
    have h1 := holds_name_of B w b mb n d S hB hM hs hr hn hd hroom ⟨.mk 2 id nm x ids f [], i1, j1, s1, t1, k1, l1, a, cap⟩ (.agg #[.string nm, .slice none 0 0]) (Ck.mk 2 id nm x ids f []).count (fun r => okC S d n (.mk 2 id nm x ids f []) = r)
      (fun w' hk => node_free id nm x ids f [] i1 j1 s1 t1 k1 l1 a cap w' (hW w' hk) true hsm _ (fun _ => rfl) (fun h => by cases h))
      (fun w' hr' hk => (fields_name_any 0 _ w' (Nat.zero_le _) nm [] none 0 hmb nilRow).mono fun e w'' h => ⟨_, h.1, okC_leaf hroom (fun _ => rfl) (by rw [hcv, show scopesB [] = true from rfl, Bool.and_true]), leafPost hr' hroom.1 h.2 (count_one _ _ _ _ _ _)⟩)
    exact h1.mono fun e w' h => after h
set_option maxRecDepth 100000 in
set_option maxHeartbeats 4000000 in
theorem hc_num (B : Nat) (id : Int) (nm : ByteArray) (x : Int) (ids : List Int) (f : Fm) (ks : List Ck) (i1 : Option Addr) (j1 : Nat) (s1 : Option Addr) (t1 : Nat) (k1 : Option Addr) (l1 : Nat) (a : Option Addr) (cap : Nat) (w : World) (b mb n d : Nat) (S : List Int)
    (hB : B ≤ b) (hM : B ≤ mb) (hs : B ≤ w.heap.size) (hr : RoomC w b mb n d S) (hn : n ≤ 600) (hd : d ≤ 120) (hv : InC (Pl B w) w (.mk 3 id nm x ids f ks) (CItem.val ⟨.mk 3 id nm x ids f ks, i1, j1, s1, t1, k1, l1, a, cap⟩)) (hsz : (Ck.mk 3 id nm x ids f ks).sz ≤ 1048576) (hroom : n + 1 ≤ 600 ∧ d + 1 ≤ 120) :
    Calls Try.prog 70 #[.pointer (some ⟨b, 0, none⟩), CItem.val ⟨.mk 3 id nm x ids f ks, i1, j1, s1, t1, k1, l1, a, cap⟩] w (HoldsC (okC S d n (.mk 3 id nm x ids f ks)) (Ck.mk 3 id nm x ids f ks).count S b mb n d w) := by
  have hparts := InC.parts hv
  simp only [Ck.kind, Ck.id, Ck.name, Ck.n, Ck.ids, Ck.data, Ck.kids] at hparts
  obtain ⟨hkb, hib, hxb, hmb, hids, hdat, hkids⟩ := hparts
  have hS : ∀ i ∈ S, 1 ≤ i ∧ i ≤ 999 := fun i hi => hr.set.small hi
  have hW : ∀ w', KeptC b mb w w' → InC (· < w'.heap.size) w' (.mk 3 id nm x ids f ks) (CItem.val ⟨.mk 3 id nm x ids f ks, i1, j1, s1, t1, k1, l1, a, cap⟩) := fun w' hk => inC_lt (hk.below hB hM hs) (by have := hk.size; omega) hv
  have hcv := cv_num (119 - d) S id nm x ids f ks
  cases hsm : nodeSameC (bareCk 3) (.mk 3 id nm 0 ids f ks) with
  | false =>
    rw [hsm, Bool.false_and] at hcv
    have hok : okC S d n (.mk 3 id nm x ids f ks) = false := okC_leaf hroom (fun h => by cases h) hcv
    have h1 := holds_none_of B w b mb n d S hB hM hs hr hn hd hroom ⟨.mk 3 id nm x ids f ks, i1, j1, s1, t1, k1, l1, a, cap⟩ (Ck.mk 3 id nm x ids f ks).count (fun r => okC S d n (.mk 3 id nm x ids f ks) = r)
      (fun w' hk => node_num id nm x ids f ks i1 j1 s1 t1 k1 l1 a cap w' (hW w' hk) false hsm _ (fun h => by cases h) (fun _ => rfl))
      (fun w' hr' hk => nil_fits _ _ _ b mb n d S w' hr' hroom.1 hok)
    exact h1.mono fun e w' h => after h
  | true =>
    obtain rfl := same_kids hsm
    rw [hsm, Bool.true_and] at hcv
    have h1 := holds_num_of B w b mb n d S hB hM hs hr hn hd hroom ⟨.mk 3 id nm x ids f [], i1, j1, s1, t1, k1, l1, a, cap⟩ (.agg #[.int .i64 x]) (Ck.mk 3 id nm x ids f []).count (fun r => okC S d n (.mk 3 id nm x ids f []) = r)
      (fun w' hk => node_num id nm x ids f [] i1 j1 s1 t1 k1 l1 a cap w' (hW w' hk) true hsm _ (fun _ => rfl) (fun h => by cases h))
      (fun w' hr' hk => (fields_num_any _ w' x).mono fun e w'' h => ⟨_, h.1, okC_leaf hroom (fun _ => rfl) (hcv), leafPost hr' hroom.1 h.2 (count_one _ _ _ _ _ _)⟩)
    exact h1.mono fun e w' h => after h
set_option maxRecDepth 100000 in
set_option maxHeartbeats 4000000 in
theorem hc_quote (B : Nat) (id : Int) (nm : ByteArray) (x : Int) (ids : List Int) (f : Fm) (ks : List Ck) (i1 : Option Addr) (j1 : Nat) (s1 : Option Addr) (t1 : Nat) (k1 : Option Addr) (l1 : Nat) (a : Option Addr) (cap : Nat) (w : World) (b mb n d : Nat) (S : List Int)
    (hB : B ≤ b) (hM : B ≤ mb) (hs : B ≤ w.heap.size) (hr : RoomC w b mb n d S) (hn : n ≤ 600) (hd : d ≤ 120) (hv : InC (Pl B w) w (.mk 4 id nm x ids f ks) (CItem.val ⟨.mk 4 id nm x ids f ks, i1, j1, s1, t1, k1, l1, a, cap⟩)) (hsz : (Ck.mk 4 id nm x ids f ks).sz ≤ 1048576) (hroom : n + 1 ≤ 600 ∧ d + 1 ≤ 120) :
    Calls Try.prog 70 #[.pointer (some ⟨b, 0, none⟩), CItem.val ⟨.mk 4 id nm x ids f ks, i1, j1, s1, t1, k1, l1, a, cap⟩] w (HoldsC (okC S d n (.mk 4 id nm x ids f ks)) (Ck.mk 4 id nm x ids f ks).count S b mb n d w) := by
  have hparts := InC.parts hv
  simp only [Ck.kind, Ck.id, Ck.name, Ck.n, Ck.ids, Ck.data, Ck.kids] at hparts
  obtain ⟨hkb, hib, hxb, hmb, hids, hdat, hkids⟩ := hparts
  have hS : ∀ i ∈ S, 1 ≤ i ∧ i ≤ 999 := fun i hi => hr.set.small hi
  have hW : ∀ w', KeptC b mb w w' → InC (· < w'.heap.size) w' (.mk 4 id nm x ids f ks) (CItem.val ⟨.mk 4 id nm x ids f ks, i1, j1, s1, t1, k1, l1, a, cap⟩) := fun w' hk => inC_lt (hk.below hB hM hs) (by have := hk.size; omega) hv
  have hcv := cv_quote (119 - d) S id nm x ids f ks
  cases hsm : nodeSameC (bareCk 4) (.mk 4 id nm x ids zeroForm ks) with
  | false =>
    rw [hsm, Bool.false_and] at hcv
    have hok : okC S d n (.mk 4 id nm x ids f ks) = false := okC_leaf hroom (fun h => by cases h) hcv
    have h1 := holds_none_of B w b mb n d S hB hM hs hr hn hd hroom ⟨.mk 4 id nm x ids f ks, i1, j1, s1, t1, k1, l1, a, cap⟩ (Ck.mk 4 id nm x ids f ks).count (fun r => okC S d n (.mk 4 id nm x ids f ks) = r)
      (fun w' hk => node_quote id nm x ids f ks i1 j1 s1 t1 k1 l1 a cap w' (hW w' hk) false hsm _ (fun h => by cases h) (fun _ => rfl))
      (fun w' hr' hk => nil_fits _ _ _ b mb n d S w' hr' hroom.1 hok)
    exact h1.mono fun e w' h => after h
  | true =>
    obtain rfl := same_kids hsm
    rw [hsm, Bool.true_and] at hcv
    have hfz : f.sz ≤ 1048576 := by have := Ck.sz_eq (.mk 4 id nm x ids f []); simp only [Ck.data] at this; omega
    have hQ : ∀ w', KeptC b mb w w' → InV (Pl w'.heap.size w') w' f (Item.val ⟨f, s1, t1, k1, l1⟩) := fun w' hk => by
      have hbw := hk.below hB hM hs
      exact InV.mono (fun k hk' => ⟨by have := hk'.1; have := hk.size; omega, hk'.2.same (hbw.block _ hk'.1)⟩) _ _ (InV.later (fun k hk' => hbw.block k hk'.1) _ _ hdat)
    have h1 := holds_quote_of B w b mb n d S hB hM hs hr hn hd hroom ⟨.mk 4 id nm x ids f [], i1, j1, s1, t1, k1, l1, a, cap⟩ (Item.val ⟨f, s1, t1, k1, l1⟩) (Ck.mk 4 id nm x ids f []).count (fun r => okC S d n (.mk 4 id nm x ids f []) = r)
      (fun w' hk => node_quote id nm x ids f [] i1 j1 s1 t1 k1 l1 a cap w' (hW w' hk) true hsm _ (fun _ => rfl) (fun h => by cases h))
      (fun w' hr' hk => (quote_fits_any _ ⟨f, s1, t1, k1, l1⟩ w' (hQ w' hk) hfz).mono fun e w'' h => ⟨_, h.1, okC_leaf hroom (fun _ => rfl) (hcv), leafPost hr' hroom.1 h.2 (count_one _ _ _ _ _ _)⟩)
    exact h1.mono fun e w' h => after h
set_option maxRecDepth 100000 in
set_option maxHeartbeats 4000000 in
theorem hc_fun (B : Nat) (id : Int) (nm : ByteArray) (x : Int) (ids : List Int) (f : Fm) (ks : List Ck) (i1 : Option Addr) (j1 : Nat) (s1 : Option Addr) (t1 : Nat) (k1 : Option Addr) (l1 : Nat) (a : Option Addr) (cap : Nat) (w : World) (b mb n d : Nat) (S : List Int)
    (hB : B ≤ b) (hM : B ≤ mb) (hs : B ≤ w.heap.size) (hr : RoomC w b mb n d S) (hn : n ≤ 600) (hd : d ≤ 120) (hv : InC (Pl B w) w (.mk 5 id nm x ids f ks) (CItem.val ⟨.mk 5 id nm x ids f ks, i1, j1, s1, t1, k1, l1, a, cap⟩)) (hsz : (Ck.mk 5 id nm x ids f ks).sz ≤ 1048576) (hroom : n + 1 ≤ 600 ∧ d + 1 ≤ 120) (hk1 : ks.length = 1) (ih : ∀ g ∈ ks, HoldsSaid B g) :
    Calls Try.prog 70 #[.pointer (some ⟨b, 0, none⟩), CItem.val ⟨.mk 5 id nm x ids f ks, i1, j1, s1, t1, k1, l1, a, cap⟩] w (HoldsC (okC S d n (.mk 5 id nm x ids f ks)) (Ck.mk 5 id nm x ids f ks).count S b mb n d w) := by
  have hparts := InC.parts hv
  simp only [Ck.kind, Ck.id, Ck.name, Ck.n, Ck.ids, Ck.data, Ck.kids] at hparts
  obtain ⟨hkb, hib, hxb, hmb, hids, hdat, hkids⟩ := hparts
  have hS : ∀ i ∈ S, 1 ≤ i ∧ i ≤ 999 := fun i hi => hr.set.small hi
  have hW : ∀ w', KeptC b mb w w' → InC (· < w'.heap.size) w' (.mk 5 id nm x ids f ks) (CItem.val ⟨.mk 5 id nm x ids f ks, i1, j1, s1, t1, k1, l1, a, cap⟩) := fun w' hk => inC_lt (hk.below hB hM hs) (by have := hk.size; omega) hv
  have hcv := cv_fun (119 - d) S id nm x ids f ks hk1
  obtain ⟨g, rfl⟩ : ∃ g, ks = [g] := by
    match ks, hk1 with
    | [g], _ => exact ⟨g, rfl⟩
  obtain ⟨hc1, hc2, hc3⟩ := hkids
  rcases hc3 with h0 | ⟨kb, koff, rfl, hkb', hrow⟩
  · cases h0
  obtain ⟨q0, q1, q2, q3, q4, q5, q6, q7, h0, h1, h2, h3, h4, h5, h6, h7, h8, h9, h10, hin⟩ := hrow.at' 0 (by simp)
  simp only [Nat.zero_mul, Nat.add_zero, List.getElem_cons_zero] at h0 h1 h2 h3 h4 h5 h6 h7 h8 h9 h10 hin
  have hgz : g.sz ≤ 1048576 := by have := Ck.sz_eq (.mk 5 id nm x ids f [g]); have h2 := szCs_get [g] 0 (by simp); simp only [Ck.kids, List.getElem_cons_zero] at this h2; omega
  have hlist := okC_list (S := S) (T := S ++ ids) (d := d) (n := n) (x := .mk 5 id nm x ids f [g]) (ks := [g]) hroom rfl (hcv.trans (Bool.and_assoc _ _ _).symm)
  rw [okCs_one] at hlist
  have hcc : (Ck.mk 5 id nm x ids f [g]).count = g.count + 1 := by rw [Ck.count_eq]; simp only [Ck.kids, countCs]
  have hkc : ∀ w', KeptC b mb w w' → ∀ j (h : j < 11), w'.cell? ⟨kb, koff + j, none⟩ = some ([Value.int .i64 g.kind, .int .i64 g.id, .string g.name, .int .i64 g.n, .slice q0 g.ids.length q1, .int .i64 g.data.kind, .string g.data.name, .int .i64 g.data.n, .slice q2 g.data.scopes.length q3, .slice q4 g.data.kids.length q5, .slice q6 g.kids.length q7][j]'(by simpa using h)) := fun w' hk j hj => by
    rw [(hk.below hB hM hs).cell (p := ⟨kb, koff + j, none⟩) hkb'.1]
    match j, hj with
    | 0, _ => exact h0
    | 1, _ => exact h1
    | 2, _ => exact h2
    | 3, _ => exact h3
    | 4, _ => exact h4
    | 5, _ => exact h5
    | 6, _ => exact h6
    | 7, _ => exact h7
    | 8, _ => exact h8
    | 9, _ => exact h9
    | 10, _ => exact h10
    | j + 11, h => omega
  cases hsm : nodeSameC (bareCk 5) (.mk 5 id nm x [] f []) with
  | false =>
    rw [hsm, Bool.false_and, Bool.false_and] at hlist
    exact (holds_none_of B w b mb n d S hB hM hs hr hn hd hroom ⟨.mk 5 id nm x ids f [g], i1, j1, s1, t1, k1, l1, some ⟨kb, koff, none⟩, cap⟩ (Ck.mk 5 id nm x ids f [g]).count (fun r => okC S d n (.mk 5 id nm x ids f [g]) = r)
      (fun w' hk => node_fun id nm x ids f [g] i1 j1 s1 t1 k1 l1 cap w' kb koff (hW w' hk) (by have := hkb'.1; have := hk.size; omega) ⟨g, q0, q1, q2, q3, q4, q5, q6, q7⟩ (hkc w' hk) rfl false hsm _ (fun h => by cases h) (fun _ => rfl))
      (fun w' hr' hk => nil_fits _ _ _ b mb n d S w' hr' hroom.1 hlist)).mono fun e w' h => after h
  | true =>
    rw [hsm, Bool.true_and] at hlist
    exact (holds_fun_of B w b mb n d S hB hM hs hr hn hd hroom ⟨.mk 5 id nm x ids f [g], i1, j1, s1, t1, k1, l1, some ⟨kb, koff, none⟩, cap⟩ (.agg #[.slice i1 ids.length j1, .int .i64 g.kind, .int .i64 g.id, .string g.name, .int .i64 g.n, .slice q0 g.ids.length q1, .int .i64 g.data.kind, .string g.data.name, .int .i64 g.data.n, .slice q2 g.data.scopes.length q3, .slice q4 g.data.kids.length q5, .slice q6 g.kids.length q7]) (Ck.mk 5 id nm x ids f [g]).count (fun r => okC S d n (.mk 5 id nm x ids f [g]) = r)
      (fun w' hk => node_fun id nm x ids f [g] i1 j1 s1 t1 k1 l1 cap w' kb koff (hW w' hk) (by have := hkb'.1; have := hk.size; omega) ⟨g, q0, q1, q2, q3, q4, q5, q6, q7⟩ (hkc w' hk) rfl true hsm _ (fun _ => rfl) (fun h => by cases h))
      (fun w' hr' hk => (fun_fits_any B ids i1 j1 ⟨g, q0, q1, q2, q3, q4, q5, q6, q7⟩ w' b mb (n + 1) (d + 1) S hB hM (by have := hk.size; omega) hr' hroom.1 hroom.2
          ((hids.later (fun k hk' => (hk.below hB hM hs).block k hk'.1)).mono (fun k hk' => ⟨hk'.1, hk'.2.same ((hk.below hB hM hs).block _ hk'.1)⟩)) (inC_plB (hk.below hB hM hs) hin) hgz (ih g (by simp))).mono fun e w'' h => ⟨_, h.1, hlist, ⟨by
            obtain ⟨n', d', S', p1, p2, p3, p4, p5⟩ := h.2.1
            exact ⟨n', d', S', p1, p2, p3, p4, fun h => by obtain ⟨r1, r2, r3⟩ := p5 h; exact ⟨by rw [hcc, r1]; simp only; omega, r2, r3⟩⟩, h.2.2⟩⟩)).mono fun e w' h => after h
set_option maxRecDepth 100000 in
set_option maxHeartbeats 4000000 in
theorem hc_call (B : Nat) (k : Int) (id : Int) (nm : ByteArray) (x : Int) (ids : List Int) (f : Fm) (ks : List Ck) (i1 : Option Addr) (j1 : Nat) (s1 : Option Addr) (t1 : Nat) (k1 : Option Addr) (l1 : Nat) (a : Option Addr) (cap : Nat) (w : World) (b mb n d : Nat) (S : List Int)
    (hB : B ≤ b) (hM : B ≤ mb) (hs : B ≤ w.heap.size) (hr : RoomC w b mb n d S) (hn : n ≤ 600) (hd : d ≤ 120) (hv : InC (Pl B w) w (.mk k id nm x ids f ks) (CItem.val ⟨.mk k id nm x ids f ks, i1, j1, s1, t1, k1, l1, a, cap⟩)) (hsz : (Ck.mk k id nm x ids f ks).sz ≤ 1048576) (hroom : n + 1 ≤ 600 ∧ d + 1 ≤ 120) (e6 : (k = 6 ∧ 0 < ks.length) ∨ (k = 7 ∧ ks.length = 3)) (ih : ∀ g ∈ ks, HoldsSaid B g) :
    Calls Try.prog 70 #[.pointer (some ⟨b, 0, none⟩), CItem.val ⟨.mk k id nm x ids f ks, i1, j1, s1, t1, k1, l1, a, cap⟩] w (HoldsC (okC S d n (.mk k id nm x ids f ks)) (Ck.mk k id nm x ids f ks).count S b mb n d w) := by
  have hparts := InC.parts hv
  simp only [Ck.kind, Ck.id, Ck.name, Ck.n, Ck.ids, Ck.data, Ck.kids] at hparts
  obtain ⟨hkb, hib, hxb, hmb, hids, hdat, hkids⟩ := hparts
  have hS : ∀ i ∈ S, 1 ≤ i ∧ i ≤ 999 := fun i hi => hr.set.small hi
  have hW : ∀ w', KeptC b mb w w' → InC (· < w'.heap.size) w' (.mk k id nm x ids f ks) (CItem.val ⟨.mk k id nm x ids f ks, i1, j1, s1, t1, k1, l1, a, cap⟩) := fun w' hk => inC_lt (hk.below hB hM hs) (by have := hk.size; omega) hv
  have hcv := cv_call (119 - d) S id nm x ids f ks k e6
  have hlist := okC_list (S := S) (T := S) (d := d) (n := n) (x := .mk k id nm x ids f ks) (ks := ks) hroom rfl hcv
  have hcc : (Ck.mk k id nm x ids f ks).count = countCs ks + 1 := by rw [Ck.count_eq]; rfl
  have hkz : szCs ks ≤ 1048576 := by have := Ck.sz_eq (.mk k id nm x ids f ks); simp only [Ck.kids] at this; omega
  have hfit : ∀ (op : ByteArray) (P : Bool → Prop), P (okCs S (d + 1) (n + 1) ks) → ∀ w' : World, RoomC w' b mb (n + 1) (d + 1) S → KeptC b mb w w' → Calls Try.prog 269 #[.agg #[.string op, .slice a ks.length cap], .pointer (some ⟨b, 0, none⟩)] w' fun e w'' =>
      ∃ r, e = .returned (.bool r) ∧ P r ∧ (∃ n' d' S', n' ≤ 601 ∧ d + 1 ≤ d' ∧ d' ≤ d + 2 ∧ RoomC w'' b mb n' d' S' ∧ (r = true → n' = n + (Ck.mk k id nm x ids f ks).count ∧ d' = d + 1 ∧ S' = S)) ∧ KeptC b mb w' w'' := fun op P hP w' hr' hk =>
    (group_fits_any B op ks a cap w' b mb (n + 1) (d + 1) S hB hM (by have := hk.size; omega) hr' hroom.1 hroom.2 hkids.1 hkids.2.1 (by
      rcases hkids.2.2 with h | ⟨kb, off, h1, h2, h3⟩
      · exact .inl h
      · exact .inr ⟨kb, off, h1, ⟨h2.1, h2.2.same ((hk.below hB hM hs).block _ h2.1)⟩, rowC_plB (hk.below hB hM hs) h2 h3⟩) hkz ih).mono fun e w'' h => ⟨_, h.1, hP, ⟨by
        obtain ⟨n', d', S', p1, p2, p3, p4, p5⟩ := h.2.1
        exact ⟨n', d', S', p1, p2, p3, p4, fun h => by obtain ⟨r1, r2, r3⟩ := p5 h; exact ⟨by rw [hcc, r1]; omega, r2, r3⟩⟩, h.2.2⟩⟩
  cases hsm : nodeSameC (bareCk k) (.mk k id nm x ids f []) with
  | false =>
    rw [hsm, Bool.false_and] at hlist
    rcases e6 with ⟨rfl, h6⟩ | ⟨rfl, h7⟩
    · exact (holds_none_of B w b mb n d S hB hM hs hr hn hd hroom ⟨.mk 6 id nm x ids f ks, i1, j1, s1, t1, k1, l1, a, cap⟩ (Ck.mk 6 id nm x ids f ks).count (fun r => okC S d n (.mk 6 id nm x ids f ks) = r)
        (fun w' hk => node_call id nm x ids f ks i1 j1 s1 t1 k1 l1 a cap w' (hW w' hk) h6 false hsm _ (fun h => by cases h) (fun _ => rfl))
        (fun w' hr' hk => nil_fits _ _ _ b mb n d S w' hr' hroom.1 hlist)).mono fun e w' h => after h
    · exact (holds_none_of B w b mb n d S hB hM hs hr hn hd hroom ⟨.mk 7 id nm x ids f ks, i1, j1, s1, t1, k1, l1, a, cap⟩ (Ck.mk 7 id nm x ids f ks).count (fun r => okC S d n (.mk 7 id nm x ids f ks) = r)
        (fun w' hk => node_if id nm x ids f ks i1 j1 s1 t1 k1 l1 a cap w' (hW w' hk) h7 false hsm _ (fun h => by cases h) (fun _ => rfl))
        (fun w' hr' hk => nil_fits _ _ _ b mb n d S w' hr' hroom.1 hlist)).mono fun e w' h => after h
  | true =>
    rw [hsm, Bool.true_and] at hlist
    rcases e6 with ⟨rfl, h6⟩ | ⟨rfl, h7⟩
    · exact (holds_group_of B w b mb n d S hB hM hs hr hn hd hroom ⟨.mk 6 id nm x ids f ks, i1, j1, s1, t1, k1, l1, a, cap⟩ (.agg #[.string { data := #[40] }, .slice a ks.length cap]) (Ck.mk 6 id nm x ids f ks).count (fun r => okC S d n (.mk 6 id nm x ids f ks) = r)
        (fun w' hk => node_call id nm x ids f ks i1 j1 s1 t1 k1 l1 a cap w' (hW w' hk) h6 true hsm _ (fun _ => rfl) (fun h => by cases h))
        (hfit _ _ hlist)).mono fun e w' h => after h
    · exact (holds_group_of B w b mb n d S hB hM hs hr hn hd hroom ⟨.mk 7 id nm x ids f ks, i1, j1, s1, t1, k1, l1, a, cap⟩ (.agg #[.string { data := #[40, 105, 102, 32] }, .slice a ks.length cap]) (Ck.mk 7 id nm x ids f ks).count (fun r => okC S d n (.mk 7 id nm x ids f ks) = r)
        (fun w' hk => node_if id nm x ids f ks i1 j1 s1 t1 k1 l1 a cap w' (hW w' hk) h7 true hsm _ (fun _ => rfl) (fun h => by cases h))
        (hfit _ _ hlist)).mono fun e w' h => after h
set_option maxRecDepth 100000 in
set_option maxHeartbeats 4000000 in
theorem hc_none (B : Nat) (k : Int) (id : Int) (nm : ByteArray) (x : Int) (ids : List Int) (f : Fm) (ks : List Ck) (i1 : Option Addr) (j1 : Nat) (s1 : Option Addr) (t1 : Nat) (k1 : Option Addr) (l1 : Nat) (a : Option Addr) (cap : Nat) (w : World) (b mb n d : Nat) (S : List Int)
    (hB : B ≤ b) (hM : B ≤ mb) (hs : B ≤ w.heap.size) (hr : RoomC w b mb n d S) (hn : n ≤ 600) (hd : d ≤ 120) (hv : InC (Pl B w) w (.mk k id nm x ids f ks) (CItem.val ⟨.mk k id nm x ids f ks, i1, j1, s1, t1, k1, l1, a, cap⟩)) (hsz : (Ck.mk k id nm x ids f ks).sz ≤ 1048576) (hroom : n + 1 ≤ 600 ∧ d + 1 ≤ 120) (e1 : k ≠ 1) (e2 : k ≠ 2) (e3 : k ≠ 3) (e4 : k ≠ 4) (e5 : ¬ (k = 5 ∧ ks.length = 1)) (e6 : ¬ (k = 6 ∧ 0 < ks.length)) (e7 : ¬ (k = 7 ∧ ks.length = 3)) :
    Calls Try.prog 70 #[.pointer (some ⟨b, 0, none⟩), CItem.val ⟨.mk k id nm x ids f ks, i1, j1, s1, t1, k1, l1, a, cap⟩] w (HoldsC (okC S d n (.mk k id nm x ids f ks)) (Ck.mk k id nm x ids f ks).count S b mb n d w) := by
  have hparts := InC.parts hv
  simp only [Ck.kind, Ck.id, Ck.name, Ck.n, Ck.ids, Ck.data, Ck.kids] at hparts
  obtain ⟨hkb, hib, hxb, hmb, hids, hdat, hkids⟩ := hparts
  have hS : ∀ i ∈ S, 1 ≤ i ∧ i ≤ 999 := fun i hi => hr.set.small hi
  have hW : ∀ w', KeptC b mb w w' → InC (· < w'.heap.size) w' (.mk k id nm x ids f ks) (CItem.val ⟨.mk k id nm x ids f ks, i1, j1, s1, t1, k1, l1, a, cap⟩) := fun w' hk => inC_lt (hk.below hB hM hs) (by have := hk.size; omega) hv
  have hno : okC S d n (.mk k id nm x ids f ks) = false := by
    unfold okC
    rw [cv_none (120 - d) S id nm x ids f ks k e1 e2 e3 e4 e5 e6 e7, Bool.false_and]
  have h1 := holds_none_of B w b mb n d S hB hM hs hr hn hd hroom ⟨.mk k id nm x ids f ks, i1, j1, s1, t1, k1, l1, a, cap⟩ (Ck.mk k id nm x ids f ks).count (fun r => okC S d n (.mk k id nm x ids f ks) = r)
    (fun w' hk => node_none id nm x ids f ks i1 j1 s1 t1 k1 l1 a cap w' k e1 e2 e3 e4 e5 e6 e7 (hW w' hk))
    (fun w' hr' hk => nil_fits _ _ _ b mb n d S w' hr' hroom.1 hno)
  exact h1.mono fun e w' h => after h
theorem holdsC_any (B : Nat) (f : Ck) : HoldsSaid B f := by
  induction f using Ck.ind with
  | h k id nm x ids f ks ih =>
    intro y w b mb n d S hy hB hM hs hr hn hd hv hsz
    obtain ⟨g, i1, j1, s1, t1, k1, l1, a, cap⟩ := y
    change g = _ at hy
    subst hy
    by_cases hroom : n + 1 ≤ 600 ∧ d + 1 ≤ 120
    rotate_left
    · rw [okC_full _ hroom]
      exact holds_full_of w b mb n d S hr hn hd hroom _ _ _ _ _ _ _ _ _ _ _ _
    by_cases e1 : k = 1
    · subst e1; exact hc_var B id nm x ids f ks i1 j1 s1 t1 k1 l1 a cap w b mb n d S hB hM hs hr hn hd hv hsz hroom
    by_cases e2 : k = 2
    · subst e2; exact hc_free B id nm x ids f ks i1 j1 s1 t1 k1 l1 a cap w b mb n d S hB hM hs hr hn hd hv hsz hroom
    by_cases e3 : k = 3
    · subst e3; exact hc_num B id nm x ids f ks i1 j1 s1 t1 k1 l1 a cap w b mb n d S hB hM hs hr hn hd hv hsz hroom
    by_cases e4 : k = 4
    · subst e4; exact hc_quote B id nm x ids f ks i1 j1 s1 t1 k1 l1 a cap w b mb n d S hB hM hs hr hn hd hv hsz hroom
    by_cases e5 : k = 5 ∧ ks.length = 1
    · obtain ⟨rfl, hk1⟩ := e5
      exact hc_fun B id nm x ids f ks i1 j1 s1 t1 k1 l1 a cap w b mb n d S hB hM hs hr hn hd hv hsz hroom hk1 ih
    by_cases e6 : (k = 6 ∧ 0 < ks.length) ∨ (k = 7 ∧ ks.length = 3)
    · exact hc_call B k id nm x ids f ks i1 j1 s1 t1 k1 l1 a cap w b mb n d S hB hM hs hr hn hd hv hsz hroom e6 ih
    exact hc_none B k id nm x ids f ks i1 j1 s1 t1 k1 l1 a cap w b mb n d S hB hM hs hr hn hd hv hsz hroom e1 e2 e3 e4 e5 (fun h => e6 (.inl h)) (fun h => e6 (.inr h))
end
end Go.Proofs.Ytbclgmabidjegaa.CoreT
namespace Go.Proofs.Ytbclgmabidjegaa.CoreT
section
open Go.RowKit
set_option linter.unusedVariables false
set_option linter.unusedSimpArgs false
/-- whether a core program is valid -/
def validC (x : Ck) : Bool := coreB 120 [] x && decide (x.count ≤ 600)
theorem validC_ok (x : Ck) : okC [] 0 0 x = validC x := by unfold okC validC; rw [Nat.zero_add]
set_option maxRecDepth 100000 in
set_option maxHeartbeats 4000000 in
theorem implCoreValid_any (x : CItem) (w : World) (hv : InC (Pl w.heap.size w) w x.f x.val) (hsz : x.f.sz ≤ 1048576) :
    Calls Try.prog 16 #[x.val] w fun e w' => e = .returned (.bool (validC x.f)) ∧ Below w.heap.size w w' := by
  have HV := Lib.hid hv
  clear hv
  rw [CItem.val_eq]
  obtain ⟨w0, hw0⟩ : ∃ w0, w0 = w.alloc (.cells #[.int .i64 x.f.kind, .int .i64 x.f.id, .string x.f.name, .int .i64 x.f.n, .slice x.i1 x.f.ids.length x.j1, .int .i64 x.f.data.kind, .string x.f.data.name, .int .i64 x.f.data.n, .slice x.s1 x.f.data.scopes.length x.t1, .slice x.k1 x.f.data.kids.length x.l1, .slice x.a x.f.kids.length x.cap] 36) := ⟨_, rfl⟩
  have HB0 : Hid (Below w.heap.size w w0) := by rw [hw0]; exact below_alloc w _
  have HX0 : Hid (CoreBox w0 w.heap.size x) := by rw [hw0]; exact CoreBox.fresh w x _
  have hz0 : w0.heap.size = w.heap.size + 1 := by rw [hw0]; simp
  have HZ0 := Lib.hid hz0
  have hs0 : w.heap.size + 1 ≤ w0.heap.size := by omega
  have HW0 := Lib.hid hw0
  clear hw0 hz0
  go_enter Try.func16, Try.ntmps16
  go_upto_region 1 with fail
  rw [← HW0.out]
  clear HW0
  have hmk := make_intMap w0
  have hbm := below_alloc w0 (.map #[] 0)
  have hsm : (w0.alloc (.map #[] 0)).heap.size = w0.heap.size + 1 := by simp
  obtain ⟨w1, hw1⟩ : ∃ w1, w1 = w0.alloc (.map #[] 0) := ⟨_, rfl⟩
  have HM1 : Hid (MapI w1 w0.heap.size []) := by rw [hw1]; exact mapI_new w0
  rw [← hw1] at hmk hbm hsm
  have hs1 : w0.heap.size + 1 ≤ w1.heap.size := by omega
  have HS1 := Lib.hid hsm
  have HX1 := Lib.hid (HX0.out.later hbm)
  have HB1 : Hid (Below w.heap.size w w1) := HB0.out.trans (hbm.mono (by omega))
  have HW1 := Lib.hid hw1
  clear hbm hw1 hsm HX0
  go_upto_region 2 with fail
  obtain ⟨v1, hv1⟩ : ∃ v1, v1 = (w1.alloc (.cells #[.int .i64 0, .int .i64 0, .map (some w0.heap.size)] 108)) := ⟨_, rfl⟩
  have hbv : Below w1.heap.size w1 v1 := by rw [hv1]; exact below_alloc _ _
  have HR : Hid (RoomC v1 w1.heap.size w0.heap.size 0 0 []) := by
    unfold Hid
    rw [hv1]
    exact ⟨⟨World.cell?_alloc_at _ _ _ _ rfl, World.cell?_alloc_at _ _ _ _ rfl, World.frozen?_alloc_at _ _ _ _ rfl, World.frozen?_alloc_at _ _ _ _ rfl⟩, World.cell?_alloc_at _ _ _ _ rfl, HM1.out.later (below_alloc _ _), by omega⟩
  have hsv : w1.heap.size + 1 ≤ v1.heap.size := by rw [hv1]; simp
  have HX2 := Lib.hid (HX1.out.later hbv)
  have HBV : Hid (Below w.heap.size w v1) := HB1.out.trans (hbv.mono (by omega))
  have HV1 := Lib.hid hv1
  clear hv1 hbv HX1
  rw [← HV1.out]
  clear HV1
  obtain ⟨x0, x1, x2, x3, x4, x5, x6, x7, x8, x9, x10⟩ := HX2.out
  go_wp2_with fail
  refine (holdsC_any w.heap.size x.f x v1 w1.heap.size w0.heap.size 0 0 [] rfl (by omega) (by omega) (by omega) HR.out (by omega) (by omega) (inC_plB HBV.out HV.out) hsz).mono ?_
  rintro e w2 ⟨rfl, _, hk⟩
  rw [validC_ok]
  have HB2 : Hid (Below w.heap.size w w2) := HBV.out.trans (hk.below (by omega) (by omega) (by omega))
  clear hk x0 x1 x2 x3 x4 x5 x6 x7 x8 x9 x10
  go_wp2_with fail
  go_ret
  exact ⟨rfl, HB2.out⟩
set_option maxRecDepth 100000 in
set_option maxHeartbeats 4000000 in
theorem specCoreValid_any (x : CItem) (w : World) (hv : InC (· < w.heap.size) w x.f x.val) (hsz : x.f.sz ≤ 1048576) :
    Calls Try.prog 14 #[x.val] w fun e w' => e = .returned (.bool (validC x.f)) ∧ Below w.heap.size w w' := by
  have HV := Lib.hid hv
  have hcs := x.f.count_le
  clear hv
  rw [CItem.val_eq]
  obtain ⟨w0, hw0⟩ : ∃ w0, w0 = w.alloc (.cells #[.int .i64 x.f.kind, .int .i64 x.f.id, .string x.f.name, .int .i64 x.f.n, .slice x.i1 x.f.ids.length x.j1, .int .i64 x.f.data.kind, .string x.f.data.name, .int .i64 x.f.data.n, .slice x.s1 x.f.data.scopes.length x.t1, .slice x.k1 x.f.data.kids.length x.l1, .slice x.a x.f.kids.length x.cap] 36) := ⟨_, rfl⟩
  have HB0 : Hid (Below w.heap.size w w0) := by rw [hw0]; exact below_alloc w _
  have HX0 : Hid (CoreBox w0 w.heap.size x) := by rw [hw0]; exact CoreBox.fresh w x _
  have hs0 : w.heap.size + 1 ≤ w0.heap.size := by rw [hw0]; simp
  have HW0 := Lib.hid hw0
  clear hw0
  go_enter Try.func14, Try.ntmps14
  go_upto_region 1 with fail
  rw [← HW0.out]
  clear HW0
  obtain ⟨x0, x1, x2, x3, x4, x5, x6, x7, x8, x9, x10⟩ := HX0.out
  go_wp2_with fail
  refine (l6Is_any 120 w0.heap.size x [] _ _ (by omega) (by simp) (InC.later (same_below ((Below.refl _ w0).alloc (Nat.le_refl _) _)) _ _ (InC.mono (fun k (hk : k < w.heap.size) => by show k < _; omega) _ _ (InC.later (same_below HB0.out) _ _ HV.out))) ⟨some ⟨w0.heap.size, 0, none⟩, 0, rfl, Nat.le_refl _, Nat.zero_le _, fun n hn => (by cases hn), .inl rfl⟩ (by simp; exact hsz)).mono ?_
  rintro e w1 ⟨rfl, hb1⟩
  have hb1' : Below w0.heap.size w0 w1 := ((Below.refl _ w0).alloc (Nat.le_refl _) _).trans (hb1.mono (by simp))
  have hs1 : w0.heap.size ≤ w1.heap.size := hb1'.size
  have HX1 := Lib.hid (HX0.out.later hb1')
  have HB1 : Hid (Below w.heap.size w w1) := HB0.out.trans (hb1'.mono (by omega))
  clear hb1 hb1' x0 x1 x2 x3 x4 x5 x6 x7 x8 x9 x10 HX0
  cases hc : coreB 120 [] x.f with
  | false =>
    have HE : Hid (validC x.f = false) := by unfold Hid validC; rw [hc, Bool.false_and]
    clear hc
    go_wp2_with fail
    go_ret
    exact ⟨ret_bool HE.out.symm, HB1.out⟩
  | true =>
    have HE : Hid (validC x.f = decide (x.f.count ≤ 600)) := by unfold Hid validC; rw [hc, Bool.true_and]
    clear hc
    obtain ⟨x0, x1, x2, x3, x4, x5, x6, x7, x8, x9, x10⟩ := HX1.out
    go_wp2_with fail
    refine (l6Count_any w.heap.size x.f _ w1 (by omega) (InC.later (same_below HB1.out) _ _ HV.out) (by omega)).mono ?_
    rintro e w2 ⟨rfl, hb2⟩
    have HB2 : Hid (Below w.heap.size w w2) := HB1.out.trans (hb2.mono (by omega))
    clear hb2 x0 x1 x2 x3 x4 x5 x6 x7 x8 x9 x10
    by_cases hle : x.f.count ≤ 600
    · have HF : Hid (validC x.f = true) := by unfold Hid; rw [HE.out, decide_eq_true hle]
      have hd : decide ((x.f.count : Int) ≤ 600) = true := by rw [decide_eq_true_eq]; omega
      clear hle
      go_wp2_with fail
      go_ret
      exact ⟨ret_bool HF.out.symm, HB2.out⟩
    · have HF : Hid (validC x.f = false) := by unfold Hid; rw [HE.out, decide_eq_false hle]
      have hd : decide ((x.f.count : Int) ≤ 600) = false := by rw [decide_eq_false_iff_not]; omega
      clear hle
      go_wp2_with fail
      go_ret
      exact ⟨ret_bool HF.out.symm, HB2.out⟩
end
end Go.Proofs.Ytbclgmabidjegaa.CoreT
