/- The contract of the model's draw of an argument of BindsValid. -/
import Derived.Test.YtcckhcedfmadeaaDrawWrong2
import Derived.Test.YtcckhcedfmadeaaOpenBy
namespace Go.Proofs.Ytcckhcedfmadeaa
open Go.RowKit
set_option linter.unusedVariables false
set_option linter.unusedSimpArgs false
/-- what the draw leaves -/
def BindsDrawn (w : World) (e : Ending) (w' : World) : Prop :=
  ∃ l v, e = .returned v ∧ BdRow (fun k => w.heap.size ≤ k ∧ k < w'.heap.size) w' v l ∧ l.length ≤ 9 ∧ (∀ x ∈ l, x.scopes.length ≤ 5) ∧ Below w.heap.size w w'
set_option maxRecDepth 100000 in
set_option maxHeartbeats 4000000 in
theorem drawBindsValid_any (v : Value) (n : Nat) (w : World) (h : Bytes w v n) : Calls Try.prog 23 #[v] w (BindsDrawn w) := by
  obtain ⟨a, cap, rfl, hcap, hmax, hrow⟩ := h
  have HROW0 := Lib.hid hrow
  clear hrow
  go_enter Try.func23, Try.ntmps23
  go_wp2_with fail
  refine (open_any a n cap _ HROW0.out hcap hmax).mono ?_
  rintro e w1 ⟨b, rfl, hb, hrd, hbl⟩
  have hs1 : w.heap.size ≤ w1.heap.size := hbl.size
  have HB1 : Hid (Below w.heap.size w w1) := hbl
  have hbw := hrd.lt
  have HR1 := Lib.hid hrd
  clear hrd hbl
  go_wp2_with fail
  refine (l3Draw_any HR1.out (by omega)).mono ?_
  rintro e w2 ⟨l, v2, p2, rfl, hrow2, hl2, ht2, hp2, hr2, hk2⟩
  have hs2 := hk2.size
  have HROW2 := Lib.hid hrow2
  have HT2 := Lib.hid ht2
  have HR2 := Lib.hid hr2
  have HK2 := Lib.hid hk2
  clear hrow2 ht2 hr2 hk2 HR1
  go_wp2_with fail
  refine (l3Wrong_any (m := 3) l v2 HR2.out (by omega) (bd_mono (φ := fun k => w1.heap.size ≤ k ∧ k < w2.heap.size) (fun k hk => hk.2) HROW2.out) (by omega) (by omega) (fun x hx => (HT2.out x hx).2)).mono ?_
  rintro e w3 ⟨l3, v3, p3, rfl, hrow3, hl3, ht3, hp3, hr3, hk3⟩
  have hs3 := hk3.size
  have HROW3 := Lib.hid hrow3
  have HT3 := Lib.hid ht3
  have HR3 := Lib.hid hr3
  have HK3 : Hid (Kept b 1 2 w1 w3) := HK2.out.trans hk3
  clear hrow3 ht3 hr3 hk3 HR2 HK2
  go_wp2_with fail
  refine (l3Wrong_any (m := 4) l3 v3 HR3.out (by omega) (bd_mono (φ := fun k => w2.heap.size ≤ k ∧ k < w3.heap.size) (fun k hk => hk.2) HROW3.out) (by omega) (by omega) (fun x hx => HT3.out x hx)).mono ?_
  rintro e w4 ⟨l4, v4, p4, rfl, hrow4, hl4, ht4, hp4, hr4, hk4⟩
  have hs4 := hk4.size
  have HROW4 := Lib.hid hrow4
  have HT4 := Lib.hid ht4
  have HK4 : Hid (Kept b 1 2 w1 w4) := HK3.out.trans hk4
  clear hrow4 ht4 hr4 hk4 HR3 HK3
  go_wp2_with fail
  go_ret
  exact ⟨l4, v4, rfl, bd_mono (φ := fun k => w3.heap.size ≤ k ∧ k < w4.heap.size) (fun k hk => ⟨by omega, hk.2⟩) HROW4.out, by omega, HT4.out, HB1.out.trans (HK4.out.below (by omega) (by omega))⟩
end Go.Proofs.Ytcckhcedfmadeaa
