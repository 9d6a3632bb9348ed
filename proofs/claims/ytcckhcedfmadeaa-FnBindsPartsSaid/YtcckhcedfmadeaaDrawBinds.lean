/- The contract of the model's draw of bindings. -/
import Derived.Test.YtcckhcedfmadeaaDrawPick
import Derived.Test.YtcckhcedfmadeaaCopyDress
import Derived.Test.YtcckhcedfmadeaaSpecAdd
namespace Go.Proofs.Ytcckhcedfmadeaa
open Go.RowKit
set_option linter.unusedVariables false
set_option linter.unusedSimpArgs false
def names3 : List ByteArray := [⟨#[120]⟩, ⟨#[120]⟩, ⟨#[121]⟩]
theorem names3_size : ∀ y ∈ names3, y.size ≤ 13 := by decide
theorem strs3_at (w : World) (T : TypeId) : ∀ i, (h : i < names3.length) → (w.alloc (.cells (names3.map Value.string).toArray T)).cell? ⟨w.heap.size, 0 + i, none⟩ = some (.string names3[i]) := fun i h => by
  rw [Nat.zero_add]
  exact (World.cell?_alloc_at _ _ _ _ rfl).trans (by simp [h])
theorem nm_slim3 (s : ByteArray) (h : s.size ≤ 13) (k : Nat) : Slim 121 13 k (.mk 1 s 0 [] []) := by
  have := Slim.node (m := 0) (kd := 1) (n := 0) (sc := []) h (Nat.zero_le k) (SlimAll.nil 0 13 k)
  exact this.mono (by omega) (Nat.le_refl _) (Nat.le_refl _)
theorem nmIn3 (φ : Nat → Prop) (w : World) (s : ByteArray) (h : s.size ≤ 13) : InV φ w (.mk 1 s 0 [] []) (.agg #[.int .i64 1, .string s, .int .i64 0, .slice none 0 0, .slice none 0 0]) := inV_leaf φ w 1 s 0 (by omega) (by omega) (by unfold maxLen; omega)
/-- bindings with short names and few scopes -/
def ThinB (l : List Bd) : Prop := ∀ x ∈ l, x.name.size ≤ 13 ∧ x.scopes.length ≤ 3
/-- what the draw of bindings leaves -/
def BindsPost (B b p K : Nat) (w : World) (e : Ending) (w' : World) : Prop :=
  ∃ l v p', e = .returned v ∧ BdRow (fun k => w.heap.size ≤ k ∧ k < w'.heap.size) w' v l ∧ l.length ≤ 7 ∧ ThinB l ∧ p' ≤ p + K ∧ Rd B w' b p' ∧ Kept b 1 2 w w'
set_option maxRecDepth 100000 in
set_option maxHeartbeats 4000000 in
theorem l3Draw_any {B b p : Nat} {w : World} (hr : Rd B w b p) (hp : p ≤ 200000) :
    Calls Try.prog 67 #[.pointer (some ⟨b, 0, none⟩)] w (BindsPost B b p 15 w) := by
  have HR := Lib.hid hr
  have hbw := hr.lt
  obtain ⟨w0, hw0⟩ : ∃ w0, w0 = w.alloc (.cells #[] 89) := ⟨_, rfl⟩
  have hz0 : w0.heap.size = w.heap.size + 1 := by rw [hw0]; simp
  have hb0 : Below w.heap.size w w0 := by rw [hw0]; exact below_alloc _ _
  have hbA : Below w.heap.size w (w0.alloc (.cells (([3, 2, 5, 1, 0, 7] : List Int).map (Value.int .i64)).toArray 3)) := hb0.alloc (by omega) _
  have HBA := Lib.hid hbA
  have HRA := Lib.hid (HR.out.later hbA)
  have HROW : Hid (IntRow (fun k => k < (w0.alloc (.cells (([3, 2, 5, 1, 0, 7] : List Int).map (Value.int .i64)).toArray 3)).heap.size ∧ k ≠ b) (w0.alloc (.cells (([3, 2, 5, 1, 0, 7] : List Int).map (Value.int .i64)).toArray 3)) (.slice (some ⟨w.heap.size + 1, 0, none⟩) 6 6) ([3, 2, 5, 1, 0, 7] : List Int)) := by
    unfold Hid
    rw [← hz0]
    exact (row_new w0 3 ([3, 2, 5, 1, 0, 7] : List Int) (by simp) (by decide)).mono (fun k (hk : k = w0.heap.size) => ⟨by rw [size_alloc']; omega, by omega⟩)
  have HW0 := Lib.hid hw0
  clear hr hb0 hbA hw0
  go_enter Try.func67, Try.ntmps67
  go_wp2_with fail
  rw [← HW0.out]
  refine (num_any b p ([3, 2, 5, 1, 0, 7] : List Int) _ _ HRA.out (by omega) HROW.out (by simp) (by simp)).mono ?_
  rintro e w1 ⟨x', hx, rfl, hr1, hk1⟩
  have hs1 : w.heap.size + 2 ≤ w1.heap.size := by have := hk1.size; rw [size_alloc'] at this; omega
  obtain ⟨x, hx2, hx7⟩ : ∃ d : Nat, x' = (d : Int) ∧ d ≤ 7 := by
    have h : ∀ y ∈ ([3, 2, 5, 1, 0, 7] : List Int), 0 ≤ y ∧ y ≤ 7 := by decide
    have h1 := h x' hx
    exact ⟨x'.toNat, by omega, by omega⟩
  subst hx2
  have HK1 : Hid (Kept b 1 2 w w1) := (Kept.of_below HBA.out hbw).trans hk1
  have HR1 := Lib.hid hr1
  have HV1 : Hid (BdRow (fun k => w.heap.size ≤ k ∧ k < w1.heap.size) w1 (.slice (some ⟨w.heap.size, 0, none⟩) 0 0) []) := ⟨_, 0, rfl, Nat.le_refl _, Nat.zero_le _, fun x hx => (by cases hx), .inl rfl⟩
  clear hx hr1 hk1 HBA HRA HROW
  go_wp2_with fail
  go_loopw [3, 4, 5, 6] (fun v i _ _ wr => ∃ (j q : Nat) (l : List Bd), i = .int .i64 j ∧ j + l.length ≤ x ∧ ThinB l ∧ q + j * 2 ≤ p + 1 + x * 2 ∧ BdRow (fun k => w.heap.size ≤ k ∧ k < wr.heap.size) wr v l ∧ Rd B wr b q ∧ Kept b 1 2 w wr) (fun _ i _ _ _ => (intOf i).toNat)
  case atStart => exact ⟨x, p + 1, [], rfl, by simp, fun x hx => (by cases hx), by omega, HV1.out, HR1.out, HK1.out⟩
  case round =>
    obtain ⟨j, q, l, rfl, hj, hthin, hq, hv, hrd, hk⟩ := hrel
    have HT := Lib.hid hthin
    have HV := Lib.hid hv
    have HRD := Lib.hid hrd
    have HK := Lib.hid hk
    have hsz := hk.size
    have hbr := hrd.lt
    have hll : l.length ≤ 7 := by omega
    obtain ⟨va, vc, rfl, _⟩ := (show BdRow (fun k => w.heap.size ≤ k ∧ k < wr.heap.size) wr u3 l from hv)
    clear hthin hv hrd hk
    by_cases hlt : 0 < j
    · have HW : Hid ((j : Int) - 1 = ((j - 1 : Nat) : Int)) := by
        unfold Hid
        omega
      have hj0 : (0 : Int) < (j : Int) := by omega
      have HBN := Lib.hid (below_alloc wr (.cells (names3.map Value.string).toArray 9))
      have HRN := Lib.hid (HRD.out.later HBN.out)
      have HCN := Lib.hid (strs3_at wr 9)
      go_wp2_with fail
      refine (of_any b q names3 wr.heap.size 0 3 _ HRN.out (by omega) (by omega) HCN.out (by simp [names3]) (by simp [names3]) (by simp [names3])).mono ?_
      rintro e w2 ⟨s, hs, rfl, hr2, hk2⟩
      have hs2 : wr.heap.size + 1 ≤ w2.heap.size := by have := hk2.size; simpa using this
      have HK2 : Hid (Kept b 1 2 wr w2) := (Kept.of_below HBN.out hbr).trans hk2
      have HR2 := Lib.hid hr2
      have HSZ := Lib.hid (names3_size s hs)
      clear hr2 hk2 hs HBN HRN HCN
      go_wp2_with fail
      refine (l1Name_any s w2).mono ?_
      rintro e w3 ⟨rfl, hb3⟩
      have hs3 : w2.heap.size ≤ w3.heap.size := hb3.size
      have HK3 : Hid (Kept b 1 2 wr w3) := HK2.out.later hb3 hbr
      have HR3 := Lib.hid (HR2.out.later hb3)
      clear hb3 HK2 HR2
      go_wp2_with fail
      refine (l1Dress_aux 1 (.mk 1 s 0 [] []) _ _ b (q + 1) w3 (by simp [Fm.count, countAll]) HR3.out (by simp [Fm.count, countAll]; omega) (nmIn3 _ _ _ HSZ.out) (by have h := (nm_slim3 s HSZ.out 3).sz; omega) (nm_slim3 _ HSZ.out 3).2).mono ?_
      rintro e w4 ⟨f, v4, p4, rfl, hin4, hdr, hp4, hr4, hk4⟩
      have hp4' : p4 ≤ q + 2 := by simp [Fm.count, countAll] at hp4; omega
      have hs4 := hk4.size
      have HK4 : Hid (Kept b 1 2 wr w4) := HK3.out.trans hk4
      have HR4 := Lib.hid hr4
      have HSLF : Hid (f.name.size ≤ 13 ∧ f.scopes.length ≤ 3) := hdr.slim f (by cases f; simp [Fm.pre])
      have HSZF : Hid (f.sz ≤ 1048576) := Nat.le_trans (show Slim 121 13 5 f from ⟨by have h := hdr.count; simp [Fm.count, countAll] at h; omega, fun x hx => by have := hdr.slim x hx; omega⟩).sz (by omega)
      have HIN4 : Hid (InV (· < w4.heap.size) w4 f v4) := InV.mono (fun k hk => hk.2) _ _ hin4
      have HV4 : Hid (BdRow (fun k => w.heap.size ≤ k ∧ k < wr.heap.size) w4 (.slice va l.length vc) l) := HV.out.later (fun k hk => HK4.out.block k hk.2 (by omega))
      clear hr4 hk4 hin4 hdr hp4 HK3 HR3
      go_wp2_with fail
      obtain ⟨ok, hok⟩ : ∃ ok, addB l f (1 + (l.length : Int)) = ok := ⟨_, rfl⟩
      obtain ⟨R, hR⟩ : ∃ R, (if ok = true then l ++ [(⟨f.name, f.scopes, 1 + (l.length : Int)⟩ : Bd)] else []) = R := ⟨_, rfl⟩
      refine (specAddBind_any l _ f _ (1 + (l.length : Int)) w4 (bd_mono (φ := fun k => w.heap.size ≤ k ∧ k < wr.heap.size) (fun k hk => by have := hk.2; omega) HV4.out) (fun x hx => by have := (HT.out x hx).2; omega) (by omega) HIN4.out HSZF.out (by omega) ok R hok hR).mono ?_
      rintro e w5 ⟨ra, rc, rfl, hrow, hb5⟩
      have hs5 := hb5.size
      have HK5 : Hid (Kept b 1 2 w w5) := HK.out.trans (HK4.out.later hb5 hbr)
      have HR5 := Lib.hid (HR4.out.later hb5)
      have HREL : Hid (BdRow (fun k => w.heap.size ≤ k ∧ k < w5.heap.size) w5 (.slice va l.length vc) l) := bd_mono (φ := fun k => w.heap.size ≤ k ∧ k < wr.heap.size) (fun k hk => ⟨hk.1, by have := hk.2; omega⟩) (HV4.out.later (Same.of_below hb5 fun k hk => by have := hk.2; omega))
      have HNEW : Hid (BdRow (fun k => w.heap.size ≤ k ∧ k < w5.heap.size) w5 (.slice ra R.length rc) R) := bd_mono (φ := fun k => w4.heap.size ≤ k ∧ k < w5.heap.size) (fun k hk => ⟨by have := hk.1; omega, hk.2⟩) hrow
      have HRE := Lib.hid hR
      clear hrow hb5 hok hR HV4 HIN4
      cases ok with
      | false =>
        go_wp2_with fail
        go_roundw
        case rel => exact ⟨j - 1, p4, l, by rw [HW.out], by omega, HT.out, by omega, HREL.out, HR5.out, HK5.out⟩
        case measure => rw [HW.out]; simp [intOf]; omega
      | true =>
        go_wp2_with fail
        have HRT : Hid (l ++ [(⟨f.name, f.scopes, 1 + (l.length : Int)⟩ : Bd)] = R) := by unfold Hid; have := HRE.out; simpa using this
        go_roundw
        case rel => exact ⟨j - 1, p4, R, by rw [HW.out], by rw [← HRT.out, List.length_append, List.length_singleton]; omega, by
          rw [← HRT.out]
          intro x hx
          rcases List.mem_append.1 hx with hx | hx
          · exact HT.out x hx
          · rw [List.mem_singleton] at hx
            subst hx
            exact HSLF.out, by omega, HNEW.out, HR5.out, HK5.out⟩
        case measure => rw [HW.out]; simp [intOf]; omega
    · obtain rfl : j = 0 := by omega
      go_wp2_with fail
      go_ret
      exact ⟨l, _, q, rfl, HV.out, hll, HT.out, by omega, HRD.out, HK.out⟩
end Go.Proofs.Ytcckhcedfmadeaa
