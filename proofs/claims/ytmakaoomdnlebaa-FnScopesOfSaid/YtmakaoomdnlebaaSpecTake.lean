/- The contract of the model's l2Take. -/
import Derived.Test.YtmakaoomdnlebaaSpecHas
import Derived.Test.YtmakaoomdnlebaaMids
import Derived.Test.YtmakaoomdnlebaaChecked
namespace Go.Proofs.Ytmakaoomdnlebaa
open Go.RowKit
set_option linter.unusedVariables false
set_option linter.unusedSimpArgs false
set_option maxRecDepth 100000 in
set_option maxHeartbeats 400000 in
theorem l2Take_any (φ : Nat → Prop) (l : List Int) (v : Value) (n : Int) (w : World) (hφ : ∀ k, φ k → k < w.heap.size) (hv : IntRow φ w v l) (hlen : l.length ≤ 1048576) :
    Calls Try.prog 92 #[v, .int .i64 n] w fun e w' => ∃ v', e = .returned v' ∧ IntRow (fun k => w.heap.size ≤ k ∧ k < w'.heap.size) w' v' (l.filter (· != n)) ∧ Below w.heap.size w w' := by
  obtain ⟨a, cap, rfl, hcap, hmax, hwf, hrow⟩ := hv
  unfold maxLen at hmax
  go_enter Try.func92, Try.ntmps92
  have HROW := Lib.hid hrow
  clear hrow
  obtain ⟨i0, hi0, hz0, hz1, hz2⟩ := info_parts Try.infoInt
  go_wp2_with fail
  go_loopw [5, 6] (fun o i wr => ∃ (j g c : Nat) (m : List Int), j ≤ l.length ∧ i = .int .i64 j ∧ m = (l.take j).filter (· != n) ∧ o = .slice (some ⟨g, 0, none⟩) m.length c ∧ wr.ownsRow w.heap.size 3 1 (.slice (some ⟨g, 0, none⟩) m.length c) m.length (m.map (Value.int .i64)) ∧ Below w.heap.size w wr) (fun _ i _ => l.length - (intOf i).toNat)
  case atStart => exact ⟨0, w.heap.size, 0, [], Nat.zero_le _, rfl, by simp, rfl, World.ownsRow_lit (base := w.heap.size) (e := 3) (size := 1) w #[] 0 (Nat.le_refl _) (by unfold maxLen; omega) (by simp), below_alloc w _⟩
  case round =>
    obtain ⟨j, g, c, m, hj, rfl, hm, rfl, hown, hb⟩ := hrel
    have HM := Lib.hid hm
    have hml : m.length ≤ j := by rw [hm]; have := List.length_filter_le (· != n) (l.take j); rw [List.length_take] at this; omega
    have HOWN := Lib.hid hown
    have HB := Lib.hid hb
    have hsz := hb.size
    clear hm hown hb
    by_cases hlt : j < l.length
    · rcases HROW.out with h0 | ⟨b, off, rfl, hφb, hcells⟩
      · exfalso; rw [h0] at hlt; simp at hlt
      · have hc := (HB.out.cell (p := ⟨b, off + j, none⟩) (hφ b hφb)).trans (hcells j hlt)
        have hbl : b < wr.heap.size := cell_lt hc
        have HNX : Hid ((l.take (j + 1)).filter (· != n) = m ++ (if l[j] = n then [] else [l[j]])) := by
          unfold Hid
          rw [List.take_succ_eq_append_getElem hlt, List.filter_append, ← HM.out]
          by_cases hx : l[j] = n <;> simp [hx]
        have hL1 : m.length + 1 ≤ maxLen := by unfold maxLen; omega
        have hL2 : (m.length + 1) * 8 ≤ 140737488355328 := by omega
        clear hcells
        by_cases hx : l[j] = n
        · go_wp2_with fail
          go_roundw
          case rel =>
            have := HNX.out
            rw [if_pos hx, List.append_nil] at this
            exact ⟨j + 1, g, c, m, by omega, by go_num, this.symm, rfl, HOWN.out, HB.out⟩
          case measure => simp [intOf]; omega
        · go_wp2_with (at_builtin; refine wpList_append_lies _ rfl _ _ 25 rfl w.heap.size 3 i0 _ 1 8 Try.underlying25 hi0 hz0 hz1 hz2 rfl (by decide) _ m.length (m.map (Value.int .i64)) rfl (HOWN.out.alloc _) ⟨wr.heap.size, 0, none⟩ 1 1 [.int .i64 l[j]] rfl rfl (World.news_of_block (cs := #[.int .i64 l[j]]) (t := 3) (fr := (0, 0)) (heap_alloc_new wr _)) (by simp [Value.oneCell']) (by omega) hL1 hL2 (by simp; omega) (wr.heap.size + 1) (by simp) ?_; intro gq qd w3 hown3 hgrow hat hlt4; have HOWN3 := Lib.hid hown3; have HGROW := Lib.hid hgrow; clear hown3 hgrow hat)
          go_roundw
          case rel =>
            have := HNX.out
            rw [if_neg hx] at this
            exact ⟨j + 1, gq, qd, m ++ [l[j]], by omega, by go_num, this.symm, by simp, by have := HOWN3.out; simpa using this, (HB.out.trans ((below_alloc wr _).mono (by omega))).grown HGROW.out (by simp; omega) (fun k hk => by have h1 := ownsRow_at HOWN.out; have h2 : some g = some k := hk; injection h2 with h2; omega)⟩
          case measure => simp [intOf]; omega
    · obtain rfl : j = l.length := by omega
      have HE : Hid (m = l.filter (· != n)) := by have := HM.out; rw [List.take_length] at this; exact this
      go_wp2_with fail
      go_ret
      refine ⟨_, rfl, ?_, HB.out⟩
      have hbd : ∀ x ∈ m, -9223372036854775808 ≤ x ∧ x ≤ 9223372036854775807 := fun x hx => hwf x (by rw [HE.out] at hx; exact (List.mem_filter.1 hx).1)
      have := IntOwn.inRow (φ := fun k => w.heap.size ≤ k ∧ k < wr.heap.size) (bs := [g]) (fun k hk => by rw [List.mem_singleton] at hk; subst hk; have := ownsRow_at HOWN.out; omega) (ownsRow_ints HOWN.out hbd)
      rw [← HE.out]
      exact this
end Go.Proofs.Ytmakaoomdnlebaa
