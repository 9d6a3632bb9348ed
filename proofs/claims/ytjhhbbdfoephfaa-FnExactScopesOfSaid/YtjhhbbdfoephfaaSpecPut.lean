/- The contract of the model's set with a number more. -/
import Derived.Test.YtjhhbbdfoephfaaSpecHas
namespace Go.Proofs.Ytjhhbbdfoephfaa
open Go.RowKit
set_option linter.unusedVariables false
set_option linter.unusedSimpArgs false
/-- what one round does -/
def putStep (n : Int) (s : List Int × Bool) (x : Int) : List Int × Bool := if s.2 = false ∧ n < x then (s.1 ++ [n, x], true) else (s.1 ++ [x], s.2)
/-- a set with a number more -/
def putL (l : List Int) (n : Int) : List Int := let s := l.foldl (putStep n) ([], hasB l n); if s.2 = true then s.1 else s.1 ++ [n]
theorem putStep_length (n : Int) (l : List Int) : ∀ s : List Int × Bool, (l.foldl (putStep n) s).1.length + (if (l.foldl (putStep n) s).2 = true then 0 else 1) ≤ s.1.length + (if s.2 = true then 0 else 1) + l.length := by
  induction l with
  | nil => intro s; exact Nat.le_refl _
  | cons x r ih =>
    intro s
    have := ih (putStep n s x)
    rw [List.foldl_cons, List.length_cons]
    refine Nat.le_trans this ?_
    unfold putStep
    split
    · rename_i h
      simp [h.1]
      omega
    · simp
      omega
theorem putStep_mem (n : Int) (l : List Int) : ∀ s : List Int × Bool, ∀ x ∈ (l.foldl (putStep n) s).1, x ∈ s.1 ∨ x = n ∨ x ∈ l := by
  induction l with
  | nil => intro s x hx; exact .inl hx
  | cons y r ih =>
    intro s x hx
    rw [List.foldl_cons] at hx
    rcases ih _ x hx with h | h | h
    · unfold putStep at h
      split at h
      · simp at h
        rcases h with h | h | h
        · exact .inl h
        · exact .inr (.inl h)
        · exact .inr (.inr (by simp [h]))
      · simp at h
        rcases h with h | h
        · exact .inl h
        · exact .inr (.inr (by simp [h]))
    · exact .inr (.inl h)
    · exact .inr (.inr (by simp [h]))
set_option maxRecDepth 100000 in
set_option maxHeartbeats 400000 in
theorem l2Put_any (φ : Nat → Prop) (l : List Int) (v : Value) (n : Int) (w : World) (hφ : ∀ k, φ k → k < w.heap.size) (hv : IntRow φ w v l) (hlen : l.length ≤ 1048576) (hn : -9223372036854775808 ≤ n ∧ n ≤ 9223372036854775807) :
    Calls Try.prog 55 #[v, .int .i64 n] w fun e w' => ∃ v', e = .returned v' ∧ IntRow (fun k => w.heap.size ≤ k ∧ k < w'.heap.size) w' v' (putL l n) ∧ Below w.heap.size w w' := by
  have HV := Lib.hid hv
  obtain ⟨a, cap, rfl, hcap, hmax, hwf, hrow⟩ := hv
  unfold maxLen at hmax
  obtain ⟨i0, hi0, hz0, hz1, hz2⟩ := info_parts Try.infoInt
  have HROW := Lib.hid hrow
  clear hrow
  go_enter Try.func55, Try.ntmps55
  go_wp2_with fail
  refine (l2Has_any φ l _ n _ (HV.out.later (fun k hk => (below_alloc w _).block k (hφ k hk)))).mono ?_
  rintro e w1 ⟨rfl, rfl⟩
  have hlist := putStep_length n l
  have hmem := putStep_mem n l ([], hasB l n)
  have HMEM := Lib.hid hmem
  clear hlist hmem HV
  go_wp2_with fail
  go_loopw [5, 6, 7] (fun o d i wr => ∃ (j g c : Nat) (m : List Int) (dn : Bool), j ≤ l.length ∧ i = .int .i64 j ∧ (m, dn) = (l.take j).foldl (putStep n) ([], hasB l n) ∧ d = .bool dn ∧ o = .slice (some ⟨g, 0, none⟩) m.length c ∧ wr.ownsRow w.heap.size 3 1 (.slice (some ⟨g, 0, none⟩) m.length c) m.length (m.map (Value.int .i64)) ∧ Below w.heap.size w wr) (fun _ _ i _ => l.length - (intOf i).toNat)
  case atStart => exact ⟨0, w.heap.size, 0, [], hasB l n, Nat.zero_le _, rfl, by simp, rfl, rfl, World.ownsRow_lit (base := w.heap.size) (e := 3) (size := 1) w #[] 0 (Nat.le_refl _) (by unfold maxLen; omega) (by simp), below_alloc w _⟩
  case round =>
    obtain ⟨j, g, c, m, dn, hj, rfl, hm, rfl, rfl, hown, hb⟩ := hrel
    have HM := Lib.hid hm
    have hml : m.length ≤ 1 + j := by
      have := putStep_length n (l.take j) ([], hasB l n)
      rw [← hm, List.length_take] at this
      simp at this
      split at this <;> split at this <;> omega
    have HOWN := Lib.hid hown
    have HB := Lib.hid hb
    have hsz := hb.size
    obtain ⟨hgb, hgl, _, _, _⟩ := ownsRow_at hown
    have hL1 : m.length + 1 ≤ maxLen := by unfold maxLen; omega
    have hL2 : (m.length + 1) * 8 ≤ 140737488355328 := by omega
    clear hm hown hb
    by_cases hlt : j < l.length
    · rcases HROW.out with h0 | ⟨b, off, rfl, hφb, hcells⟩
      · exfalso; rw [h0] at hlt; simp at hlt
      · have hc := (HB.out.cell (p := ⟨b, off + j, none⟩) (hφ b hφb)).trans (hcells j hlt)
        have hbl : b < wr.heap.size := cell_lt hc
        have hbw := hφ b hφb
        have HNX : Hid (putStep n (m, dn) l[j] = (l.take (j + 1)).foldl (putStep n) ([], hasB l n)) := by
          unfold Hid
          rw [List.take_succ_eq_append_getElem hlt, List.foldl_append, ← HM.out]
          rfl
        clear hcells
        cases dn with
        | true =>
          go_wp2_with (at_builtin; (refine wpList_append_lies _ rfl _ _ 22 rfl w.heap.size 3 i0 _ 1 8 Try.underlying22 hi0 hz0 hz1 hz2 rfl (by decide) _ m.length (m.map (Value.int .i64)) rfl (HOWN.out.alloc _) ⟨wr.heap.size, 0, none⟩ 1 1 [.int .i64 l[j]] rfl rfl (World.news_of_block (cs := #[.int .i64 l[j]]) (t := 3) (fr := (0, 0)) (heap_alloc_new wr _)) (by simp [Value.oneCell']) (by omega) hL1 hL2 (by simp; omega) (wr.heap.size + 1) (by simp) ?_; intro gq3 qd3 w3 hown3 hgrow hat hlt4; have HOWN3 := Lib.hid hown3; have HGROW3 := Lib.hid hgrow; have hsz3 : wr.heap.size ≤ w3.heap.size := (by have := hgrow.size; simp at this; omega); clear hown3 hgrow hat hlt4))
          go_roundw
          case rel =>
            have := HNX.out
            unfold putStep at this
            simp only [Bool.true_eq_false, false_and, if_false] at this
            exact ⟨j + 1, gq3, qd3, m ++ [l[j]], true, by omega, by go_num, this, rfl, by simp, by have := HOWN3.out; simpa using this, (HB.out.trans ((below_alloc wr _).mono (by omega))).grown HGROW3.out (by simp; omega) (fun k hk => by have h2 : some g = some k := hk; injection h2 with h2; omega)⟩
          case measure => simp [intOf]; omega
        | false =>
          by_cases hx : n < l[j]
          · have hL3 : m.length + 1 + 1 ≤ maxLen := by unfold maxLen; omega
            have hL4 : (m.length + 1 + 1) * 8 ≤ 140737488355328 := by omega
            go_wp2_with (at_builtin; first | (refine wpList_append_lies _ rfl _ _ 22 rfl w.heap.size 3 i0 _ 1 8 Try.underlying22 hi0 hz0 hz1 hz2 rfl (by decide) _ (m.length + 1) (m.map (Value.int .i64) ++ [.int .i64 n]) rfl (HOWN3.out.alloc _) ⟨w3.heap.size, 0, none⟩ 1 1 [.int .i64 l[j]] rfl rfl (World.news_of_block (cs := #[.int .i64 l[j]]) (t := 3) (fr := (0, 0)) (heap_alloc_new w3 _)) (by simp [Value.oneCell']) (by omega) hL3 hL4 (by simp; omega) (w3.heap.size + 1) (by simp) ?_; intro gq4 qd4 w4 hown3 hgrow hat hlt4; have HOWN4 := Lib.hid hown3; have HGROW4 := Lib.hid hgrow; have hsz4 : w3.heap.size ≤ w4.heap.size := (by have := hgrow.size; simp at this; omega); clear hown3 hgrow hat hlt4) | (refine wpList_append_lies _ rfl _ _ 22 rfl w.heap.size 3 i0 _ 1 8 Try.underlying22 hi0 hz0 hz1 hz2 rfl (by decide) _ (m.length) (m.map (Value.int .i64)) rfl (HOWN.out.alloc _) ⟨wr.heap.size, 0, none⟩ 1 1 [.int .i64 n] rfl rfl (World.news_of_block (cs := #[.int .i64 n]) (t := 3) (fr := (0, 0)) (heap_alloc_new wr _)) (by simp [Value.oneCell']) (by omega) hL1 hL2 (by simp; omega) (wr.heap.size + 1) (by simp) ?_; intro gq3 qd3 w3 hown3 hgrow hat hlt4; have HOWN3 := Lib.hid hown3; have HGROW3 := Lib.hid hgrow; have hsz3 : wr.heap.size ≤ w3.heap.size := (by have := hgrow.size; simp at this; omega); have hc3 := hgrow.cell (a := ⟨b, off + j, none⟩) (cell_later' (below_alloc wr _) hc) (by show some b ≠ some g; intro e; injection e with e; omega); clear hown3 hgrow hat hlt4))
            go_roundw
            case rel =>
              have := HNX.out
              unfold putStep at this
              simp only [hx, and_self, if_true] at this
              have hb3 : Below w.heap.size w w3 := (HB.out.trans ((below_alloc wr _).mono (by omega))).grown HGROW3.out (by simp; omega) (fun k hk => by have h2 : some g = some k := hk; injection h2 with h2; omega)
              have h3 := ownsRow_at HOWN3.out
              exact ⟨j + 1, gq4, qd4, m ++ [n, l[j]], true, by omega, by go_num, this, rfl, by simp, by have := HOWN4.out; simpa using this, (hb3.trans ((below_alloc w3 _).mono (by omega))).grown HGROW4.out (by simp; omega) (fun k hk => by have h2 : some gq3 = some k := hk; injection h2 with h2; omega)⟩
            case measure => simp [intOf]; omega
          · go_wp2_with (at_builtin; (refine wpList_append_lies _ rfl _ _ 22 rfl w.heap.size 3 i0 _ 1 8 Try.underlying22 hi0 hz0 hz1 hz2 rfl (by decide) _ m.length (m.map (Value.int .i64)) rfl (HOWN.out.alloc _) ⟨wr.heap.size, 0, none⟩ 1 1 [.int .i64 l[j]] rfl rfl (World.news_of_block (cs := #[.int .i64 l[j]]) (t := 3) (fr := (0, 0)) (heap_alloc_new wr _)) (by simp [Value.oneCell']) (by omega) hL1 hL2 (by simp; omega) (wr.heap.size + 1) (by simp) ?_; intro gq3 qd3 w3 hown3 hgrow hat hlt4; have HOWN3 := Lib.hid hown3; have HGROW3 := Lib.hid hgrow; have hsz3 : wr.heap.size ≤ w3.heap.size := (by have := hgrow.size; simp at this; omega); clear hown3 hgrow hat hlt4))
            go_roundw
            case rel =>
              have := HNX.out
              unfold putStep at this
              simp only [hx, and_false, if_false] at this
              exact ⟨j + 1, gq3, qd3, m ++ [l[j]], false, by omega, by go_num, this, rfl, by simp, by have := HOWN3.out; simpa using this, (HB.out.trans ((below_alloc wr _).mono (by omega))).grown HGROW3.out (by simp; omega) (fun k hk => by have h2 : some g = some k := hk; injection h2 with h2; omega)⟩
            case measure => simp [intOf]; omega
    · obtain rfl : j = l.length := by omega
      have HMM : Hid (∀ x ∈ m, x = n ∨ x ∈ l) := fun x hx => by
        have h1 := HM.out
        rw [List.take_length] at h1
        have h2 := HMEM.out x (by rw [← h1]; exact hx)
        simpa using h2
      have hbd : ∀ x ∈ m, -9223372036854775808 ≤ x ∧ x ≤ 9223372036854775807 := fun x hx => by
        rcases HMM.out x hx with h | h
        · rw [h]; exact hn
        · exact hwf x h
      have HBD := Lib.hid hbd
      clear hbd
      cases dn with
      | true =>
        have HE : Hid (putL l n = m) := by
          have h1 := HM.out
          rw [List.take_length] at h1
          unfold Hid putL
          rw [← h1]
          rfl
        go_wp2_with fail
        go_ret
        refine ⟨_, rfl, ?_, HB.out⟩
        rw [HE.out]
        exact IntOwn.inRow (φ := fun k => w.heap.size ≤ k ∧ k < wr.heap.size) (bs := [g]) (fun k hk => by rw [List.mem_singleton] at hk; subst hk; omega) (ownsRow_ints HOWN.out HBD.out)
      | false =>
        have HE : Hid (putL l n = m ++ [n]) := by
          have h1 := HM.out
          rw [List.take_length] at h1
          unfold Hid putL
          rw [← h1]
          rfl
        go_wp2_with (at_builtin; (refine wpList_append_lies _ rfl _ _ 22 rfl w.heap.size 3 i0 _ 1 8 Try.underlying22 hi0 hz0 hz1 hz2 rfl (by decide) _ (m.length) (m.map (Value.int .i64)) rfl (HOWN.out.alloc _) ⟨wr.heap.size, 0, none⟩ 1 1 [.int .i64 n] rfl rfl (World.news_of_block (cs := #[.int .i64 n]) (t := 3) (fr := (0, 0)) (heap_alloc_new wr _)) (by simp [Value.oneCell']) (by omega) hL1 hL2 (by simp; omega) (wr.heap.size + 1) (by simp) ?_; intro gq3 qd3 w3 hown3 hgrow hat hlt4; have HOWN3 := Lib.hid hown3; have HGROW3 := Lib.hid hgrow; have hsz3 : wr.heap.size ≤ w3.heap.size := (by have := hgrow.size; simp at this; omega); clear hown3 hgrow hat hlt4))
        go_ret
        have hb3 : Below w.heap.size w w3 := (HB.out.trans ((below_alloc wr _).mono (by omega))).grown HGROW3.out (by simp; omega) (fun k hk => by have h2 : some g = some k := hk; injection h2 with h2; omega)
        refine ⟨_, rfl, ?_, hb3⟩
        rw [HE.out]
        have hl : (m ++ [n]).length = m.length + 1 := by simp
        have hown4 : w3.ownsRow w.heap.size 3 1 (.slice (some ⟨gq3, 0, none⟩) (m ++ [n]).length qd3) (m ++ [n]).length ((m ++ [n]).map (Value.int .i64)) := by have := HOWN3.out; simpa using this
        have := IntOwn.inRow (φ := fun k => w.heap.size ≤ k ∧ k < w3.heap.size) (bs := [gq3]) (fun k hk => by rw [List.mem_singleton] at hk; subst hk; have := ownsRow_at HOWN3.out; omega) (ownsRow_ints hown4 (fun x hx => by
          rcases List.mem_append.1 hx with h | h
          · exact HBD.out x h
          · rw [List.mem_singleton] at h; rw [h]; exact hn))
        rw [hl] at this
        exact this
end Go.Proofs.Ytjhhbbdfoephfaa
