/- Contracts of NameValid, of both sides. -/
import Derived.Test.YtilbjlngnpmhcaaNm
namespace Go.Proofs.Ytilbjlngnpmhcaa
open Go.RowKit
set_option maxHeartbeats 400000 in
theorem continuesName_any (c : Nat) (w : World) (hc : c < 2147483648) (hn : ltr c true = false) :
    Calls Try.prog 132 #[.int .i32 c] w fun e w' => e = .returned (.bool (ltr c false)) ∧ w = w' := by
  go_enter Try.func132, Try.ntmps132
  go_wp2
  all_goals
    go_ret
    refine ⟨ret_bool ?_, rfl⟩
    rw [Bool.eq_iff_iff]
    simp_all [ltr]
    try omega
set_option maxHeartbeats 400000 in
theorem specNameValid_any (s : ByteArray) (w : World) (hs : s.size ≤ maxLen) :
    Calls Try.prog 79 #[.string s] w fun e w' => e = .returned (.bool (nameB s.data.toList)) ∧ w = w' := by
  unfold maxLen at hs
  have hsz := Lib.size_eq s
  by_cases h1 : (s.toList == [46, 46, 46]) = true
  · have hf : nameB s.data.toList = true := by rw [Lib.toList_data] at h1; unfold nameB; rw [h1]; rfl
    have HF := Lib.hid hf
    clear hf hsz
    go_enter Try.func79, Try.ntmps79
    go_wp2
    go_ret
    exact ⟨ret_bool HF.out.symm, rfl⟩
  · by_cases h2 : (s.toList == [95]) = true
    · have hf : nameB s.data.toList = true := by rw [Lib.toList_data] at h2; unfold nameB; rw [h2]; simp
      have HF := Lib.hid hf
      clear hf hsz
      go_enter Try.func79, Try.ntmps79
      go_wp2
      all_goals
        go_ret
        exact ⟨ret_bool HF.out.symm, rfl⟩
    · have h1' : (s.toList == [46, 46, 46]) = false := by simpa using h1
      have h2' : (s.toList == [95]) = false := by simpa using h2
      have H1 : Hid ((s.data.toList == [46, 46, 46]) = false) := by rw [Lib.toList_data] at h1'; exact h1'
      have H2 : Hid ((s.data.toList == [95]) = false) := by rw [Lib.toList_data] at h2'; exact h2'
      have HZ := Lib.hid hsz
      clear h1 h2 hsz
      go_enter Try.func79, Try.ntmps79
      go_wp2
      go_loop [3] (fun i => ∃ k : Nat, k ≤ s.size ∧ k ≤ 13 ∧ i = .int .i64 k ∧ ltrs (s.data.toList.take k) = true) (fun i => s.size - (intOf i).toNat)
      case atStart => exact ⟨0, Nat.zero_le _, by omega, rfl, rfl⟩
      case round =>
        obtain ⟨k, hk, hk2, rfl, hr⟩ := hrel
        have HR := Lib.hid hr
        clear hr
        by_cases hlt : k < s.size ∧ k ≤ 12
        · obtain ⟨hlt, hle⟩ := hlt
          have hk0 : ((k : Int) == 0) = (k == 0) := by rw [Bool.eq_iff_iff]; simp
          have hts : ltrs (s.data.toList.take (k + 1)) = ltr (s[k]).toNat (k == 0) := by
            rw [ltrs_take_succ _ k (by rw [← HZ.out]; exact hlt), HR.out, Bool.true_and]; rfl
          have HS := Lib.hid hts
          clear hts
          cases hl : ltr (s[k]).toNat (k == 0) with
          | true =>
            go_wp2_with (go_at_call 105; refine (l1Letter_any _ _ _ (UInt8.toNat_lt _)).mono ?_; rintro e w' ⟨rfl, rfl⟩)
            go_round
            case rel => exact ⟨k + 1, by omega, by omega, by go_num, by rw [HS.out, hl]⟩
            case measure => simp [intOf]; omega
          | false =>
            go_wp2_with (go_at_call 105; refine (l1Letter_any _ _ _ (UInt8.toNat_lt _)).mono ?_; rintro e w' ⟨rfl, rfl⟩)
            go_ret
            exact ⟨ret_bool (nameB_no _ (k + 1) H1.out H2.out (by rw [HS.out, hl])).symm, rfl⟩
        · by_cases h0 : s.size = 0
          · have HN := Lib.hid (nameB_size _ H1.out H2.out (.inl (by rw [← HZ.out]; exact h0)))
            have hz : s.size < 1 := by omega
            clear h0
            by_cases hlt' : k < s.size
            · omega
            · go_wp2
              all_goals
                go_ret
                exact ⟨ret_bool HN.out.symm, rfl⟩
          · have hz : 1 ≤ s.size := by omega
            clear h0
            by_cases hl : s.size ≤ 12
            · have hk3 : ¬ k < s.size := by omega
              have HN := Lib.hid (nameB_yes s.data.toList (by rw [← HZ.out]; exact ⟨hz, hl⟩) (by have := HR.out; rw [show k = s.size from by omega, take_size] at this; exact this))
              go_wp2
              all_goals
                go_ret
                exact ⟨ret_bool (by rw [HN.out]; simp; omega), rfl⟩
            · have hk3 : ¬ k ≤ 12 := by omega
              have HN := Lib.hid (nameB_size _ H1.out H2.out (.inr (by rw [← HZ.out]; omega)))
              by_cases hlt' : k < s.size
              all_goals
                go_wp2
                all_goals
                  go_ret
                  exact ⟨ret_bool (by rw [HN.out]; simp; omega), rfl⟩

set_option maxHeartbeats 400000 in
theorem implNameValid_any (s : ByteArray) (w : World) (hs : s.size ≤ maxLen) :
    Calls Try.prog 118 #[.string s] w fun e w' => e = .returned (.bool (nameB s.data.toList)) ∧ Below w.heap.size w w' := by
  unfold maxLen at hs
  have hsz := Lib.size_eq s
  by_cases h1 : (s.toList == [46, 46, 46]) = true
  · have hf : nameB s.data.toList = true := by rw [Lib.toList_data] at h1; unfold nameB; rw [h1]; rfl
    have HF := Lib.hid hf
    clear hf hsz
    go_enter Try.func118, Try.ntmps118
    go_wp2
    go_ret
    exact ⟨ret_bool HF.out.symm, Below.refl _ _⟩
  · by_cases h2 : (s.toList == [95]) = true
    · have hf : nameB s.data.toList = true := by rw [Lib.toList_data] at h2; unfold nameB; rw [h2]; simp
      have HF := Lib.hid hf
      clear hf hsz
      go_enter Try.func118, Try.ntmps118
      go_wp2
      all_goals
        go_ret
        exact ⟨ret_bool HF.out.symm, Below.refl _ _⟩
    · have h1' : (s.toList == [46, 46, 46]) = false := by simpa using h1
      have h2' : (s.toList == [95]) = false := by simpa using h2
      have H1 : Hid ((s.data.toList == [46, 46, 46]) = false) := by rw [Lib.toList_data] at h1'; exact h1'
      have H2 : Hid ((s.data.toList == [95]) = false) := by rw [Lib.toList_data] at h2'; exact h2'
      have HZ := Lib.hid hsz
      clear h1 h2 hsz
      by_cases h0 : s.size = 0 ∨ 12 < s.size
      · have HN := Lib.hid (nameB_size _ H1.out H2.out (by rw [← HZ.out]; exact h0))
        rcases h0 with h0 | h0
        all_goals
          go_enter Try.func118, Try.ntmps118
          go_wp2
          all_goals
            go_ret
            exact ⟨ret_bool HN.out.symm, Below.refl _ _⟩
      · have hz1 : 1 ≤ s.size := by omega
        have hz2 : s.size ≤ 12 := by omega
        have hz0 : ((s.size : Int) == 0) = false := by rw [beq_eq_false_iff_ne]; omega
        have hne : ¬ s = ByteArray.empty := by intro e; rw [e] at hz1; simp at hz1
        clear h0
        go_enter Try.func118, Try.ntmps118
        go_wp2
        go_loopw [3, 4] (fun _ _ w' => ∃ k : Nat, w' = w.iter s k ∧ k ≤ s.size ∧ ltrs (s.data.toList.take k) = true) (fun _ _ w' => s.size - w'.iterPos w.heap.size)
        case atStart => exact ⟨0, rfl, Nat.zero_le _, rfl⟩
        case round =>
          obtain ⟨k, rfl, hk, hr⟩ := hrel
          have HR := Lib.hid hr
          clear hr
          by_cases hlt : k < s.size
          · have hts : ltrs (s.data.toList.take (k + 1)) = ltr (s[k]).toNat (k == 0) := by
              rw [ltrs_take_succ _ k (by rw [← HZ.out]; exact hlt), HR.out, Bool.true_and]; rfl
            have HS := Lib.hid hts
            clear hts
            have hbel : Below w.heap.size w (w.iter s (k + 1)) := (Below.refl _ _).alloc (Nat.le_refl _) _
            by_cases ha : (s[k]).toNat < 128
            · have hnx : ∀ ty, (Instr.next (.pointer (some ⟨w.heap.size, 0, none⟩)) true ty).run Try.prog (w.iter s k) = _ := fun ty => run_next_ascii w s k ty hlt ha
              cases hb : ltr (s[k]).toNat true with
              | true =>
                have HL : Hid (ltr (s[k]).toNat (k == 0) = true) := ltr_true hb
                go_wp2_with (first | (go_at_call 131; refine (beginsName_any _ _ (by omega)).mono ?_; rintro e w' ⟨rfl, rfl⟩) | (go_at_call 132; refine (continuesName_any _ _ (by omega) hb).mono ?_; rintro e w' ⟨rfl, rfl⟩))
                go_roundw
                case rel => exact ⟨k + 1, rfl, by omega, by rw [HS.out, HL.out]⟩
                case measure => simp; omega
              | false =>
                by_cases hk0 : k = 0
                · have HN := Lib.hid (nameB_no _ (k + 1) H1.out H2.out (by rw [HS.out, show (k == 0) = true from by simpa using hk0, hb]))
                  have hk0' : ((k : Int) == 0) = true := by simpa using hk0
                  clear hk0
                  go_wp2_with (first | (go_at_call 131; refine (beginsName_any _ _ (by omega)).mono ?_; rintro e w' ⟨rfl, rfl⟩) | (go_at_call 132; refine (continuesName_any _ _ (by omega) hb).mono ?_; rintro e w' ⟨rfl, rfl⟩))
                  all_goals
                    go_ret
                    exact ⟨ret_bool HN.out.symm, hbel⟩
                · have hk0' : ((k : Int) == 0) = false := by rw [beq_eq_false_iff_ne]; omega
                  have hk1 : (k == 0) = false := by simpa using hk0
                  clear hk0
                  cases hc : ltr (s[k]).toNat false with
                  | true =>
                    have HL : Hid (ltr (s[k]).toNat (k == 0) = true) := by rw [hk1]; exact hc
                    clear hk1
                    go_wp2_with (first | (go_at_call 131; refine (beginsName_any _ _ (by omega)).mono ?_; rintro e w' ⟨rfl, rfl⟩) | (go_at_call 132; refine (continuesName_any _ _ (by omega) hb).mono ?_; rintro e w' ⟨rfl, rfl⟩))
                    go_roundw
                    case rel => exact ⟨k + 1, rfl, by omega, by rw [HS.out, HL.out]⟩
                    case measure => simp; omega
                  | false =>
                    have HN := Lib.hid (nameB_no _ (k + 1) H1.out H2.out (by rw [HS.out, hk1, hc]))
                    clear hk1
                    go_wp2_with (first | (go_at_call 131; refine (beginsName_any _ _ (by omega)).mono ?_; rintro e w' ⟨rfl, rfl⟩) | (go_at_call 132; refine (continuesName_any _ _ (by omega) hb).mono ?_; rintro e w' ⟨rfl, rfl⟩))
                    all_goals
                      go_ret
                      exact ⟨ret_bool HN.out.symm, hbel⟩
            · have hnx : ∀ ty, (Instr.next (.pointer (some ⟨w.heap.size, 0, none⟩)) true ty).run Try.prog (w.iter s k) = _ := fun ty => run_next_any w s k ty hlt
              have hd := (decode_high s k hlt (by omega)).1
              have hd2 := decode_le s k
              have hb := ltr_high true hd
              have hc := ltr_high false hd
              have hbel2 : Below w.heap.size w (w.iter s (k + (Utf8.decode s k).2)) := (Below.refl _ _).alloc (Nat.le_refl _) _
              have HN := Lib.hid (nameB_no _ (k + 1) H1.out H2.out (by rw [HS.out, ltr_high _ (by omega)]))
              by_cases hk0 : k = 0
              · have hk0' : ((k : Int) == 0) = true := by simpa using hk0
                clear hk0
                go_wp2_with (first | (go_at_call 131; refine (beginsName_any _ _ (by omega)).mono ?_; rintro e w' ⟨rfl, rfl⟩) | (go_at_call 132; refine (continuesName_any _ _ (by omega) hb).mono ?_; rintro e w' ⟨rfl, rfl⟩))
                all_goals
                  go_ret
                  exact ⟨ret_bool HN.out.symm, hbel2⟩
              · have hk0' : ((k : Int) == 0) = false := by rw [beq_eq_false_iff_ne]; omega
                clear hk0
                go_wp2_with (first | (go_at_call 131; refine (beginsName_any _ _ (by omega)).mono ?_; rintro e w' ⟨rfl, rfl⟩) | (go_at_call 132; refine (continuesName_any _ _ (by omega) hb).mono ?_; rintro e w' ⟨rfl, rfl⟩))
                all_goals
                  go_ret
                  exact ⟨ret_bool HN.out.symm, hbel2⟩
          · have hnx : ∀ ty, (Instr.next (.pointer (some ⟨w.heap.size, 0, none⟩)) true ty).run Try.prog (w.iter s k) = _ := fun ty => run_next_end w s k ty hlt
            have hbel : Below w.heap.size w (w.iter s k) := (Below.refl _ _).alloc (Nat.le_refl _) _
            have HN := Lib.hid (nameB_yes s.data.toList (by rw [← HZ.out]; exact ⟨hz1, hz2⟩) (by have := HR.out; rw [show k = s.size from by omega, take_size] at this; exact this))
            go_wp2
            go_ret
            exact ⟨ret_bool HN.out.symm, hbel⟩
end Go.Proofs.Ytilbjlngnpmhcaa
