/- The contracts of the smallest draws: a number below another, an item of a list. -/
import Derived.Test.YtcckhcedfmadeaaData
import Derived.Laws.Bits64
namespace Go.Proofs.Ytcckhcedfmadeaa
open Go.RowKit
set_option linter.unusedVariables false
set_option linter.unusedSimpArgs false
theorem xor_i64_nat (a b : Nat) (ha : a < 9223372036854775808) (hb : b < 9223372036854775808) : bits .xor .i64 (a : Int) (b : Int) = ((a ^^^ b : Nat) : Int) := by
  have hx : a ^^^ b < 2 ^ 63 := Nat.xor_lt_two_pow (by omega) (by omega)
  have h1 : (BitVec.ofInt 64 (a : Int)).toNat = a := by
    rw [BitVec.ofInt_natCast, BitVec.toNat_ofNat]; exact Nat.mod_eq_of_lt (by omega)
  have h2 : (BitVec.ofInt 64 (b : Int)).toNat = b := by
    rw [BitVec.ofInt_natCast, BitVec.toNat_ofNat]; exact Nat.mod_eq_of_lt (by omega)
  show IntKind.i64.wrap ((BitVec.ofInt 64 (a : Int) ^^^ BitVec.ofInt 64 (b : Int)).toNat : Int) = _
  rw [BitVec.toNat_xor, h1, h2]
  simp [IntKind.wrap, IntKind.bits, IntKind.signed]
  omega
set_option maxRecDepth 100000 in
set_option maxHeartbeats 1000000 in
theorem pick_any {B : Nat} (b p m : Nat) (w : World) (h : Rd B w b p) (hp : p ≤ 1000000) (hm : 1 ≤ m) (hm2 : m ≤ 1000000) :
    Calls Try.prog 51 #[.pointer (some ⟨b, 0, none⟩), .int .i64 (m : Int)] w
      fun e w' => ∃ v : Nat, v < m ∧ e = .returned (.int .i64 v) ∧ Rd B w' b (p + 1) ∧ Kept b 1 2 w w' := by
  have hR1 := h.set (p + 1)
  have hK : Kept b 1 2 w (w.setCell ⟨b, 1, none⟩ (.int .i64 ((p : Int) + 1))) := (Kept.refl b 1 2 w).setCell 1 _ (by omega) (by omega)
  rw [show (((p + 1 : Nat)) : Int) = (p : Int) + 1 by omega] at hR1
  have HR1 := Lib.hid hR1
  have HK := Lib.hid hK
  clear hK
  have hBb := h.1
  have hbl := h.lt
  obtain ⟨_, a, n, cap, h0, h1, h2, h3, h4⟩ := h
  obtain ⟨_, a', n', cap', g0, g1, g2, g3, g4⟩ := hR1
  have e0 : a = a' ∧ n = n' ∧ cap = cap' := by
    rw [World.cell?_setCell_other _ _ _ _ (by intro e; injection e with _ e2; omega), h0] at g0
    injection g0 with g0
    injection g0 with x y z
    exact ⟨x, y, z⟩
  obtain ⟨rfl, rfl, rfl⟩ := e0
  clear g3
  have hm' : ¬ (m : Int) < 1 := by omega
  rcases g4 with rfl | ⟨c, off, rfl, hc1, hrow⟩
  · go_enter Try.func51, Try.ntmps51
    go_wp2_with fail
    go_ret
    exact ⟨0, by omega, rfl, HR1.out, HK.out⟩
  · by_cases hn0 : n = 0
    · subst hn0
      go_enter Try.func51, Try.ntmps51
      go_wp2_with fail
      go_ret
      exact ⟨0, by omega, rfl, HR1.out, HK.out⟩
    · have hn1 : ((n : Int) == 0) = false := by rw [beq_eq_false_iff_ne]; omega
      by_cases hlt : p < n
      · obtain ⟨x', hx0, hx1, hx⟩ := hrow p hlt
        obtain ⟨x, rfl⟩ := Int.eq_ofNat_of_zero_le hx0
        have HX : Hid ((x : Int) % (m : Int) = (((x % m : Nat)) : Int)) := (Int.natCast_emod x m).symm
        have hmne : ¬ (m : Int) = 0 := by omega
        go_enter Try.func51, Try.ntmps51
        go_wp2_with fail
        go_ret
        exact ⟨x % m, Nat.mod_lt _ (by omega), ret_int HX.out, HR1.out, HK.out⟩
      · obtain ⟨k1, hk1, hT1⟩ : ∃ k1 : Nat, k1 < n ∧ (p : Int).tmod (n : Int) = (k1 : Int) := ⟨p % n, Nat.mod_lt _ (by omega), by rw [Int.tmod_eq_emod_of_nonneg (by omega)]; exact (Int.natCast_emod p n).symm⟩
        obtain ⟨k2, hk2, hT2⟩ : ∃ k2 : Nat, k2 < n ∧ ((p : Int) * 7 + 3).tmod (n : Int) = (k2 : Int) := ⟨(p * 7 + 3) % n, Nat.mod_lt _ (by omega), by
          rw [Int.tmod_eq_emod_of_nonneg (by omega), show ((p : Int) * 7 + 3) = ((p * 7 + 3 : Nat) : Int) by omega]; exact (Int.natCast_emod (p * 7 + 3) n).symm⟩
        obtain ⟨k3, hk3, hT3⟩ : ∃ k3 : Nat, k3 ≤ p ∧ (p : Int).tdiv (n : Int) = (k3 : Int) := ⟨p / n, Nat.div_le_self _ _, by rw [Int.tdiv_eq_ediv_of_nonneg (by omega)]; exact (Int.natCast_ediv p n).symm⟩
        obtain ⟨x', hx0, hx1, hx⟩ := hrow k1 hk1
        obtain ⟨y', hy0, hy1, hy⟩ := hrow k2 hk2
        obtain ⟨x, rfl⟩ := Int.eq_ofNat_of_zero_le hx0
        obtain ⟨y, rfl⟩ := Int.eq_ofNat_of_zero_le hy0
        clear hrow
        go_enter Try.func51, Try.ntmps51
        go_wp2_with fail
        go_quiet (fail)
        go_wp2_with fail
        go_ret
        obtain ⟨X, hX⟩ : ∃ X : Nat, X = x * 131 + y * 1117 + p * 29 + k3 * 53 := ⟨_, rfl⟩
        refine ⟨(X ^^^ X / 64) % m, Nat.mod_lt _ (by omega), ret_int ?_, HR1.out, HK.out.drewN _⟩
        show (bits BinOp.xor IntKind.i64 ((x : Int) * 131 + (y : Int) * 1117 + (p : Int) * 29 + (k3 : Int) * 53) (((x : Int) * 131 + (y : Int) * 1117 + (p : Int) * 29 + (k3 : Int) * 53) / 64)).tmod (m : Int) = _
        rw [show ((x : Int) * 131 + (y : Int) * 1117 + (p : Int) * 29 + (k3 : Int) * 53) = (X : Int) by omega, show ((X : Int) / 64) = ((X / 64 : Nat) : Int) by omega, xor_i64_nat _ _ (by omega) (by omega),
          Int.tmod_eq_emod_of_nonneg (by omega)]
        exact (Int.natCast_emod _ m).symm
/-- the rows of constants that a draw picks from lie elsewhere than the source -/
theorem kept_cell {b c o : Nat} {v : Value} {w w' : World} (h : Kept b 1 2 w w') (hc : w.cell? ⟨c, o, none⟩ = some v) (hn : c ≠ b) : w'.cell? ⟨c, o, none⟩ = some v := by
  rw [h.other (cell_lt hc) hn]; exact hc
set_option maxRecDepth 100000 in
set_option maxHeartbeats 1000000 in
theorem num_any {B : Nat} (b p : Nat) (l : List Int) (v : Value) (w : World) (h : Rd B w b p) (hp : p ≤ 1000000) (hv : IntRow (fun k => k < w.heap.size ∧ k ≠ b) w v l) (hl : l ≠ []) (hl2 : l.length ≤ 1000) :
    Calls Try.prog 63 #[.pointer (some ⟨b, 0, none⟩), v] w
      fun e w' => ∃ x, x ∈ l ∧ e = .returned (.int .i64 x) ∧ Rd B w' b (p + 1) ∧ Kept b 1 2 w w' := by
  obtain ⟨a, cap, rfl, hcap, hmax, hwf, hrow⟩ := hv
  rcases hrow with hrow | ⟨c, off, rfl, ⟨hc1, hc2⟩, hrow⟩
  · exact absurd hrow hl
  have hpos : 1 ≤ l.length := by cases l with | nil => exact absurd rfl hl | cons _ _ => simp
  have HROW := Lib.hid hrow
  have HWF := Lib.hid hwf
  clear hrow hwf hmax
  go_enter Try.func63, Try.ntmps63
  go_wp2_with fail
  refine (pick_any b p l.length w h hp hpos (by omega)).mono ?_
  rintro e w1 ⟨i, hi, rfl, hr1, hk1⟩
  have hx : w1.cell? ⟨c, off + i, none⟩ = some (.int .i64 l[i]) := kept_cell hk1 (HROW.out i hi) hc2
  have HR := Lib.hid hr1
  have HK := Lib.hid hk1
  clear hr1 hk1
  go_wp2_with fail
  go_ret
  exact ⟨l[i], List.getElem_mem hi, rfl, HR.out, HK.out⟩
set_option maxRecDepth 100000 in
set_option maxHeartbeats 1000000 in
theorem of_any {B : Nat} (b p : Nat) (l : List ByteArray) (c off cap : Nat) (w : World) (h : Rd B w b p) (hp : p ≤ 1000000) (hc2 : c ≠ b) (hrow : ∀ i, (h : i < l.length) → w.cell? ⟨c, off + i, none⟩ = some (.string l[i])) (hl : l ≠ []) (hl2 : l.length ≤ 1000) (hcap : l.length ≤ cap) :
    Calls Try.prog 93 #[.pointer (some ⟨b, 0, none⟩), .slice (some ⟨c, off, none⟩) l.length cap] w
      fun e w' => ∃ x, x ∈ l ∧ e = .returned (.string x) ∧ Rd B w' b (p + 1) ∧ Kept b 1 2 w w' := by
  have hpos : 1 ≤ l.length := by cases l with | nil => exact absurd rfl hl | cons _ _ => simp
  have HROW := Lib.hid hrow
  clear hrow
  go_enter Try.func93, Try.ntmps93
  go_wp2_with fail
  refine (pick_any b p l.length w h hp hpos (by omega)).mono ?_
  rintro e w1 ⟨i, hi, rfl, hr1, hk1⟩
  have hx : w1.cell? ⟨c, off + i, none⟩ = some (.string l[i]) := kept_cell hk1 (HROW.out i hi) hc2
  have HR := Lib.hid hr1
  have HK := Lib.hid hk1
  clear hr1 hk1
  go_wp2_with fail
  go_ret
  exact ⟨l[i], List.getElem_mem hi, rfl, HR.out, HK.out⟩
set_option maxRecDepth 100000 in
set_option maxHeartbeats 1000000 in
/-- the source is opened -/
theorem open_any (a : Option Addr) (n cap : Nat) (w : World) (h : ByteRow (· < w.heap.size) w a n) (hn : n ≤ cap) (hc : cap ≤ maxLen) :
    Calls Try.prog 50 #[.slice a n cap] w
      fun e w' => ∃ b, e = .returned (.pointer (some ⟨b, 0, none⟩)) ∧ w.heap.size ≤ b ∧ Rd w.heap.size w' b 0 ∧ Below w.heap.size w w' := by
  have HR := Lib.hid h
  unfold maxLen at hc
  by_cases h2 : (2000 : Int) < n
  · rcases h with rfl | ⟨c, off, rfl, hcc, hrow⟩
    · exfalso; omega
    · have HROW := Lib.hid hrow
      clear hrow
      go_enter Try.func50, Try.ntmps50
      go_wp2_with fail
      go_ret
      refine ⟨_, rfl, Nat.le_refl _, ⟨Nat.le_refl _, some ⟨c, off, none⟩, 2000, cap, ?_, ?_, ?_, by omega, ?_⟩, ?_⟩
      · exact World.cell?_alloc_at _ _ _ _ rfl
      · exact World.cell?_alloc_at _ _ _ _ rfl
      · exact World.frozen?_alloc_new _ _ _ _
      · exact (HR.out.less (by omega)).later (same_below ((Below.refl _ w).alloc (Nat.le_refl _) _)) fun k hk => hk
      · exact (Below.refl _ w).alloc (Nat.le_refl _) _
  · go_enter Try.func50, Try.ntmps50
    go_wp2_with fail
    go_ret
    refine ⟨_, rfl, Nat.le_refl _, ⟨Nat.le_refl _, a, n, cap, ?_, ?_, ?_, by omega, ?_⟩, ?_⟩
    · exact World.cell?_alloc_at _ _ _ _ rfl
    · exact World.cell?_alloc_at _ _ _ _ rfl
    · exact World.frozen?_alloc_new _ _ _ _
    · exact HR.out.later (same_below ((Below.refl _ w).alloc (Nat.le_refl _) _)) fun k hk => hk
    · exact (Below.refl _ w).alloc (Nat.le_refl _) _
end Go.Proofs.Ytcckhcedfmadeaa
