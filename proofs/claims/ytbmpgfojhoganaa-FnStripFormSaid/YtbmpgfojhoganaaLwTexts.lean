/- The contracts of NamesOf and of the laws' lists of texts, as laws call them. -/
import Derived.Test.YtbmpgfojhoganaaLwNames
import Derived.Test.YtbmpgfojhoganaaSpecNamesOf
namespace Go.Proofs.Ytbmpgfojhoganaa
open Go.RowKit
set_option linter.unusedVariables false
set_option linter.unusedSimpArgs false
theorem implNames_law (R : Fm) (sa : Option Addr) (scap : Nat) (a : Option Addr) (cap : Nat) (w : World) (hv : InV (· < w.heap.size) w R (.agg #[.int .i64 R.kind, .string R.name, .int .i64 R.n, .slice sa R.scopes.length scap, .slice a R.kids.length cap])) (hsz : R.sz ≤ 1048576) (hend : EndlessAt (.agg #[.int .i64 R.kind, .string R.name, .int .i64 R.n, .slice sa R.scopes.length scap, .slice a R.kids.length cap]) w) (L : List ByteArray) (hL : namesF [] R.pre = L) :
    Calls Try.prog 17 #[.agg #[.int .i64 R.kind, .string R.name, .int .i64 R.n, .slice sa R.scopes.length scap, .slice a R.kids.length cap]] w fun e w' => ∃ pa ca, e = .returned (.slice pa L.length ca) ∧ StrRow w' (.slice pa L.length ca) L ∧ Below w.heap.size w w' := by
  subst hL
  refine (implNamesOf_any ⟨R, sa, scap, a, cap⟩ w hv hsz hend).mono ?_
  rintro e w' ⟨pa, ca, bs, rfl, ho, _, hb⟩
  exact ⟨pa, ca, rfl, ho.row, hb⟩
theorem specNames_law (f : Fm) (v : Value) (w : World) (hv : InV (· < w.heap.size) w f v) (hsz : f.sz ≤ 1048576) (L : List ByteArray) (hL : namesF [] f.pre = L) :
    Calls Try.prog 20 #[v] w fun e w' => ∃ pa ca, e = .returned (.slice pa L.length ca) ∧ StrRow w' (.slice pa L.length ca) L ∧ Below w.heap.size w w' := by
  subst hL
  exact specNamesOf_any w.heap.size f v w (Nat.le_refl _) hv hsz
set_option maxRecDepth 100000 in
set_option maxHeartbeats 1000000 in
theorem mxTexts_same (l : List ByteArray) (v u : Value) (w : World) (hv : StrRow w v l) (hu : StrRow w u l) :
    Calls Try.prog 16 #[v, u] w fun e w' => e = .returned (.bool true) ∧ Below w.heap.size w w' := by
  obtain ⟨a, cap, rfl, hcap, hmax, hrow⟩ := hv
  obtain ⟨a2, cap2, rfl, hcap2, hmax2, hrow2⟩ := hu
  unfold maxLen at hmax hmax2
  go_enter Try.func16, Try.ntmps16
  have HROW := Lib.hid hrow
  have HROW2 := Lib.hid hrow2
  clear hrow hrow2
  go_wp2_with fail
  go_loopw [5] (fun i wr => ∃ j : Nat, j ≤ l.length ∧ i = .int .i64 j ∧ Below w.heap.size w wr) (fun i _ => l.length - (intOf i).toNat)
  case atStart => exact ⟨0, Nat.zero_le _, rfl, Below.refl _ _⟩
  case round =>
    obtain ⟨j, hj, rfl, hb⟩ := hrel
    by_cases hlt : j < l.length
    · rcases HROW.out with h0 | ⟨b, off, rfl, hcells⟩
      · exfalso; rw [h0] at hlt; simp at hlt
      rcases HROW2.out with h0 | ⟨b2, off2, rfl, hcells2⟩
      · exfalso; rw [h0] at hlt; simp at hlt
      have hc := cell_later' hb (hcells j hlt)
      have hc2 := cell_later' hb (hcells2 j hlt)
      obtain ⟨s, hs⟩ : ∃ s, l[j] = s := ⟨_, rfl⟩
      rw [hs] at hc hc2
      have hx : (s.toList != s.toList) = false := by simp
      have hltI : (j : Int) < (l.length : Int) := by omega
      have hj0 : (0 : Int) ≤ (j : Int) := by omega
      have HB := Lib.hid hb
      clear hcells hcells2 hs hb
      go_wp2_with fail
      go_quiet (fail)
      go_wp2_with fail
      go_roundw
      case rel => exact ⟨j + 1, by omega, by go_num, below_drewN HB.out _⟩
      case measure => simp [intOf]; omega
    · obtain rfl : j = l.length := by omega
      have HB := Lib.hid hb
      clear hb
      go_wp2_with fail
      go_ret
      exact ⟨rfl, HB.out⟩
end Go.Proofs.Ytbmpgfojhoganaa
