/- The contract of the program's copies of lists of forms. -/
import Derived.Test.YtkfolefeehggcaaCopyForm
import Derived.Test.YtkfolefeehggcaaFormsS
namespace Go.Proofs.Ytkfolefeehggcaa
open Go.RowKit
set_option linter.unusedVariables false
set_option linter.unusedSimpArgs false
set_option maxRecDepth 100000 in
set_option maxHeartbeats 1000000 in
theorem copyForms_any (ks : List Fm) (a : Option Addr) (cap : Nat) (w : World) (hl : FormsIn (· < w.heap.size) w a cap ks) (hsz : szAll ks ≤ 1048576) :
    Calls Try.prog 89 #[.slice a ks.length cap] w fun e w' => ∃ ra rc bs, e = .returned (.slice ra ks.length rc) ∧ KidsOwn w' ra rc ks bs ∧ NewBs bs w.heap.size w'.heap.size ∧ Below w.heap.size w w' := by
  have HL := Lib.hid hl
  have HIV : Hid (InV (· < w.heap.size) w (.mk 0 { data := #[] } 0 [] ks) (.agg #[.int .i64 0, .string { data := #[] }, .int .i64 0, .slice none 0 0, .slice a ks.length cap])) := by
    unfold Hid InV
    exact ⟨_, a, cap, rfl, by omega, by omega, by decide, ⟨none, 0, rfl, Nat.le_refl _, Nat.zero_le _, by simp, .inl rfl⟩, hl.1, hl.2.1, hl.2.2⟩
  have hss : (Fm.mk 0 { data := #[] } 0 [] ks).sz ≤ 1048576 := by
    simp only [Fm.sz, List.length_nil]
    have : ({ data := #[] } : ByteArray).size = 0 := rfl
    omega
  clear hl
  have hfd : ∀ (w : World) (rsa ra : Option Addr) (rscap rc : Nat), (Instr.field 36 (.agg #[.int .i64 0, .string { data := #[] }, .int .i64 0, .slice rsa 0 rscap, .slice ra ks.length rc]) 4).run Try.prog w = .ok (.slice ra ks.length rc) w := fun _ _ _ _ _ => rfl
  go_enter Try.func89, Try.ntmps89
  go_wp2_with fail
  refine (copyForm_any (.mk 0 { data := #[] } 0 [] ks) _ w HIV.out hss).mono ?_
  rintro e w1 ⟨rsa, rscap, ra, rc, bs, rfl, hown, hnew, _, hb1⟩
  simp only [Fm.kind, Fm.name, Fm.n, Fm.scopes, Fm.kids] at hown ⊢
  have HB1 := Lib.hid hb1
  have HK : Hid (∃ bs, KidsOwn w1 ra rc ks bs ∧ NewBs bs w.heap.size w1.heap.size) := by
    obtain ⟨sa', scap', a', cap', bs1, bs2, e, _, _, _, _, hk, rfl⟩ := hown.kids
    injection e with e
    injection e with e
    simp only [List.cons.injEq, and_true, Value.slice.injEq] at e
    obtain ⟨_, _, _, _, rfl, _, rfl⟩ := e
    exact ⟨bs2, hk, (List.nodup_append.1 hnew.1).2.1, fun b hb => hnew.2 b (List.mem_append_right _ hb)⟩
  clear hown hnew hb1
  go_wp2_with fail
  go_ret
  obtain ⟨bs', h1, h2⟩ := HK.out
  exact ⟨ra, rc, bs', rfl, h1, h2, HB1.out⟩
end Go.Proofs.Ytkfolefeehggcaa
