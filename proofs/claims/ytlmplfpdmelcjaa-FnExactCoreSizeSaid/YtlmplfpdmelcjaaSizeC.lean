/- The contracts of CoreSize, both sides. -/
import Derived.Test.YtlmplfpdmelcjaaBoxC
import Derived.Test.YtlmplfpdmelcjaaCountC
namespace Go.Proofs.Ytlmplfpdmelcjaa.CoreT
open Go.RowKit
set_option linter.unusedVariables false
set_option linter.unusedSimpArgs false
theorem sizeVisitor (B sb : Nat) (hB : B ≤ sb) : Visitor (fun _ => True) B 116 #[.pointer (some ⟨sb, 0, none⟩)]
    (fun pre E W => (∀ k, E k ↔ k = sb) ∧ W.cell? ⟨sb, 0, none⟩ = some (.int .i64 (pre.length : Int)) ∧ W.frozen? ⟨sb, 0, none⟩ = false) := by
  refine ⟨enters_of Try.func116 (by kernel_rfl) rfl, ?_, ?_⟩
  · rintro pre E W W' ⟨h1, h2, h3⟩ _ _ _ _ hs
    have e := hs sb ((h1 sb).2 rfl)
    exact ⟨h1, (World.cell?_of_block (a := ⟨sb, 0, none⟩) e).trans h2, (World.frozen?_of_block (a := ⟨sb, 0, none⟩) e).trans h3⟩
  · rintro pre E x W ⟨h1, h2, h3⟩ hl _ hE hin
    have hsl : sb < W.heap.size := cell_lt h2
    have H1 := Lib.hid h1
    have HE := Lib.hid hE
    clear h1 hE hin
    unfold CItem.val
    show Calls Try.prog 116 #[.agg #[.int .i64 x.f.kind, .int .i64 x.f.id, .string x.f.name, .int .i64 x.f.n, .slice x.i1 x.f.ids.length x.j1, .int .i64 x.f.data.kind, .string x.f.data.name, .int .i64 x.f.data.n, .slice x.s1 x.f.data.scopes.length x.t1, .slice x.k1 x.f.data.kids.length x.l1, .slice x.a x.f.kids.length x.cap], .pointer (some ⟨sb, 0, none⟩)] W _
    go_enter Try.func116, Try.ntmps116
    go_wp2_with fail
    go_end0
    have e : ((pre ++ [x.f]).length : Int) = (pre.length : Int) + 1 := by simp
    have hz : (W.setCell ⟨sb, 0, none⟩ (.int .i64 ((pre.length : Int) + 1))).heap.size = W.heap.size := by simp [World.setCell]
    refine ⟨rfl, E, ⟨H1.out, ?_, ?_⟩, ⟨rfl, rfl, rfl, by simp [World.setCell], fun k hk hn => ?_⟩, fun k hk => ⟨.inl hk, ?_⟩⟩
    · rw [e]
      exact ((below_alloc _ _).cell (p := ⟨sb, 0, none⟩) (by rw [hz]; exact hsl)).trans (World.cell?_setCell_same _ _ _ h2)
    · rw [(below_alloc _ _).frozen (p := ⟨sb, 0, none⟩) (by rw [hz]; exact hsl), World.frozen?_setCell]
      exact h3
    · rw [(below_alloc _ _).block k (by rw [hz]; exact hk)]
      exact Below.heap_setCell _ _ _ _ (fun e => hn ((H1.out k).2 e))
    · have := (H1.out k).1 hk
      rw [size_alloc', hz]
      omega
set_option maxRecDepth 100000 in
set_option maxHeartbeats 1000000 in
theorem implCoreSize_any (x : CItem) (w : World) (hv : InC (· < w.heap.size) w x.f x.val) (hc : x.f.count ≤ 1048577) (hend : FiniteAt x w) :
    Calls Try.prog 58 #[x.val] w fun e w' => e = .returned (.int .i64 (x.f.count : Int)) ∧ Below w.heap.size w w' := by
  have HV := Lib.hid hv
  have HEND := Lib.hid hend
  clear hv hend
  unfold CItem.val
  go_enter Try.func58, Try.ntmps58
  go_wp2_with fail
  obtain ⟨w2, hw2⟩ : ∃ w2, w2 = (w.alloc (.cells #[.int .i64 x.f.kind, .int .i64 x.f.id, .string x.f.name, .int .i64 x.f.n, .slice x.i1 x.f.ids.length x.j1, .int .i64 x.f.data.kind, .string x.f.data.name, .int .i64 x.f.data.n, .slice x.s1 x.f.data.scopes.length x.t1, .slice x.k1 x.f.data.kids.length x.l1, .slice x.a x.f.kids.length x.cap] 79)).alloc (.cells #[.int .i64 0] 3) := ⟨_, rfl⟩
  have hb2 : Below w.heap.size w w2 := by rw [hw2]; exact (below_alloc w _).alloc (by simp) _
  have hs2 : w2.heap.size = w.heap.size + 2 := by rw [hw2]; simp
  have hc2 : w2.cell? ⟨w.heap.size + 1, 0, none⟩ = some (.int .i64 0) := by rw [hw2]; exact World.cell?_alloc_at _ _ _ _ (by simp)
  have hf2 : w2.frozen? ⟨w.heap.size + 1, 0, none⟩ = false := by rw [hw2]; exact World.frozen?_alloc_at _ _ _ _ (by simp)
  rw [← hw2]
  refine (visit_any (fun _ => True) (fun _ _ _ _ => trivial) w.heap.size _ _ _ (sizeVisitor w.heap.size (w.heap.size + 1) (by omega)) x (fun k => k = w.heap.size + 1) w2 (by omega) (fun k hk => by omega) ⟨fun k => Iff.rfl, hc2, hf2⟩ (InC.later (same_below hb2) _ _ HV.out) hc (HEND.out.later hb2) trivial).mono ?_
  rintro e w3 ⟨rfl, E', ⟨h1, h2, h3⟩, ho, hE'⟩
  rw [Ck.pre_length] at h2
  have HB : Hid (Below w.heap.size w w3) := ⟨ho.os.trans hb2.os, ho.tape.trans hb2.tape, ho.output.trans hb2.output, by have := ho.size; omega, fun k hk => (ho.block k (by omega) (by omega)).trans (hb2.block k hk)⟩
  clear hw2 hb2 hc2 hf2 h1 ho hE'
  go_wp2_with fail
  go_ret
  exact ⟨rfl, HB.out⟩
set_option maxRecDepth 100000 in
set_option maxHeartbeats 1000000 in
theorem specCoreSize_any (B : Nat) (f : Ck) (v : Value) (w : World) (hB : B ≤ w.heap.size) (hv : InC (· < B) w f v) (hc : f.count ≤ 4611686018427387904) :
    Calls Try.prog 57 #[v] w fun e w' => e = .returned (.int .i64 (f.count : Int)) ∧ Below w.heap.size w w' := by
  have HV := Lib.hid hv
  obtain ⟨i1, j1, s1, t1, k1, l1, a, cap, rfl, _⟩ := hv.form
  clear hv
  go_enter Try.func57, Try.ntmps57
  go_wp2_with fail
  refine (l6Count_any B f _ _ (by simp; omega) (InC.later (same_below ((below_alloc w _).mono hB)) _ _ HV.out) hc).mono ?_
  rintro e w1 ⟨rfl, hb1⟩
  have HB1 : Hid (Below w.heap.size w w1) := (below_alloc w _).trans (hb1.mono (by simp))
  clear hb1
  go_wp2_with fail
  go_ret
  exact ⟨rfl, HB1.out⟩
end Go.Proofs.Ytlmplfpdmelcjaa.CoreT
