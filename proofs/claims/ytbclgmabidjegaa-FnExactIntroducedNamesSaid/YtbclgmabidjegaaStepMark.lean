/- The marks of a step. -/
import Derived.Test.YtbclgmabidjegaaStepKit
import Derived.Test.YtbclgmabidjegaaMarkF
import Derived.Deep.CutRange
namespace Go.Proofs.Ytbclgmabidjegaa
open Go.RowKit
set_option linter.unusedVariables false
set_option linter.unusedSimpArgs false
set_option maxRecDepth 100000 in
set_option maxHeartbeats 2000000 in
theorem markStep_any (n1 n2 n3 : Int) (p t : Fm) (s1 : Option Addr) (t1 : Nat) (k1 : Option Addr) (l1 : Nat) (s2 : Option Addr) (t2 : Nat) (k2 : Option Addr) (l2 : Nat) (b1 b2 : List Nat) (k : Int) (w : World)
    (hp : OwnV w p (.agg #[.int .i64 p.kind, .string p.name, .int .i64 p.n, .slice s1 p.scopes.length t1, .slice k1 p.kids.length l1]) b1) (ht : OwnV w t (.agg #[.int .i64 t.kind, .string t.name, .int .i64 t.n, .slice s2 t.scopes.length t2, .slice k2 t.kids.length l2]) b2)
    (hnd : (b1 ++ b2).Nodup) (hlt : ∀ c ∈ b1 ++ b2, c < w.heap.size) (hk : 1 ≤ k) (hk2 : k + p.marks + t.marks ≤ 1099511627776) :
    Calls Try.prog 63 #[.agg #[.int .i64 n1, .int .i64 n2, .int .i64 n3, .int .i64 p.kind, .string p.name, .int .i64 p.n, .slice s1 p.scopes.length t1, .slice k1 p.kids.length l1, .int .i64 t.kind, .string t.name, .int .i64 t.n, .slice s2 t.scopes.length t2, .slice k2 t.kids.length l2], .int .i64 k] w
      fun e w' => e = .returned (.int .i64 (k + p.marks + t.marks)) ∧ Only (b1 ++ b2) w w' := by
  obtain ⟨hn1, hn2, hdj⟩ := List.nodup_append.1 hnd
  have HP := Lib.hid hp
  have HT := Lib.hid ht
  have HLT := Lib.hid hlt
  have HDJ := Lib.hid hdj
  obtain ⟨w0, hw0⟩ : ∃ w0, w0 = w.alloc (.cells #[.int .i64 n1, .int .i64 n2, .int .i64 n3, .int .i64 p.kind, .string p.name, .int .i64 p.n, .slice s1 p.scopes.length t1, .slice k1 p.kids.length l1, .int .i64 t.kind, .string t.name, .int .i64 t.n, .slice s2 t.scopes.length t2, .slice k2 t.kids.length l2] 94) := ⟨_, rfl⟩
  have hb0 : Below w.heap.size w w0 := by rw [hw0]; exact below_alloc _ _
  have hs0 : w.heap.size + 1 ≤ w0.heap.size := by rw [hw0]; simp
  have c3 : w0.cell? ⟨w.heap.size, 3, none⟩ = some (.int .i64 p.kind) := by rw [hw0]; exact World.cell?_alloc_at _ _ _ _ rfl
  have c4 : w0.cell? ⟨w.heap.size, 4, none⟩ = some (.string p.name) := by rw [hw0]; exact World.cell?_alloc_at _ _ _ _ rfl
  have c5 : w0.cell? ⟨w.heap.size, 5, none⟩ = some (.int .i64 p.n) := by rw [hw0]; exact World.cell?_alloc_at _ _ _ _ rfl
  have c6 : w0.cell? ⟨w.heap.size, 6, none⟩ = some (.slice s1 p.scopes.length t1) := by rw [hw0]; exact World.cell?_alloc_at _ _ _ _ rfl
  have c7 : w0.cell? ⟨w.heap.size, 7, none⟩ = some (.slice k1 p.kids.length l1) := by rw [hw0]; exact World.cell?_alloc_at _ _ _ _ rfl
  have c8 : w0.cell? ⟨w.heap.size, 8, none⟩ = some (.int .i64 t.kind) := by rw [hw0]; exact World.cell?_alloc_at _ _ _ _ rfl
  have c9 : w0.cell? ⟨w.heap.size, 9, none⟩ = some (.string t.name) := by rw [hw0]; exact World.cell?_alloc_at _ _ _ _ rfl
  have c10 : w0.cell? ⟨w.heap.size, 10, none⟩ = some (.int .i64 t.n) := by rw [hw0]; exact World.cell?_alloc_at _ _ _ _ rfl
  have c11 : w0.cell? ⟨w.heap.size, 11, none⟩ = some (.slice s2 t.scopes.length t2) := by rw [hw0]; exact World.cell?_alloc_at _ _ _ _ rfl
  have c12 : w0.cell? ⟨w.heap.size, 12, none⟩ = some (.slice k2 t.kids.length l2) := by rw [hw0]; exact World.cell?_alloc_at _ _ _ _ rfl
  have HB0 := Lib.hid hb0
  have HW0 := Lib.hid hw0
  clear hp ht hlt hnd hdj hw0 hb0
  go_enter Try.func63, Try.ntmps63
  go_upto_region 1 with fail
  rw [← HW0.out]
  clear HW0
  go_wp2_with fail
  refine (markForm_any p _ b1 k w0 (HP.out.later _ _ _ (fun c hc => HB0.out.block c (HLT.out c (List.mem_append_left _ hc)))) hn1 (fun c hc => by have := HLT.out c (List.mem_append_left _ hc); omega) hk (by omega)).mono ?_
  rintro e w1 ⟨rfl, _, ho1⟩
  have hnot : w.heap.size ∉ b1 := fun h => by have := HLT.out _ (List.mem_append_left _ h); omega
  have hbl := ho1.block w.heap.size (by omega) hnot
  have d8 := (World.cell?_of_block (a := ⟨w.heap.size, 8, none⟩) hbl).trans c8
  have d9 := (World.cell?_of_block (a := ⟨w.heap.size, 9, none⟩) hbl).trans c9
  have d10 := (World.cell?_of_block (a := ⟨w.heap.size, 10, none⟩) hbl).trans c10
  have d11 := (World.cell?_of_block (a := ⟨w.heap.size, 11, none⟩) hbl).trans c11
  have d12 := (World.cell?_of_block (a := ⟨w.heap.size, 12, none⟩) hbl).trans c12
  have HO1 := Lib.hid ho1
  have hs1 : w0.heap.size ≤ w1.heap.size := ho1.size
  obtain ⟨K, hK⟩ : ∃ K, K = k + (p.marks : Int) := ⟨_, rfl⟩
  rw [← hK]
  have HK := Lib.hid hK
  have hK1 : 1 ≤ K := by omega
  have hK2 : K + t.marks ≤ 1099511627776 := by omega
  clear ho1 hbl hK c3 c4 c5 c6 c7 c8 c9 c10 c11 c12
  go_wp2_with fail
  refine (markForm_any t _ b2 K w1 (HT.out.later _ _ _ (fun c hc => by
    have h1 := HLT.out c (List.mem_append_right _ hc)
    rw [HO1.out.block c (by omega) (fun h => HDJ.out c h c hc rfl)]
    exact HB0.out.block c h1)) hn2 (fun c hc => by have := HLT.out c (List.mem_append_right _ hc); omega) hK1 hK2).mono ?_
  rintro e w2 ⟨rfl, _, ho2⟩
  have HO2 := Lib.hid ho2
  clear ho2 d8 d9 d10 d11 d12
  go_wp2_with fail
  go_ret
  refine ⟨by rw [HK.out]; rfl, ?_⟩
  have h1 := HO1.out
  have h2 := HO2.out
  have h0 := HB0.out
  exact ⟨h2.os.trans (h1.os.trans h0.os), h2.tape.trans (h1.tape.trans h0.tape), h2.output.trans (h1.output.trans h0.output), Nat.le_trans h0.size (Nat.le_trans h1.size h2.size), fun c hc hn => by
    rw [h2.block c (by omega) (fun h => hn (List.mem_append_right _ h)), h1.block c (by omega) (fun h => hn (List.mem_append_left _ h)), h0.block c hc]⟩
end Go.Proofs.Ytbclgmabidjegaa
