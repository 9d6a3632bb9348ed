/- The two states at the start agree, the program's is made anew each time: the law FnExactStartExpansion returns true, with no condition beyond the statement's own. -/
import Derived.Test.YtlmplfpdmelcjaaRows
import Derived.Test.YtlmplfpdmelcjaaFacts
import Derived.Test.YtlmplfpdmelcjaaSpecStart
import Derived.Test.YtlmplfpdmelcjaaMarkB
import Derived.Test.YtlmplfpdmelcjaaBdLaw
import Derived.Test.YtlmplfpdmelcjaaOpen
namespace Go.Proofs.Ytlmplfpdmelcjaa.exStartExpansion
open Go.ChangeShapes Go.WideShapes Go.ChangeAt Go.RowKit
set_option linter.unusedVariables false
set_option linter.unusedSimpArgs false
theorem row_mono {φ ψ : Nat → Prop} {w : World} {v : Value} {l : List Bd} (hp : ∀ k, φ k → ψ k) (h : BdRow φ w v l) : BdRow ψ w v l := by
  obtain ⟨a, cap, rfl, g2, g3, g4, g5⟩ := h
  refine ⟨a, cap, rfl, g2, g3, g4, ?_⟩
  rcases g5 with g5 | ⟨b, off, rfl, g5, g6⟩
  · exact .inl g5
  · refine .inr ⟨b, off, rfl, hp _ g5, fun i hi => ?_⟩
    obtain ⟨sa, scap, c0, c1, c2, hr⟩ := g6 i hi
    exact ⟨sa, scap, c0, c1, c2, hr.mono hp⟩
/-- the cells of a state at the head of a block -/
def StBox (W : World) (b : Nat) (a : Option Addr) (cap : Nat) : Prop := W.cell? ⟨b, 0, none⟩ = some (.slice a 5 cap) ∧ W.cell? ⟨b, 1, none⟩ = some (.slice none 0 0) ∧ W.cell? ⟨b, 2, none⟩ = some (.int .i64 0) ∧ W.cell? ⟨b, 3, none⟩ = some (.int .i64 10) ∧ W.cell? ⟨b, 4, none⟩ = some (.int .i64 0)
theorem StBox.later {w w' : World} {b cap : Nat} {a : Option Addr} (h : StBox w b a cap) (hb : Below w.heap.size w w') : StBox w' b a cap :=
  ⟨cell_later' hb h.1, cell_later' hb h.2.1, cell_later' hb h.2.2.1, cell_later' hb h.2.2.2.1, cell_later' hb h.2.2.2.2⟩
theorem StBox.only {bs : List Nat} {w w' : World} {b cap : Nat} {a : Option Addr} (h : StBox w b a cap) (ho : Only bs w w') (hn : b ∉ bs) : StBox w' b a cap := by
  have hb := ho.block b (cell_lt h.1) hn
  exact ⟨(World.cell?_of_block (a := ⟨b, 0, none⟩) hb).trans h.1, (World.cell?_of_block (a := ⟨b, 1, none⟩) hb).trans h.2.1, (World.cell?_of_block (a := ⟨b, 2, none⟩) hb).trans h.2.2.1, (World.cell?_of_block (a := ⟨b, 3, none⟩) hb).trans h.2.2.2.1, (World.cell?_of_block (a := ⟨b, 4, none⟩) hb).trans h.2.2.2.2⟩
theorem StBox.fresh (w : World) (a : Option Addr) (cap : Nat) (t : TypeId) : StBox (w.alloc (.cells #[.slice a 5 cap, .slice none 0 0, .int .i64 0, .int .i64 10, .int .i64 0] t)) w.heap.size a cap :=
  ⟨World.cell?_alloc_at _ _ _ _ rfl, World.cell?_alloc_at _ _ _ _ rfl, World.cell?_alloc_at _ _ _ _ rfl, World.cell?_alloc_at _ _ _ _ rfl, World.cell?_alloc_at _ _ _ _ rfl⟩
theorem eqMacro_nil (w : World) : Calls Try.prog 123 #[.slice none 0 0, .slice none 0 0] w fun e w' => e = .returned (.bool true) ∧ w = w' := by
  go_enter Try.func123, Try.ntmps123
  go_wp2_with fail
  go_loopw [5] (fun i wr => i = .int .i64 0 ∧ wr = w) (fun _ _ => 0)
  case atStart => exact ⟨rfl, rfl⟩
  case round =>
    obtain ⟨rfl, rfl⟩ := hrel
    go_wp2_with fail
    go_ret
    exact ⟨rfl, rfl⟩
theorem markMacro_nil (k : Int) (w : World) : Calls Try.prog 125 #[.slice none 0 0, .int .i64 k] w fun e w' => e = .returned (.int .i64 k) ∧ w = w' := by
  go_enter Try.func125, Try.ntmps125
  go_wp2_with fail
  go_loopw [5, 1] (fun i u wr => i = .int .i64 0 ∧ u = .int .i64 k ∧ wr = w) (fun _ _ _ => 0)
  case atStart => exact ⟨rfl, rfl, rfl⟩
  case round =>
    obtain ⟨rfl, rfl, rfl⟩ := hrel
    go_wp2_with fail
    go_ret
    exact ⟨rfl, rfl⟩
theorem heldMacro_nil (k : Int) (w : World) : Calls Try.prog 127 #[.slice none 0 0, .int .i64 k] w fun e w' => e = .returned (.int .i64 k) ∧ w = w' := by
  go_enter Try.func127, Try.ntmps127
  go_wp2_with fail
  go_loopw [5, 1] (fun i u wr => i = .int .i64 0 ∧ u = .int .i64 k ∧ wr = w) (fun _ _ _ => 0)
  case atStart => exact ⟨rfl, rfl, rfl⟩
  case round =>
    obtain ⟨rfl, rfl, rfl⟩ := hrel
    go_wp2_with fail
    go_ret
    exact ⟨rfl, rfl⟩
set_option maxRecDepth 100000 in
theorem eqState_any (w : World) (a a2 : Option Addr) (cap cap2 : Nat) (hv : BdRow (· < w.heap.size) w (.slice a 5 cap) startB) (hu : BdRow (· < w.heap.size) w (.slice a2 5 cap2) startB) :
    Calls Try.prog 67 #[.agg #[.slice a 5 cap, .slice none 0 0, .int .i64 0, .int .i64 10, .int .i64 0], .agg #[.slice a2 5 cap2, .slice none 0 0, .int .i64 0, .int .i64 10, .int .i64 0]] w fun e w' => e = .returned (.bool true) ∧ Below w.heap.size w w' := by
  have HV := Lib.hid hv
  have HU := Lib.hid hu
  have HA2 : Hid (∀ O O', Below w.heap.size w ((w.alloc O).alloc O')) := fun O O' => ((Below.refl _ w).alloc (Nat.le_refl _) _).alloc (by simp) _
  clear hv hu
  go_enter Try.func67, Try.ntmps67
  go_wp2_with fail
  refine (eqBindS_any w.heap.size startB _ _ _ (by simp; omega) (HV.out.later (same_below (HA2.out _ _))) (HU.out.later (same_below (HA2.out _ _)))).mono ?_
  rintro e w1 ⟨rfl, hb1⟩
  have hs1 : w.heap.size + 2 ≤ w1.heap.size := by have := hb1.size; simpa using this
  have cA1 : w1.cell? ⟨w.heap.size, 1, none⟩ = some (.slice none 0 0) := (hb1.cell (p := ⟨w.heap.size, 1, none⟩) (by simp; omega)).trans (by simp)
  have cA2 : w1.cell? ⟨w.heap.size, 2, none⟩ = some (.int .i64 0) := (hb1.cell (p := ⟨w.heap.size, 2, none⟩) (by simp; omega)).trans (by simp)
  have cA3 : w1.cell? ⟨w.heap.size, 3, none⟩ = some (.int .i64 10) := (hb1.cell (p := ⟨w.heap.size, 3, none⟩) (by simp; omega)).trans (by simp)
  have cA4 : w1.cell? ⟨w.heap.size, 4, none⟩ = some (.int .i64 0) := (hb1.cell (p := ⟨w.heap.size, 4, none⟩) (by simp; omega)).trans (by simp)
  have cB1 : w1.cell? ⟨w.heap.size + 1, 1, none⟩ = some (.slice none 0 0) := (hb1.cell (p := ⟨w.heap.size + 1, 1, none⟩) (by simp)).trans (by simp)
  have cB2 : w1.cell? ⟨w.heap.size + 1, 2, none⟩ = some (.int .i64 0) := (hb1.cell (p := ⟨w.heap.size + 1, 2, none⟩) (by simp)).trans (by simp)
  have cB3 : w1.cell? ⟨w.heap.size + 1, 3, none⟩ = some (.int .i64 10) := (hb1.cell (p := ⟨w.heap.size + 1, 3, none⟩) (by simp)).trans (by simp)
  have cB4 : w1.cell? ⟨w.heap.size + 1, 4, none⟩ = some (.int .i64 0) := (hb1.cell (p := ⟨w.heap.size + 1, 4, none⟩) (by simp)).trans (by simp)
  have HB1 : Hid (Below w.heap.size w w1) := (HA2.out _ _).trans (hb1.mono (by simp; omega))
  clear hb1
  go_wp2_with fail
  refine (eqMacro_nil w1).mono ?_
  rintro e w2 ⟨rfl, rfl⟩
  go_wp2_with fail
  go_ret
  exact ⟨rfl, HB1.out⟩
set_option maxRecDepth 100000 in
theorem markState_any (w : World) (a : Option Addr) (cap : Nat) (bs : List Nat) (hv : BdsOwn w startB (.slice a 5 cap) bs) (hnd : bs.Nodup) (hlt : ∀ c ∈ bs, c < w.heap.size) :
    Calls Try.prog 68 #[.agg #[.slice a 5 cap, .slice none 0 0, .int .i64 0, .int .i64 10, .int .i64 0], .int .i64 1] w fun e w' => e = .returned (.int .i64 11) ∧ BdsOwn w' (markedB startB 1) (.slice a 5 cap) bs ∧ Only bs w w' := by
  have HV := Lib.hid hv
  have HND := Lib.hid hnd
  have HLT := Lib.hid hlt
  clear hv hnd hlt
  go_enter Try.func68, Try.ntmps68
  go_wp2_with fail
  have hb0 := below_alloc w (.cells #[.slice a 5 cap, .slice none 0 0, .int .i64 0, .int .i64 10, .int .i64 0] 93)
  refine (markBindS_any startB _ bs 1 _ (HV.out.later (SameOn.of_below hb0 HLT.out)) HND.out (fun c hc => by have := HLT.out c hc; simp; omega) (by omega) (by decide)).mono ?_
  rintro e w1 ⟨rfl, hm, ho⟩
  have hn : w.heap.size ∉ bs := fun h => by have := HLT.out _ h; omega
  have hx := (StBox.fresh w a cap 93).only ho hn
  have hk : (1 : Int) + (marksB startB : Nat) = 11 := by decide
  rw [hk]
  obtain ⟨x0, x1, x2, x3, x4⟩ := hx
  have HM := Lib.hid hm
  have HO : Hid (Only bs w w1) := ((Only.refl _ w).alloc _).trans ho
  clear hb0 hm ho
  go_wp2_with fail
  refine (markMacro_nil 11 w1).mono ?_
  rintro e w2 ⟨rfl, rfl⟩
  go_wp2_with fail
  go_ret
  exact ⟨rfl, HM.out, HO.out⟩
set_option maxRecDepth 100000 in
theorem heldState_any (B : Nat) (w : World) (a : Option Addr) (cap : Nat) (hB : B ≤ w.heap.size) (hv : BdRow (· < B) w (.slice a 5 cap) (markedB startB 1)) :
    Calls Try.prog 69 #[.agg #[.slice a 5 cap, .slice none 0 0, .int .i64 0, .int .i64 10, .int .i64 0], .int .i64 1] w fun e w' => e = .returned (.int .i64 11) ∧ Below w.heap.size w w' := by
  have HV := Lib.hid hv
  clear hv
  go_enter Try.func69, Try.ntmps69
  go_wp2_with fail
  have hb0 := below_alloc w (.cells #[.slice a 5 cap, .slice none 0 0, .int .i64 0, .int .i64 10, .int .i64 0] 93)
  refine (heldBindS_any B startB _ 1 _ (by simp; omega) (HV.out.later (same_below (hb0.mono hB))) (by omega) (by decide)).mono ?_
  rintro e w1 ⟨rfl, hb1⟩
  have hx := (StBox.fresh w a cap 93).later hb1
  have hk : (1 : Int) + (marksB startB : Nat) = 11 := by decide
  rw [hk]
  obtain ⟨x0, x1, x2, x3, x4⟩ := hx
  have HB1 : Hid (Below w.heap.size w w1) := hb0.trans (hb1.mono (by simp))
  clear hb0 hb1
  go_wp2_with fail
  refine (heldMacro_nil 11 w1).mono ?_
  rintro e w2 ⟨rfl, rfl⟩
  go_wp2_with fail
  go_ret
  exact ⟨rfl, HB1.out⟩
end Go.Proofs.Ytlmplfpdmelcjaa.exStartExpansion
