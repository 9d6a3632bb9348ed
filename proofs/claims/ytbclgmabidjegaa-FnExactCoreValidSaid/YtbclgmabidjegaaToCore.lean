/- The contracts of the copies of core programs. -/
import Derived.Test.YtbclgmabidjegaaOwnCore
import Derived.Test.YtbclgmabidjegaaTo
namespace Go.Proofs.Ytbclgmabidjegaa
open Go.RowKit
set_option linter.unusedVariables false
theorem Try.infoCk : (Try.prog.info? 36).map (fun i => (i.zero, i.size, i.bytes)) = some (some (.agg #[.int .i64 0, .int .i64 0, .string ByteArray.empty, .int .i64 0, .slice none 0 0, .int .i64 0, .string ByteArray.empty, .int .i64 0, .slice none 0 0, .slice none 0 0, .slice none 0 0]), 11, 168) := by kernel_rfl
def zeroCk : Array Value := #[.int .i64 0, .int .i64 0, .string ByteArray.empty, .int .i64 0, .slice none 0 0, .int .i64 0, .string ByteArray.empty, .int .i64 0, .slice none 0 0, .slice none 0 0, .slice none 0 0]
theorem make_cores (n : Nat) (hn : n ≤ 1048576) (w : World) : (Instr.makeSlice 34 (.int .i64 (n : Int)) (.int .i64 (n : Int))).run Try.prog w =
    .ok (.slice (some ⟨w.heap.size, 0, none⟩) n n) (w.alloc (.cells (madeCells zeroCk (n * 11)) 36)) := by
  obtain ⟨i, hi, hzz⟩ := Option.map_eq_some_iff.1 Try.infoCk
  simp only [Prod.mk.injEq] at hzz
  obtain ⟨hz, hs, hb⟩ := hzz
  have := run_make (P := Try.prog) w 34 36 i _ Try.underlying34 hi hz .i64 .i64 n n (by omega) (Int.le_refl _) (by rw [hb]; omega) (by omega)
  rw [hs] at this
  exact this
def ToPostC (f : Ck) (w : World) (e : Ending) (w' : World) : Prop :=
  ∃ i1 j1 s1 t1 k1 l1 a cap bs, e = .returned (.agg #[.int .i64 f.kind, .int .i64 f.id, .string f.name, .int .i64 f.n, .slice i1 f.ids.length j1, .int .i64 f.data.kind, .string f.data.name, .int .i64 f.data.n, .slice s1 f.data.scopes.length t1, .slice k1 f.data.kids.length l1, .slice a f.kids.length cap]) ∧
    OwnC w' f (.agg #[.int .i64 f.kind, .int .i64 f.id, .string f.name, .int .i64 f.n, .slice i1 f.ids.length j1, .int .i64 f.data.kind, .string f.data.name, .int .i64 f.data.n, .slice s1 f.data.scopes.length t1, .slice k1 f.data.kids.length l1, .slice a f.kids.length cap]) bs ∧ NewBs bs w.heap.size w'.heap.size ∧ AllPlain w' bs ∧ Below w.heap.size w w'
/-- a core program, copied into blocks of its own -/
def ToSaidC (B : Nat) (f : Ck) : Prop := ∀ (v : Value) (w : World), B ≤ w.heap.size → InC (· < B) w f v → f.sz ≤ 1048576 →
    Calls Try.prog 15 #[v] w (ToPostC f w)
set_option maxRecDepth 100000 in
set_option maxHeartbeats 2000000 in
theorem toCoreS_of (B : Nat) (ks : List Ck) (ih : ∀ g ∈ ks, ToSaidC B g) (a : Option Addr) (cap : Nat) (w : World) (hB : B ≤ w.heap.size) (hcap : ks.length ≤ cap) (hmax : cap ≤ maxLen)
    (hks : ks = [] ∨ ∃ kb off, a = some ⟨kb, off, none⟩ ∧ kb < B ∧ RowC (· < B) w kb off ks) (hsz : szCs ks ≤ 1048576) :
    Calls Try.prog 69 #[.slice a ks.length cap] w fun e w' => ∃ a' cap', e = .returned (.slice a' ks.length cap') ∧ ks.length ≤ cap' ∧ cap' ≤ maxLen ∧ 
      (∃ bs, ((ks = [] ∧ bs = []) ∨ ∃ b off bs3, a' = some ⟨b, off, none⟩ ∧ bs = b :: bs3 ∧ RowOwnC w' b off ks bs3) ∧ NewBs bs w.heap.size w'.heap.size ∧ AllPlain w' bs) ∧ Below w.heap.size w w' := by
  unfold maxLen at hmax
  have hlen : ks.length ≤ 1048576 := by have := szCs_length ks; omega
  have HIH := Lib.hid ih
  have HKS := Lib.hid hks
  have hmk := fun w => make_cores ks.length hlen w
  have HF0 : Hid (FillC w (w.alloc (.cells (madeCells zeroCk (ks.length * 11)) 36)) ks 0 []) :=
    ⟨(Below.refl _ _).alloc (Nat.le_refl _) _, by simp, by unfold RowOwnC; rfl, NewBs.nil _ _, fun i hi => made_cell w _ _ _ i hi, fun i => made_free w _ _ _ i, Plain.fresh _ _ _, AllPlain.nil _⟩
  clear ih hks
  go_enter Try.func69, Try.ntmps69
  go_wp2_with fail
  go_loopw [4] (fun i wr => ∃ (j : Nat) (bs : List Nat), j ≤ ks.length ∧ i = .int .i64 j ∧ FillC w wr ks j bs) (fun i _ => ks.length - (intOf i).toNat)
  case atStart => exact ⟨0, [], Nat.zero_le _, rfl, HF0.out⟩
  case round =>
    obtain ⟨j, bs, hj, rfl, hfill⟩ := hrel
    have HF := Lib.hid hfill
    clear hfill
    by_cases hlt : j < ks.length
    · rcases HKS.out with h0 | ⟨kb, off, rfl, hkb, hrow⟩
      · exfalso; rw [h0] at hlt; simp at hlt
      · obtain ⟨i1, j1, s1, t1, k1, l1, ga, gcap, h0, h1, h2, h3, h4, h5, h6, h7, h8, h9, h10, hin⟩ := (hrow.later (same_below (HF.out.below.mono hB)) kb hkb).at' j hlt
        have HIN := Lib.hid hin
        have HIHJ := Lib.hid (HIH.out ks[j] (List.getElem_mem hlt))
        have hs1 := HF.out.size
        clear hin hrow
        have hszj : ks[j].sz ≤ 1048576 := by
          have g1 := szCin_take_succ ks j hlt
          have g2 := szCin_take_le ks (j + 1)
          have g3 := szCs_length ks
          have g4 : szCs ks = ks.length + szCin ks := by unfold szCin; omega
          omega
        go_wp2_with fail
        refine (HIHJ.out _ _ (by omega) HIN.out hszj).mono ?_
        rintro e w3 ⟨u1, v1, u2, v2, x2, y2, a', cap', bs', rfl, hown, hnew, hpl, hb3⟩
        clear h0 h1 h2 h3 h4 h5 h6 h7 h8 h9 h10
        have HPL := Lib.hid hpl
        have hth : ∀ i, i < 11 → ∃ v, w3.cell? ⟨w.heap.size, j * 11 + i, none⟩ = some v := fun i hi => by
          obtain ⟨v, hv⟩ := HF.out.there (j * 11 + i) (by omega)
          exact ⟨v, cell_later' hb3 hv⟩
        have hfr : ∀ i, w3.frozen? ⟨w.heap.size, i, none⟩ = false := fun i => by
          rw [hb3.frozen (p := ⟨w.heap.size, i, none⟩) hs1]; exact HF.out.free i
        obtain ⟨v20, g0⟩ := hth 0 (by omega)
        obtain ⟨v21, g1⟩ := hth 1 (by omega)
        obtain ⟨v22, g2⟩ := hth 2 (by omega)
        obtain ⟨v23, g3⟩ := hth 3 (by omega)
        obtain ⟨v24, g4⟩ := hth 4 (by omega)
        obtain ⟨v25, g5⟩ := hth 5 (by omega)
        obtain ⟨v26, g6⟩ := hth 6 (by omega)
        obtain ⟨v27, g7⟩ := hth 7 (by omega)
        obtain ⟨v28, g8⟩ := hth 8 (by omega)
        obtain ⟨v29, g9⟩ := hth 9 (by omega)
        obtain ⟨v30, g10⟩ := hth 10 (by omega)
        rw [Nat.add_zero] at g0
        have f0 := hfr (j * 11)
        have f1 := hfr (j * 11 + 1)
        have f2 := hfr (j * 11 + 2)
        have f3 := hfr (j * 11 + 3)
        have f4 := hfr (j * 11 + 4)
        have f5 := hfr (j * 11 + 5)
        have f6 := hfr (j * 11 + 6)
        have f7 := hfr (j * 11 + 7)
        have f8 := hfr (j * 11 + 8)
        have f9 := hfr (j * 11 + 9)
        have f10 := hfr (j * 11 + 10)
        have HO := Lib.hid hown
        have HN := Lib.hid hnew
        have HB3 := Lib.hid hb3
        have HFR := Lib.hid hfr
        clear hown hnew hpl hb3 hth hfr
        go_wp2_with fail
        go_roundw
        case rel => exact ⟨j + 1, bs ++ bs', by omega, by go_num, HF.out.step hlt HB3.out HO.out HN.out HPL.out⟩
        case measure => simp [intOf]; omega
    · obtain rfl : j = ks.length := by omega
      go_wp2_with fail
      go_ret
      refine ⟨_, _, rfl, Nat.le_refl _, by unfold maxLen; omega, ?_, HF.out.below⟩
      by_cases h0 : ks = []
      · exact ⟨[], .inl ⟨h0, rfl⟩, NewBs.nil _ _, AllPlain.nil _⟩
      · refine ⟨w.heap.size :: bs, .inr ⟨_, 0, bs, rfl, rfl, ?_⟩, HF.out.news.cons (Nat.le_refl _) HF.out.size, HF.out.plains.cons HF.out.plain⟩
        have := HF.out.row
        rw [List.take_length] at this
        exact this
end Go.Proofs.Ytbclgmabidjegaa
