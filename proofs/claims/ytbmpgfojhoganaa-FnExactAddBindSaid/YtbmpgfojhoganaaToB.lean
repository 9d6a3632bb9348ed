/- The contracts of the copies of bindings that came in. -/
import Derived.Test.YtbmpgfojhoganaaOwnB
import Derived.Test.YtbmpgfojhoganaaTo
import Derived.Test.YtbmpgfojhoganaaBdSz
namespace Go.Proofs.Ytbmpgfojhoganaa
open Go.RowKit
set_option linter.unusedVariables false
set_option linter.unusedSimpArgs false
theorem Try.infoBd : (Try.prog.info? 83).map (fun i => (i.zero, i.size, i.bytes)) = some (some (.agg #[.string ByteArray.empty, .slice none 0 0, .int .i64 0]), 3, 48) := by kernel_rfl
def zeroBd : Array Value := #[.string ByteArray.empty, .slice none 0 0, .int .i64 0]
theorem make_binds (n : Nat) (hn : n ≤ 1048576) (w : World) : (Instr.makeSlice 47 (.int .i64 (n : Int)) (.int .i64 (n : Int))).run Try.prog w =
    .ok (.slice (some ⟨w.heap.size, 0, none⟩) n n) (w.alloc (.cells (madeCells zeroBd (n * 3)) 83)) := by
  obtain ⟨i, hi, hzz⟩ := Option.map_eq_some_iff.1 Try.infoBd
  simp only [Prod.mk.injEq] at hzz
  obtain ⟨hz, hs, hb⟩ := hzz
  have := run_make (P := Try.prog) w 47 83 i _ Try.underlying47 hi hz .i64 .i64 n n (by omega) (Int.le_refl _) (by rw [hb]; omega) (by omega)
  rw [hs] at this
  exact this
set_option maxRecDepth 100000 in
set_option maxHeartbeats 400000 in
theorem toBind_any (B : Nat) (x : Bd) (sa : Option Addr) (scap : Nat) (w : World) (hB : B ≤ w.heap.size) (hr : IntRow (· < B) w (.slice sa x.scopes.length scap) x.scopes) (hsz : x.scopes.length ≤ 1048576) :
    Calls Try.prog 68 #[.agg #[.string x.name, .slice sa x.scopes.length scap, .int .i64 x.id]] w fun e w' => ∃ sb sbcap bs, e = .returned (.agg #[.string x.name, .slice sb x.scopes.length sbcap, .int .i64 x.id]) ∧
      IntOwn w' (.slice sb x.scopes.length sbcap) x.scopes bs ∧ NewBs bs w.heap.size w'.heap.size ∧ AllPlain w' bs ∧ Below w.heap.size w w' := by
  have HR := Lib.hid hr
  clear hr
  go_enter Try.func68, Try.ntmps68
  go_wp2_with fail
  refine (toIntS_any (· < B) x.scopes _ _ (fun k hk => by simp; omega) (HR.out.later (same_below ((((Below.refl B w).alloc hB _).alloc (by simp; omega) _).alloc (by simp; omega) _))) hsz).mono ?_
  rintro e w1 ⟨cap1, a1, rfl, ⟨bs1, ho1, hn1, hp1⟩, hb1⟩
  have HP1 := Lib.hid hp1
  clear hp1
  have cA2 : w1.cell? ⟨w.heap.size, 2, none⟩ = some (.int .i64 x.id) := (hb1.cell (p := ⟨w.heap.size, 2, none⟩) (by simp; omega)).trans (a3_cell0 _ _ _ _ _ _)
  have cR0 : w1.cell? ⟨w.heap.size + 1, 0, none⟩ = some (.string ByteArray.empty) := (hb1.cell (p := ⟨w.heap.size + 1, 0, none⟩) (by simp)).trans (a3_cell1 _ _ _ _ _ _)
  have fR0 : w1.frozen? ⟨w.heap.size + 1, 0, none⟩ = false := (hb1.frozen (p := ⟨w.heap.size + 1, 0, none⟩) (by simp)).trans (a3_free1 _ _ _ _ _ _)
  have cO0 : w1.cell? ⟨w.heap.size + 1 + 1, 0, none⟩ = some (.string x.name) := (hb1.cell (p := ⟨w.heap.size + 1 + 1, 0, none⟩) (by simp)).trans (a3_cell2 _ _ _ _ _ _)
  have fO0 : w1.frozen? ⟨w.heap.size + 1 + 1, 0, none⟩ = false := (hb1.frozen (p := ⟨w.heap.size + 1 + 1, 0, none⟩) (by simp)).trans (a3_free2 _ _ _ _ _ _)
  have cR1 : w1.cell? ⟨w.heap.size + 1, 1, none⟩ = some (.slice none 0 0) := (hb1.cell (p := ⟨w.heap.size + 1, 1, none⟩) (by simp)).trans (a3_cell1 _ _ _ _ _ _)
  have fR1 : w1.frozen? ⟨w.heap.size + 1, 1, none⟩ = false := (hb1.frozen (p := ⟨w.heap.size + 1, 1, none⟩) (by simp)).trans (a3_free1 _ _ _ _ _ _)
  have cO1 : w1.cell? ⟨w.heap.size + 1 + 1, 1, none⟩ = some (.slice none 0 0) := (hb1.cell (p := ⟨w.heap.size + 1 + 1, 1, none⟩) (by simp)).trans (a3_cell2 _ _ _ _ _ _)
  have fO1 : w1.frozen? ⟨w.heap.size + 1 + 1, 1, none⟩ = false := (hb1.frozen (p := ⟨w.heap.size + 1 + 1, 1, none⟩) (by simp)).trans (a3_free2 _ _ _ _ _ _)
  have cR2 : w1.cell? ⟨w.heap.size + 1, 2, none⟩ = some (.int .i64 0) := (hb1.cell (p := ⟨w.heap.size + 1, 2, none⟩) (by simp)).trans (a3_cell1 _ _ _ _ _ _)
  have fR2 : w1.frozen? ⟨w.heap.size + 1, 2, none⟩ = false := (hb1.frozen (p := ⟨w.heap.size + 1, 2, none⟩) (by simp)).trans (a3_free1 _ _ _ _ _ _)
  have cO2 : w1.cell? ⟨w.heap.size + 1 + 1, 2, none⟩ = some (.int .i64 0) := (hb1.cell (p := ⟨w.heap.size + 1 + 1, 2, none⟩) (by simp)).trans (a3_cell2 _ _ _ _ _ _)
  have fO2 : w1.frozen? ⟨w.heap.size + 1 + 1, 2, none⟩ = false := (hb1.frozen (p := ⟨w.heap.size + 1 + 1, 2, none⟩) (by simp)).trans (a3_free2 _ _ _ _ _ _)
  have HO1 := Lib.hid ho1
  have HN1 : Hid (NewBs bs1 (w.heap.size + 3) w1.heap.size) := hn1.mono (by simp) (Nat.le_refl _)
  have hsz2 : w.heap.size + 3 ≤ w1.heap.size := by have := hb1.size; simpa using this
  have HB1 : Hid (Below w.heap.size w w1) := ((((Below.refl _ w).alloc (Nat.le_refl _) _).alloc (by simp) _).alloc (by simp; omega) _).trans (hb1.mono (by simp; omega))
  clear ho1 hn1 hb1
  go_wp2_with fail
  have hthr : ∀ j, j < 3 → ∃ v, w1.cell? ⟨w.heap.size + 1, 0 + j, none⟩ = some v := fun j hj => by
    match j, hj with
    | 0, _ => exact ⟨_, cR0⟩
    | 1, _ => exact ⟨_, cR1⟩
    | 2, _ => exact ⟨_, cR2⟩
  have hin := set3_in ((w1.setCell ⟨w.heap.size + 1 + 1, 1, none⟩ (.slice a1 x.scopes.length cap1)).setCell ⟨w.heap.size + 1 + 1, 2, none⟩ (.int .i64 x.id)) (w.heap.size + 1) 0 (.string x.name) (.slice a1 x.scopes.length cap1) (.int .i64 x.id)
    (fun j hj => by
      rw [World.cell?_setCell_other _ _ _ _ (by intro e; injection e with e1 _; omega), World.cell?_setCell_other _ _ _ _ (by intro e; injection e with e1 _; omega)]
      exact hthr j hj)
  obtain ⟨q0, q1, q2⟩ := hin
  unfold set3 at q0 q1 q2
  simp only [Nat.zero_add] at q0 q1 q2
  refine bodyPost_ret (v := .agg #[.string x.name, .slice a1 x.scopes.length cap1, .int .i64 x.id]) (by simp [results, Try.results68, go_sem, q0, q1, q2]) rfl ?_
  have hn1 := HN1.out
  have s1 : SameOn bs1 w1 (set3 ((w1.setCell ⟨w.heap.size + 1 + 1, 1, none⟩ (.slice a1 x.scopes.length cap1)).setCell ⟨w.heap.size + 1 + 1, 2, none⟩ (.int .i64 x.id)) (w.heap.size + 1) 0 (.string x.name) (.slice a1 x.scopes.length cap1) (.int .i64 x.id)) := fun b hb => by
    have := hn1.2 b hb
    rw [set3_block _ _ _ _ _ _ (show b ≠ w.heap.size + 1 from by omega), Below.heap_setCell _ _ _ _ (show b ≠ w.heap.size + 1 + 1 from by omega), Below.heap_setCell _ _ _ _ (show b ≠ w.heap.size + 1 + 1 from by omega)]
  have hz : (set3 ((w1.setCell ⟨w.heap.size + 1 + 1, 1, none⟩ (.slice a1 x.scopes.length cap1)).setCell ⟨w.heap.size + 1 + 1, 2, none⟩ (.int .i64 x.id)) (w.heap.size + 1) 0 (.string x.name) (.slice a1 x.scopes.length cap1) (.int .i64 x.id)).heap.size = w1.heap.size := by
    rw [set3_size]; simp [World.setCell]
  refine ⟨a1, cap1, bs1, rfl, HO1.out.later s1, ?_, HP1.out.same s1, ?_⟩
  · show NewBs _ _ (set3 ((w1.setCell ⟨w.heap.size + 1 + 1, 1, none⟩ (.slice a1 x.scopes.length cap1)).setCell ⟨w.heap.size + 1 + 1, 2, none⟩ (.int .i64 x.id)) (w.heap.size + 1) 0 (.string x.name) (.slice a1 x.scopes.length cap1) (.int .i64 x.id)).heap.size
    rw [hz]
    exact hn1.mono (by omega) (Nat.le_refl _)
  · exact set3_below ((HB1.out.setCell (p := ⟨w.heap.size + 1 + 1, 1, none⟩) (by simp; omega) _).setCell (p := ⟨w.heap.size + 1 + 1, 2, none⟩) (by simp; omega) _) (by omega) 0 _ _ _
/-- the block that a list is copied into: the first 'j' are done -/
structure FillB (w wr : World) (l : List Bd) (j : Nat) (bs : List Nat) : Prop where
  below : Below w.heap.size w wr
  size : w.heap.size < wr.heap.size
  row : BdRowOwn wr w.heap.size 0 (l.take j) bs
  news : NewBs bs (w.heap.size + 1) wr.heap.size
  there : ∀ i, i < l.length * 3 → ∃ v, wr.cell? ⟨w.heap.size, i, none⟩ = some v
  free : ∀ i, wr.frozen? ⟨w.heap.size, i, none⟩ = false
  plain : Plain wr w.heap.size
  plains : AllPlain wr bs
theorem FillB.step {w wr w3 : World} {l : List Bd} {j : Nat} {bs bs' : List Nat} {sa : Option Addr} {scap : Nat} (h : FillB w wr l j bs) (hj : j < l.length) (hb : Below wr.heap.size wr w3)
    (ho : IntOwn w3 (.slice sa l[j].scopes.length scap) l[j].scopes bs') (hn : NewBs bs' wr.heap.size w3.heap.size) (hp : AllPlain w3 bs') :
    FillB w (set3 w3 w.heap.size (j * 3) (.string l[j].name) (.slice sa l[j].scopes.length scap) (.int .i64 l[j].id)) l (j + 1) (bs ++ bs') := by
  have hsz := h.size
  have hsz3 := hb.size
  have hth : ∀ i, i < l.length * 3 → ∃ v, w3.cell? ⟨w.heap.size, i, none⟩ = some v := fun i hi => by
    obtain ⟨v, hv⟩ := h.there i hi
    exact ⟨v, cell_later' hb hv⟩
  have hin := set3_in w3 w.heap.size (j * 3) (.string l[j].name) (.slice sa l[j].scopes.length scap) (.int .i64 l[j].id) (fun i hi => hth (j * 3 + i) (by omega))
  have hfr : ∀ i, (set3 w3 w.heap.size (j * 3) (.string l[j].name) (.slice sa l[j].scopes.length scap) (.int .i64 l[j].id)).frozen? ⟨w.heap.size, i, none⟩ = false := fun i => by
    rw [set3_frozen, hb.frozen (p := ⟨w.heap.size, i, none⟩) hsz]; exact h.free i
  refine ⟨set3_below (h.below.trans (hb.mono (by omega))) (Nat.le_refl _) _ _ _ _, by rw [set3_size]; omega, ?_, ?_, fun i hi => ?_, hfr, (h.plain.later hb).set3 _ _ _ _ _, ((h.plains.later hb).append hp).same (fun x hx => ?_)⟩
  rotate_left 3
  · rcases List.mem_append.1 hx with hx | hx
    · have := h.news.2 x hx; exact set3_block _ _ _ _ _ _ (by omega)
    · have := hn.2 x hx; exact set3_block _ _ _ _ _ _ (by omega)
  · rw [List.take_succ_eq_append_getElem hj]
    have hl : (l.take j).length = j := by simp; omega
    have hrow : BdRowOwn (set3 w3 w.heap.size (j * 3) (.string l[j].name) (.slice sa l[j].scopes.length scap) (.int .i64 l[j].id)) w.heap.size 0 (l.take j) bs := by
      refine BdRowOwn.upto (w := wr) (fun x hx => ?_) (fun i _ hi => ?_) h.row
      · have := h.news.2 x hx
        rw [set3_block _ _ _ _ _ _ (by omega)]
        exact hb.block x (by omega)
      · rw [hl] at hi
        exact ⟨by rw [set3_out _ _ _ _ _ _ _ (by omega)]; exact hb.cell (p := ⟨w.heap.size, i, none⟩) hsz, by rw [set3_frozen]; exact hb.frozen (p := ⟨w.heap.size, i, none⟩) hsz⟩
    have e : 0 + (l.take j).length * 3 = j * 3 := by rw [hl]; omega
    refine BdRowOwn.snoc hrow ?_
    rw [e]
    refine ⟨sa, scap, hin.1, hin.2.1, hin.2.2, fun i _ => hfr _, ho.later (fun x hx => ?_)⟩
    have := hn.2 x hx
    exact set3_block _ _ _ _ _ _ (by omega)
  · rw [set3_size]
    exact h.news.append hn (by omega) (by omega)
  · by_cases hi2 : i < j * 3 ∨ j * 3 + 3 ≤ i
    · rw [set3_out _ _ _ _ _ _ _ hi2]; exact hth i hi
    · obtain ⟨k, rfl⟩ : ∃ k, i = j * 3 + k := ⟨i - j * 3, by omega⟩
      have hk : k < 3 := by omega
      match k, hk with
      | 0, _ => exact ⟨_, hin.1⟩
      | 1, _ => exact ⟨_, hin.2.1⟩
      | 2, _ => exact ⟨_, hin.2.2⟩
theorem szBds_mem {l : List Bd} {j : Nat} (h : j < l.length) : l[j].scopes.length ≤ szBds l := by
  have h1 := szBds_take_succ l j h
  have h2 := szBds_take_le l (j + 1)
  have h3 : l[j].scopes.length ≤ l[j].sz := by unfold Bd.sz; omega
  omega
/-- bindings, copied into blocks of their own -/
def ToBPost (l : List Bd) (w : World) (e : Ending) (w' : World) : Prop :=
  ∃ a cap bs, e = .returned (.slice a l.length cap) ∧ BdsOwn w' l (.slice a l.length cap) bs ∧ NewBs bs w.heap.size w'.heap.size ∧ AllPlain w' bs ∧ Below w.heap.size w w'
set_option maxRecDepth 100000 in
set_option maxHeartbeats 400000 in
theorem toBindS_any (B : Nat) (l : List Bd) (v : Value) (w : World) (hB : B ≤ w.heap.size) (hv : BdRow (· < B) w v l) (hsz : l.length + szBds l ≤ 1048576) :
    Calls Try.prog 32 #[v] w (ToBPost l w) := by
  obtain ⟨a, cap, rfl, hcap, hmax, hwf, hrow⟩ := hv
  unfold maxLen at hmax
  have hlen : l.length ≤ 1048576 := by omega
  have HROW := Lib.hid hrow
  have HWF := Lib.hid hwf
  have hmk := fun w => make_binds l.length hlen w
  have HF0 : Hid (FillB w (w.alloc (.cells (madeCells zeroBd (l.length * 3)) 83)) l 0 []) :=
    ⟨(Below.refl _ _).alloc (Nat.le_refl _) _, by simp, rfl, NewBs.nil _ _, fun i hi => made_cell w _ _ _ i hi, fun i => made_free w _ _ _ i, Plain.fresh _ _ _, AllPlain.nil _⟩
  clear hrow hwf
  go_enter Try.func32, Try.ntmps32
  go_wp2_with fail
  go_loopw [4] (fun i wr => ∃ (j : Nat) (bs : List Nat), j ≤ l.length ∧ i = .int .i64 j ∧ FillB w wr l j bs) (fun i _ => l.length - (intOf i).toNat)
  case atStart => exact ⟨0, [], Nat.zero_le _, rfl, HF0.out⟩
  case round =>
    obtain ⟨j, bs, hj, rfl, hfill⟩ := hrel
    have HF := Lib.hid hfill
    clear hfill
    by_cases hlt : j < l.length
    · rcases HROW.out with h0 | ⟨kb, off, rfl, hkb, hcells⟩
      · exfalso; rw [h0] at hlt; simp at hlt
      · obtain ⟨sa, scap, c0, c1, c2, hr⟩ := (hcells j hlt).later hkb (same_below (HF.out.below.mono hB))
        have HR := Lib.hid hr
        have hs1 := HF.out.size
        have hszj := szBds_mem hlt
        clear hcells hr
        go_wp2_with fail
        refine (toBind_any B l[j] sa scap _ (by omega) HR.out (by omega)).mono ?_
        rintro e w3 ⟨sb, sbcap, bs', rfl, hown, hnew, hpl, hb3⟩
        have HPL := Lib.hid hpl
        have hth : ∀ i, i < 3 → ∃ v, w3.cell? ⟨w.heap.size, j * 3 + i, none⟩ = some v := fun i hi => by
          obtain ⟨v, hv⟩ := HF.out.there (j * 3 + i) (by omega)
          exact ⟨v, cell_later' hb3 hv⟩
        have hfr : ∀ i, w3.frozen? ⟨w.heap.size, i, none⟩ = false := fun i => by
          rw [hb3.frozen (p := ⟨w.heap.size, i, none⟩) hs1]; exact HF.out.free i
        obtain ⟨v0, g0⟩ := hth 0 (by omega)
        obtain ⟨v1, g1⟩ := hth 1 (by omega)
        obtain ⟨v2, g2⟩ := hth 2 (by omega)
        rw [Nat.add_zero] at g0
        have f0 := hfr (j * 3)
        have f1 := hfr (j * 3 + 1)
        have f2 := hfr (j * 3 + 2)
        have HO := Lib.hid hown
        have HN := Lib.hid hnew
        have HB3 := Lib.hid hb3
        clear hown hnew hpl hb3 hth hfr c0 c1 c2
        go_wp2_with fail
        go_roundw
        case rel => exact ⟨j + 1, bs ++ bs', by omega, by go_num, HF.out.step hlt HB3.out HO.out HN.out HPL.out⟩
        case measure => simp [intOf]; omega
    · obtain rfl : j = l.length := by omega
      go_wp2_with fail
      go_ret
      by_cases h0 : l = []
      · exact ⟨_, _, [], rfl, ⟨_, _, rfl, Nat.le_refl _, by unfold maxLen; omega, HWF.out, .inl ⟨h0, rfl⟩⟩, NewBs.nil _ _, AllPlain.nil _, HF.out.below⟩
      · refine ⟨_, _, w.heap.size :: bs, rfl, ⟨_, _, rfl, Nat.le_refl _, by unfold maxLen; omega, HWF.out, .inr ⟨_, 0, bs, rfl, rfl, ?_⟩⟩, HF.out.news.cons (Nat.le_refl _) HF.out.size, HF.out.plains.cons HF.out.plain, HF.out.below⟩
        have := HF.out.row
        rw [List.take_length] at this
        exact this
end Go.Proofs.Ytbmpgfojhoganaa
