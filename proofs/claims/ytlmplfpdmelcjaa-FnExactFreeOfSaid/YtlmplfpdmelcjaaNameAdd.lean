/- The contract of the list of names that the program fills. -/
import Derived.Test.YtlmplfpdmelcjaaVisits
import Derived.Test.YtlmplfpdmelcjaaStrs
import Derived.Test.YtlmplfpdmelcjaaSlim
namespace Go.Proofs.Ytlmplfpdmelcjaa
open Go.RowKit
set_option linter.unusedVariables false
set_option linter.unusedSimpArgs false
theorem MapS.same {w w' : World} {mb : Nat} {m : List ByteArray} (h : MapS w mb m) (hs : w'.heap[mb]? = w.heap[mb]?) : MapS w' mb m := by
  obtain ⟨es, c, h1, h2⟩ := h
  exact ⟨es, c, hs.trans h1, h2⟩
theorem make_strs (w : World) : (Instr.makeMap 141 none).run Try.prog w = .ok (.map (some w.heap.size)) (w.alloc (.map #[] 0)) := by
  simp [Instr.makeMap, Result.andThen]
theorem lookup_strNil (w : World) (s : ByteArray) (hs : s.size ≤ maxLen) : (Instr.lookup 141 (.map none) (.string s) false).run Try.prog w = .ok (.bool false) w := by
  have hz : (zeroValue 4).run Try.prog w = .ok (.bool false) w := by kernel_rfl
  have K : Go.Maps.Keyed Try.prog 9 := Go.Maps.string_keyed Try.underlying9
  have hk := keyStr s hs
  have hck : ∀ em, (Instr.checkKey em 10000 9 (.string s)).run Try.prog w = .ok () w := fun em => K.check w em hk
  rcases K.find w hk [] (fun e h => by cases h) with ⟨hf, _⟩ | ⟨j, e, hf, hj, _⟩
  · simp [Instr.lookup, run_underlying Try.underlying141, hck, hf, hz, Result.andThen]
  · simp at hj
theorem map_isNil (w : World) : (binOp BinOp.eql 141 (Value.map none) (Value.map none)).run Try.prog w = .ok (.bool true) w := by kernel_rfl
theorem map_notNil (mb : Nat) (w : World) : (binOp BinOp.eql 141 (Value.map (some mb)) (Value.map none)).run Try.prog w = .ok (.bool false) w := by kernel_rfl
/-- a list of names in its box: the names seen, in a row, and in a map if there are some -/
def NL (base nb : Nat) (L : List ByteArray) (E : Nat → Prop) (W : World) : Prop :=
  ∃ (pa : Option Addr) (ca : Nat) (mo : Option Nat), (∀ s ∈ L, s.size ≤ maxLen) ∧ W.cell? ⟨nb, 0, none⟩ = some (.slice pa L.length ca) ∧ W.cell? ⟨nb, 1, none⟩ = some (.map mo) ∧ W.frozen? ⟨nb, 0, none⟩ = false ∧ W.frozen? ⟨nb, 1, none⟩ = false ∧
    ((mo = none ∧ L = []) ∨ ∃ mb, mo = some mb ∧ MapS W mb L) ∧ W.ownsRow base 9 1 (.slice pa L.length ca) L.length (L.map Value.string) ∧
    (∀ mb, mo = some mb → mb ≠ nb) ∧ (∀ g, (Value.slice pa L.length ca).ownBlock = some g → g ≠ nb ∧ mo ≠ some g) ∧ ∀ k, E k ↔ (k = nb ∨ mo = some k ∨ (Value.slice pa L.length ca).ownBlock = some k)
theorem NL.still {base nb : Nat} {L : List ByteArray} {E : Nat → Prop} {W W' : World} (h : NL base nb L E W) (hs : ∀ k, E k → W'.heap[k]? = W.heap[k]?) : NL base nb L E W' := by
  obtain ⟨pa, ca, mo, h1, h2, h3, h4, h5, h6, h7, h8, h9, h10⟩ := h
  have hn := hs nb ((h10 nb).2 (.inl rfl))
  refine ⟨pa, ca, mo, h1, (World.cell?_of_block (a := ⟨nb, 0, none⟩) hn).trans h2, (World.cell?_of_block (a := ⟨nb, 1, none⟩) hn).trans h3, (World.frozen?_of_block (a := ⟨nb, 0, none⟩) hn).trans h4, (World.frozen?_of_block (a := ⟨nb, 1, none⟩) hn).trans h5, ?_,
    ownsRow_same' h7 (fun g hg => hs g ((h10 g).2 (.inr (.inr hg)))), h8, h9, h10⟩
  rcases h6 with h6 | ⟨mb, e, h6⟩
  · exact .inl h6
  · exact .inr ⟨mb, e, h6.same (hs mb ((h10 mb).2 (.inr (.inl e))))⟩
/-- the names, with one more -/
def addS (L : List ByteArray) (s : ByteArray) : List ByteArray := if inB L s = true then L else L ++ [s]
set_option maxRecDepth 100000 in
set_option maxHeartbeats 2000000 in
theorem add_any (base nb : Nat) (L : List ByteArray) (E : Nat → Prop) (s : ByteArray) (W : World) (h : NL base nb L E W) (hE : ∀ k, E k → base ≤ k ∧ k < W.heap.size) (hbW : base ≤ W.heap.size) (hll : L.length ≤ 1048577) (hs : s.size ≤ maxLen) :
    Calls Try.prog 119 #[.pointer (some ⟨nb, 0, none⟩), .string s] W fun e W' => e = .returned (.tuple #[]) ∧
      ∃ E', NL base nb (addS L s) E' W' ∧ OnlyE E W W' ∧ (∀ k, E' k → (E k ∨ W.heap.size ≤ k) ∧ k < W'.heap.size) := by
  have HNL := Lib.hid h
  obtain ⟨pa, ca, mo, hm, c0, c1, f0, f1, h6, how, h8, h9, h10⟩ := h
  obtain ⟨i0, hi0, hz0, hz1, hz2⟩ := info_parts Try.infoStr
  have HE := Lib.hid hE
  have HM := Lib.hid hm
  have H8 := Lib.hid h8
  have H9 := Lib.hid h9
  have H10 := Lib.hid h10
  have HOW := Lib.hid how
  have hnb : nb < W.heap.size := cell_lt c0
  have hbn : base ≤ nb := (hE nb ((h10 nb).2 (.inl rfl))).1
  clear hE hm h8 h9 h10 how
  go_enter Try.func119, Try.ntmps119
  rcases h6 with ⟨rfl, rfl⟩ | ⟨mb, rfl, hms⟩
  · have hlk := lookup_strNil W s hs
    have hmk := make_strs W
    have hnil := map_isNil W
    have HA : Hid (addS [] s = [s]) := rfl
    have hsc : (W.setCell ⟨nb, 1, none⟩ (.map (some W.heap.size))).heap.size = W.heap.size := by simp [World.setCell]
    have hbA := below_alloc (W.setCell ⟨nb, 1, none⟩ (.map (some W.heap.size))) (.map #[] 0)
    have hmsA : MapS ((W.setCell ⟨nb, 1, none⟩ (.map (some W.heap.size))).alloc (.map #[] 0)) W.heap.size [] := by
      refine ⟨#[], 0, ?_, rfl⟩
      have := heap_alloc_new (W.setCell ⟨nb, 1, none⟩ (.map (some W.heap.size))) (.map #[] 0)
      rw [hsc] at this
      exact this
    have cA0 : ((W.setCell ⟨nb, 1, none⟩ (.map (some W.heap.size))).alloc (.map #[] 0)).cell? ⟨nb, 0, none⟩ = some (.slice pa ([] : List ByteArray).length ca) := cell_later' hbA (by rw [World.cell?_setCell_other _ _ _ _ (addr_ne (by omega))]; exact c0)
    have cA1 : ((W.setCell ⟨nb, 1, none⟩ (.map (some W.heap.size))).alloc (.map #[] 0)).cell? ⟨nb, 1, none⟩ = some (.map (some W.heap.size)) := cell_later' hbA (World.cell?_setCell_same _ _ _ c1)
    have fA0 : ((W.setCell ⟨nb, 1, none⟩ (.map (some W.heap.size))).alloc (.map #[] 0)).frozen? ⟨nb, 0, none⟩ = false := by rw [hbA.frozen (p := ⟨nb, 0, none⟩) (by rw [hsc]; exact hnb), World.frozen?_setCell]; exact f0
    have fA1 : ((W.setCell ⟨nb, 1, none⟩ (.map (some W.heap.size))).alloc (.map #[] 0)).frozen? ⟨nb, 1, none⟩ = false := by rw [hbA.frozen (p := ⟨nb, 1, none⟩) (by rw [hsc]; exact hnb), World.frozen?_setCell]; exact f1
    have hsz : ((W.setCell ⟨nb, 1, none⟩ (.map (some W.heap.size))).alloc (.map #[] 0)).heap.size = W.heap.size + 1 := by rw [size_alloc', hsc]
    have hbk : ∀ k, k ≠ nb → k < W.heap.size → ((W.setCell ⟨nb, 1, none⟩ (.map (some W.heap.size))).alloc (.map #[] 0)).heap[k]? = W.heap[k]? := fun k h1 h2 => by
      rw [hbA.block k (by rw [hsc]; exact h2), Below.heap_setCell _ _ _ _ h1]
    have hwm : ((W.setCell ⟨nb, 1, none⟩ (.map (some W.heap.size))).alloc (.map #[] 0)).os = W.os ∧ ((W.setCell ⟨nb, 1, none⟩ (.map (some W.heap.size))).alloc (.map #[] 0)).tape = W.tape ∧ ((W.setCell ⟨nb, 1, none⟩ (.map (some W.heap.size))).alloc (.map #[] 0)).output = W.output := ⟨rfl, rfl, rfl⟩
    have howA : ((W.setCell ⟨nb, 1, none⟩ (.map (some W.heap.size))).alloc (.map #[] 0)).ownsRow base 9 1 (.slice pa ([] : List ByteArray).length ca) ([] : List ByteArray).length (([] : List ByteArray).map Value.string) :=
      ownsRow_same' HOW.out (fun g hg => hbk g ((H9.out g hg).1) (HE.out g ((H10.out g).2 (.inr (.inr hg)))).2)
    have hme : ∀ k, (some W.heap.size : Option Nat) = some k → E k ∨ W.heap.size ≤ k := fun k h => by injection h with h; exact .inr (by omega)
    have hmg : ∀ g, (Value.slice pa ([] : List ByteArray).length ca).ownBlock = some g → g ≠ W.heap.size := fun g hg => by have := (HE.out g ((H10.out g).2 (.inr (.inr hg)))).2; omega
    have hE1 : ∀ k, ¬ E k → k < W.heap.size → k ≠ nb ∧ k ≠ W.heap.size ∧ some k ≠ (Value.slice pa ([] : List ByteArray).length ca).ownBlock := fun k h1 h2 =>
      ⟨fun e => h1 ((H10.out k).2 (.inl e)), by omega, fun e => h1 ((H10.out k).2 (.inr (.inr e.symm)))⟩
    have hmn : W.heap.size ≠ nb := by omega
    have hno : inB ([] : List ByteArray) s = false := rfl
    obtain ⟨W2, hup, hms2, hsz2, hbl2, hos2, htp2, hou2⟩ := update_str ((W.setCell ⟨nb, 1, none⟩ (.map (some W.heap.size))).alloc (.map #[] 0)) W.heap.size ([] : List ByteArray) s hmsA HM.out hs hno
    have hs2 : W.heap.size ≤ W2.heap.size ∧ W.heap.size < W2.heap.size := by omega
    have hcab : W2.cell? ⟨nb, 0, none⟩ = some (.slice pa ([] : List ByteArray).length ca) := (World.cell?_of_block (a := ⟨nb, 0, none⟩) (hbl2 nb (Ne.symm hmn))).trans cA0
    have hcm : W2.cell? ⟨nb, 1, none⟩ = some (.map (some W.heap.size)) := (World.cell?_of_block (a := ⟨nb, 1, none⟩) (hbl2 nb (Ne.symm hmn))).trans cA1
    have hfab : W2.frozen? ⟨nb, 0, none⟩ = false := (World.frozen?_of_block (a := ⟨nb, 0, none⟩) (hbl2 nb (Ne.symm hmn))).trans fA0
    have hfm : W2.frozen? ⟨nb, 1, none⟩ = false := (World.frozen?_of_block (a := ⟨nb, 1, none⟩) (hbl2 nb (Ne.symm hmn))).trans fA1
    have how2 : W2.ownsRow base 9 1 (.slice pa ([] : List ByteArray).length ca) ([] : List ByteArray).length (([] : List ByteArray).map Value.string) := ownsRow_same' howA (fun g hg => hbl2 g (hmg g hg))
    have hne : some nb ≠ (Value.slice pa ([] : List ByteArray).length ca).ownBlock := fun h => (H9.out nb h.symm).1 rfl
    have hnem : some W.heap.size ≠ (Value.slice pa ([] : List ByteArray).length ca).ownBlock := fun h => hmg W.heap.size h.symm rfl
    have hL1 : ([] : List ByteArray).length + 1 ≤ maxLen := by unfold maxLen; simp only [List.length_nil] at hll ⊢; omega
    have hL2 : (([] : List ByteArray).length + 1) * 16 ≤ 140737488355328 := by simp only [List.length_nil] at hll ⊢; omega
    have HOW2 := Lib.hid how2
    have HMS2 := Lib.hid hms2
    have HBW : Hid (∀ k, k ≠ nb → k ≠ W.heap.size → k < W.heap.size → W2.heap[k]? = W.heap[k]?) := fun k h1 h2 h3 => (hbl2 k h2).trans (hbk k h1 h3)
    have HW2 : Hid (W2.os = W.os ∧ W2.tape = W.tape ∧ W2.output = W.output) := ⟨hos2.trans hwm.1, htp2.trans hwm.2.1, hou2.trans hwm.2.2⟩
    have HCM := Lib.hid hcm
    have HFM := Lib.hid hfm
    have HFAB := Lib.hid hfab
    have HME := Lib.hid hme
    have HMG := Lib.hid hmg
    have HE1 := Lib.hid hE1
    clear hms2 hsz2 hbl2 hos2 htp2 hou2 how2 hcm hfm hwm hbk hme hmg hE1 hsc cA0 cA1 fA0 fA1 hmsA howA hno hsz hbA
    go_wp2_with (at_builtin; refine wpList_append_lies _ rfl _ _ 85 rfl base 9 i0 _ 1 16 Try.underlying85 hi0 hz0 hz1 hz2 rfl (by decide) _ ([] : List ByteArray).length (([] : List ByteArray).map Value.string) rfl (HOW2.out.alloc _) ⟨W2.heap.size, 0, none⟩ 1 1 [.string s] rfl rfl (World.news_of_block (cs := #[.string s]) (t := 9) (fr := (0, 0)) (heap_alloc_new W2 _)) (by simp [Value.oneCell']) (by omega) hL1 hL2 (by simp; omega) (W2.heap.size + 1) (by simp) ?_; intro gq qd w3 hown3 hgrow hat hlt4; have c3 := hgrow.cell (cell_later' (below_alloc W2 (.cells #[.string s] 9)) hcab) hne; have f3 := (World.frozen?_of_block (a := ⟨nb, 0, none⟩) (hgrow.block nb (by simp; omega) hne)).trans (((below_alloc W2 (.cells #[.string s] 9)).frozen (p := ⟨nb, 0, none⟩) (show nb < W2.heap.size by omega)).trans hfab); have HOWN3 := Lib.hid hown3; have HGROW := Lib.hid hgrow; have HAT := Lib.hid hat; clear hown3 hgrow hat)
    have hown : Hid ((Value.slice pa ([] : List ByteArray).length ca).ownBlock = some gq ∨ gq = W2.heap.size + 1) := HAT.out
    have hz : (w3.setCell ⟨nb, 0, none⟩ (.slice (some ⟨gq, 0, none⟩) (([] : List ByteArray).length + 1) qd)).heap.size = w3.heap.size := by simp [World.setCell]
    have hblk : ∀ k, k < W2.heap.size → some k ≠ (Value.slice pa ([] : List ByteArray).length ca).ownBlock → w3.heap[k]? = W2.heap[k]? := fun k h1 h2 => (HGROW.out.block k (by simp; omega) h2).trans ((below_alloc W2 _).block k (by omega))
    have hset : ∀ k, k ≠ nb → (w3.setCell ⟨nb, 0, none⟩ (.slice (some ⟨gq, 0, none⟩) (([] : List ByteArray).length + 1) qd)).heap[k]? = w3.heap[k]? := fun k h => Below.heap_setCell _ _ _ _ h
    have hgq : gq ≠ nb ∧ gq ≠ W.heap.size := hown.out.elim (fun h => ⟨(H9.out gq h).1, HMG.out gq h⟩) (fun h => ⟨by omega, by omega⟩)
    have hw3 : W2.heap.size + 1 ≤ w3.heap.size := by have := HGROW.out.size; simp at this; omega
    have hown1 : W.heap.size ≤ W2.heap.size := hs2.1
    have HZ := Lib.hid hz
    clear hz
    go_end0
    refine ⟨rfl, fun k => k = nb ∨ k = W.heap.size ∨ k = gq, ?_, ⟨HGROW.out.os.trans HW2.out.1, HGROW.out.tape.trans HW2.out.2.1, HGROW.out.output.trans HW2.out.2.2, ?_, ?_⟩, ?_⟩
    · rw [HA.out]
      refine ⟨some ⟨gq, 0, none⟩, qd, some W.heap.size, ?_, ?_, ?_, ?_, ?_, .inr ⟨W.heap.size, rfl, ?_⟩, ?_, ?_, ?_, ?_⟩
      · intro x hx
        first
          | (rw [List.mem_singleton] at hx; rw [hx]; exact hs)
          | (rcases List.mem_append.1 hx with h | h
             · exact HM.out x h
             · rw [List.mem_singleton] at h; rw [h]; exact hs)
      · have := World.cell?_setCell_same w3 ⟨nb, 0, none⟩ (.slice (some ⟨gq, 0, none⟩) (([] : List ByteArray).length + 1) qd) c3
        simpa using this
      · rw [World.cell?_setCell_other _ _ _ _ (addr_ne (by omega))]
        exact (World.cell?_of_block (a := ⟨nb, 1, none⟩) (hblk nb (by omega) hne)).trans HCM.out
      · rw [World.frozen?_setCell]; exact f3
      · rw [World.frozen?_setCell]
        exact (World.frozen?_of_block (a := ⟨nb, 1, none⟩) (hblk nb (by omega) hne)).trans HFM.out
      · have := HMS2.out.same ((hset W.heap.size hmn).trans (hblk W.heap.size hs2.2 hnem))
        simpa using this
      · have := ownsRow_setFar HOWN3.out hgq.1 (o := 0) (u := .slice (some ⟨gq, 0, none⟩) (([] : List ByteArray).length + 1) qd)
        simpa using this
      · intro m hm
        injection hm with hm
        rw [← hm]; exact hmn
      · intro g hg
        have h2 : some gq = some g := hg
        injection h2 with h2
        rw [← h2]
        exact ⟨hgq.1, fun e => by injection e with e; exact hgq.2 e.symm⟩
      · intro k
        constructor
        · rintro (h | h | h)
          · exact .inl h
          · exact .inr (.inl (by rw [h]))
          · exact .inr (.inr (by rw [h]; rfl))
        · rintro (h | h | h)
          · exact .inl h
          · injection h with h; exact .inr (.inl h.symm)
          · have h2 : some gq = some k := h
            injection h2 with h2
            exact .inr (.inr h2.symm)
    · exact Nat.le_trans (show W.heap.size ≤ w3.heap.size by omega) (Nat.le_of_eq HZ.out.symm)
    · intro k hk hn
      obtain ⟨q1, q2, q3⟩ := HE1.out k hn hk
      exact ((hset k q1).trans (hblk k (by omega) q3)).trans (HBW.out k q1 q2 hk)
    · intro k hk
      refine (fun h => ⟨h.1, Nat.lt_of_lt_of_eq h.2 HZ.out.symm⟩ : ((E k ∨ W.heap.size ≤ k) ∧ k < w3.heap.size) → _) ?_
      rcases hk with h | h | h
      · exact ⟨.inl ((H10.out k).2 (.inl h)), by omega⟩
      · exact ⟨HME.out k (by rw [h]), by omega⟩
      · have hgl : gq < w3.heap.size := (HOWN3.out.lt gq rfl).2
        refine ⟨?_, by omega⟩
        rcases hown.out with h2 | h2
        · exact .inl ((H10.out k).2 (.inr (.inr (by rw [h]; exact h2))))
        · exact .inr (by omega)
  · cases hin : inB L s with
    | true =>
      have hlk := lookup_str W mb L s hms HM.out hs
      rw [hin] at hlk
      have HA : Hid (addS L s = L) := by unfold Hid addS; rw [hin]; rfl
      go_wp2_with fail
      exact bodyPost_ret (v := .tuple #[]) (results_none rfl _ _ _) rfl ⟨rfl, E, by rw [HA.out]; exact HNL.out, ⟨rfl, rfl, rfl, Nat.le_refl _, fun _ _ _ => rfl⟩, fun k hk => ⟨.inl hk, (HE.out k hk).2⟩⟩
    | false =>
      have hlk := lookup_str W mb L s hms HM.out hs
      rw [hin] at hlk
      have hnil := map_notNil mb W
      have HA : Hid (addS L s = L ++ [s]) := by unfold Hid addS; rw [hin]; rfl
      have hmn : mb ≠ nb := H8.out mb rfl
      have hwm : W.os = W.os ∧ W.tape = W.tape ∧ W.output = W.output := ⟨rfl, rfl, rfl⟩
      have hmbl : mb < W.heap.size := (HE.out mb ((H10.out mb).2 (.inr (.inl rfl)))).2
      have hsz : W.heap.size ≤ W.heap.size ∧ mb < W.heap.size := ⟨Nat.le_refl _, hmbl⟩
      have hbk : ∀ k, k ≠ nb → k < W.heap.size → W.heap[k]? = W.heap[k]? := fun _ _ _ => rfl
      have hme : ∀ k, (some mb : Option Nat) = some k → E k ∨ W.heap.size ≤ k := fun k h => .inl ((H10.out k).2 (.inr (.inl h)))
      have hmg : ∀ g, (Value.slice pa L.length ca).ownBlock = some g → g ≠ mb := fun g hg e => (H9.out g hg).2 (by rw [e])
      have hE1 : ∀ k, ¬ E k → k < W.heap.size → k ≠ nb ∧ k ≠ mb ∧ some k ≠ (Value.slice pa L.length ca).ownBlock := fun k h1 h2 =>
        ⟨fun e => h1 ((H10.out k).2 (.inl e)), fun e => h1 ((H10.out k).2 (.inr (.inl (by rw [e])))), fun e => h1 ((H10.out k).2 (.inr (.inr e.symm)))⟩
      obtain ⟨W2, hup, hms2, hsz2, hbl2, hos2, htp2, hou2⟩ := update_str W mb L s hms HM.out hs hin
      have hs2 : W.heap.size ≤ W2.heap.size ∧ mb < W2.heap.size := by omega
      have hcab : W2.cell? ⟨nb, 0, none⟩ = some (.slice pa L.length ca) := (World.cell?_of_block (a := ⟨nb, 0, none⟩) (hbl2 nb (Ne.symm hmn))).trans c0
      have hcm : W2.cell? ⟨nb, 1, none⟩ = some (.map (some mb)) := (World.cell?_of_block (a := ⟨nb, 1, none⟩) (hbl2 nb (Ne.symm hmn))).trans c1
      have hfab : W2.frozen? ⟨nb, 0, none⟩ = false := (World.frozen?_of_block (a := ⟨nb, 0, none⟩) (hbl2 nb (Ne.symm hmn))).trans f0
      have hfm : W2.frozen? ⟨nb, 1, none⟩ = false := (World.frozen?_of_block (a := ⟨nb, 1, none⟩) (hbl2 nb (Ne.symm hmn))).trans f1
      have how2 : W2.ownsRow base 9 1 (.slice pa L.length ca) L.length (L.map Value.string) := ownsRow_same' HOW.out (fun g hg => hbl2 g (hmg g hg))
      have hne : some nb ≠ (Value.slice pa L.length ca).ownBlock := fun h => (H9.out nb h.symm).1 rfl
      have hnem : some mb ≠ (Value.slice pa L.length ca).ownBlock := fun h => hmg mb h.symm rfl
      have hL1 : L.length + 1 ≤ maxLen := by unfold maxLen; omega
      have hL2 : (L.length + 1) * 16 ≤ 140737488355328 := by omega
      have HOW2 := Lib.hid how2
      have HMS2 := Lib.hid hms2
      have HBW : Hid (∀ k, k ≠ nb → k ≠ mb → k < W.heap.size → W2.heap[k]? = W.heap[k]?) := fun k h1 h2 h3 => (hbl2 k h2).trans (hbk k h1 h3)
      have HW2 : Hid (W2.os = W.os ∧ W2.tape = W.tape ∧ W2.output = W.output) := ⟨hos2.trans hwm.1, htp2.trans hwm.2.1, hou2.trans hwm.2.2⟩
      have HCM := Lib.hid hcm
      have HFM := Lib.hid hfm
      have HFAB := Lib.hid hfab
      have HME := Lib.hid hme
      have HMG := Lib.hid hmg
      have HE1 := Lib.hid hE1
      clear hms2 hsz2 hbl2 hos2 htp2 hou2 how2 hcm hfm hwm hbk hme hmg hE1 hms hsz
      go_wp2_with (at_builtin; refine wpList_append_lies _ rfl _ _ 85 rfl base 9 i0 _ 1 16 Try.underlying85 hi0 hz0 hz1 hz2 rfl (by decide) _ L.length (L.map Value.string) rfl (HOW2.out.alloc _) ⟨W2.heap.size, 0, none⟩ 1 1 [.string s] rfl rfl (World.news_of_block (cs := #[.string s]) (t := 9) (fr := (0, 0)) (heap_alloc_new W2 _)) (by simp [Value.oneCell']) (by omega) hL1 hL2 (by simp; omega) (W2.heap.size + 1) (by simp) ?_; intro gq qd w3 hown3 hgrow hat hlt4; have c3 := hgrow.cell (cell_later' (below_alloc W2 (.cells #[.string s] 9)) hcab) hne; have f3 := (World.frozen?_of_block (a := ⟨nb, 0, none⟩) (hgrow.block nb (by simp; omega) hne)).trans (((below_alloc W2 (.cells #[.string s] 9)).frozen (p := ⟨nb, 0, none⟩) (show nb < W2.heap.size by omega)).trans hfab); have HOWN3 := Lib.hid hown3; have HGROW := Lib.hid hgrow; have HAT := Lib.hid hat; clear hown3 hgrow hat)
      have hown : Hid ((Value.slice pa L.length ca).ownBlock = some gq ∨ gq = W2.heap.size + 1) := HAT.out
      have hz : (w3.setCell ⟨nb, 0, none⟩ (.slice (some ⟨gq, 0, none⟩) (L.length + 1) qd)).heap.size = w3.heap.size := by simp [World.setCell]
      have hblk : ∀ k, k < W2.heap.size → some k ≠ (Value.slice pa L.length ca).ownBlock → w3.heap[k]? = W2.heap[k]? := fun k h1 h2 => (HGROW.out.block k (by simp; omega) h2).trans ((below_alloc W2 _).block k (by omega))
      have hset : ∀ k, k ≠ nb → (w3.setCell ⟨nb, 0, none⟩ (.slice (some ⟨gq, 0, none⟩) (L.length + 1) qd)).heap[k]? = w3.heap[k]? := fun k h => Below.heap_setCell _ _ _ _ h
      have hgq : gq ≠ nb ∧ gq ≠ mb := hown.out.elim (fun h => ⟨(H9.out gq h).1, HMG.out gq h⟩) (fun h => ⟨by omega, by omega⟩)
      have hw3 : W2.heap.size + 1 ≤ w3.heap.size := by have := HGROW.out.size; simp at this; omega
      have hown1 : W.heap.size ≤ W2.heap.size := hs2.1
      have HZ := Lib.hid hz
      clear hz
      go_end0
      refine ⟨rfl, fun k => k = nb ∨ k = mb ∨ k = gq, ?_, ⟨HGROW.out.os.trans HW2.out.1, HGROW.out.tape.trans HW2.out.2.1, HGROW.out.output.trans HW2.out.2.2, ?_, ?_⟩, ?_⟩
      · rw [HA.out]
        refine ⟨some ⟨gq, 0, none⟩, qd, some mb, ?_, ?_, ?_, ?_, ?_, .inr ⟨mb, rfl, ?_⟩, ?_, ?_, ?_, ?_⟩
        · intro x hx
          first
            | (rw [List.mem_singleton] at hx; rw [hx]; exact hs)
            | (rcases List.mem_append.1 hx with h | h
               · exact HM.out x h
               · rw [List.mem_singleton] at h; rw [h]; exact hs)
        · have := World.cell?_setCell_same w3 ⟨nb, 0, none⟩ (.slice (some ⟨gq, 0, none⟩) (L.length + 1) qd) c3
          simpa using this
        · rw [World.cell?_setCell_other _ _ _ _ (addr_ne (by omega))]
          exact (World.cell?_of_block (a := ⟨nb, 1, none⟩) (hblk nb (by omega) hne)).trans HCM.out
        · rw [World.frozen?_setCell]; exact f3
        · rw [World.frozen?_setCell]
          exact (World.frozen?_of_block (a := ⟨nb, 1, none⟩) (hblk nb (by omega) hne)).trans HFM.out
        · have := HMS2.out.same ((hset mb hmn).trans (hblk mb hs2.2 hnem))
          simpa using this
        · have := ownsRow_setFar HOWN3.out hgq.1 (o := 0) (u := .slice (some ⟨gq, 0, none⟩) (L.length + 1) qd)
          simpa using this
        · intro m hm
          injection hm with hm
          rw [← hm]; exact hmn
        · intro g hg
          have h2 : some gq = some g := hg
          injection h2 with h2
          rw [← h2]
          exact ⟨hgq.1, fun e => by injection e with e; exact hgq.2 e.symm⟩
        · intro k
          constructor
          · rintro (h | h | h)
            · exact .inl h
            · exact .inr (.inl (by rw [h]))
            · exact .inr (.inr (by rw [h]; rfl))
          · rintro (h | h | h)
            · exact .inl h
            · injection h with h; exact .inr (.inl h.symm)
            · have h2 : some gq = some k := h
              injection h2 with h2
              exact .inr (.inr h2.symm)
      · exact Nat.le_trans (show W.heap.size ≤ w3.heap.size by omega) (Nat.le_of_eq HZ.out.symm)
      · intro k hk hn
        obtain ⟨q1, q2, q3⟩ := HE1.out k hn hk
        exact ((hset k q1).trans (hblk k (by omega) q3)).trans (HBW.out k q1 q2 hk)
      · intro k hk
        refine (fun h => ⟨h.1, Nat.lt_of_lt_of_eq h.2 HZ.out.symm⟩ : ((E k ∨ W.heap.size ≤ k) ∧ k < w3.heap.size) → _) ?_
        rcases hk with h | h | h
        · exact ⟨.inl ((H10.out k).2 (.inl h)), by omega⟩
        · exact ⟨HME.out k (by rw [h]), by omega⟩
        · have hgl : gq < w3.heap.size := (HOWN3.out.lt gq rfl).2
          refine ⟨?_, by omega⟩
          rcases hown.out with h2 | h2
          · exact .inl ((H10.out k).2 (.inr (.inr (by rw [h]; exact h2))))
          · exact .inr (by omega)
theorem InV.name_size {φ : Nat → Prop} {w : World} {f : Fm} {v : Value} (h : InV φ w f v) : f.name.size ≤ maxLen := by
  cases f with
  | mk k nm n sc ks =>
    unfold InV at h
    obtain ⟨vs, a', cap', e, _, _, hnm, _⟩ := h
    exact hnm
theorem strOwn_of {w : World} {base : Nat} {v : Value} {l : List ByteArray} {e : TypeId} (h : w.ownsRow base e 1 v l.length (l.map Value.string)) : ∃ bs, StrOwn w v l bs ∧ (∀ b ∈ bs, v.ownBlock = some b) ∧ bs.Nodup := by
  obtain ⟨a, cap, e0, h1, h2, h3⟩ := strRow_of h
  rcases h.2 with ⟨rfl, h0⟩ | ⟨g, cap', cur, rfl, hb, hg, hn, hm, hs, hx⟩
  · obtain rfl : l = [] := List.eq_nil_of_length_eq_zero h0
    exact ⟨[], ⟨none, 0, rfl, Nat.le_refl _, by unfold maxLen; omega, .inl ⟨rfl, rfl⟩⟩, by simp, by simp⟩
  · injection e0 with e1 _ e3
    subst e3
    refine ⟨[g], ⟨some ⟨g, 0, none⟩, cap', rfl, hn, hm, .inr ⟨g, 0, rfl, rfl, fun i hi => ⟨?_, frozen_of_row w g _ cur e hg⟩⟩⟩, by simp [Value.ownBlock], by simp⟩
    rcases h3 with h3 | ⟨b, off, h4, h5⟩
    · rw [h3] at hi; simp at hi
    · rw [← e1] at h4
      injection h4 with h4
      injection h4 with h6 h7
      subst h6 h7
      exact h5 i hi
end Go.Proofs.Ytlmplfpdmelcjaa
