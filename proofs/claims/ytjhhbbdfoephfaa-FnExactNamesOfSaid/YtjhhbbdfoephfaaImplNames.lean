/- The contract of the program's NamesOf. -/
import Derived.Test.YtjhhbbdfoephfaaVisits
import Derived.Test.YtjhhbbdfoephfaaStrs
import Derived.Test.YtjhhbbdfoephfaaSlim
namespace Go.Proofs.Ytjhhbbdfoephfaa
open Go.RowKit
set_option linter.unusedVariables false
set_option linter.unusedSimpArgs false
/-- what the visit of forms minds: the names seen, in a map and in a row, each in its box -/
def NamesI (base mb sb ab : Nat) (pre : List Fm) (E : Nat → Prop) (W : World) : Prop :=
  ∃ (L : List ByteArray) (pa : Option Addr) (ca : Nat), L = namesF [] pre ∧ (∀ s ∈ L, s.size ≤ maxLen) ∧ W.cell? ⟨ab, 0, none⟩ = some (.slice pa L.length ca) ∧ W.frozen? ⟨ab, 0, none⟩ = false ∧
    W.cell? ⟨sb, 0, none⟩ = some (.map (some mb)) ∧ MapS W mb L ∧ W.ownsRow base 9 1 (.slice pa L.length ca) L.length (L.map Value.string) ∧
    (∀ g, (Value.slice pa L.length ca).ownBlock = some g → g ≠ ab ∧ g ≠ sb ∧ g ≠ mb) ∧ ∀ k, E k ↔ (k = ab ∨ k = sb ∨ k = mb ∨ (Value.slice pa L.length ca).ownBlock = some k)
theorem MapS.same {w w' : World} {mb : Nat} {m : List ByteArray} (h : MapS w mb m) (hs : w'.heap[mb]? = w.heap[mb]?) : MapS w' mb m := by
  obtain ⟨es, c, h1, h2⟩ := h
  exact ⟨es, c, hs.trans h1, h2⟩
theorem ownsRow_same' {w w' : World} {base n m : Nat} {e : TypeId} {v : Value} {xs : List Value} (h : w.ownsRow base e m v n xs) (hs : ∀ g, v.ownBlock = some g → w'.heap[g]? = w.heap[g]?) : w'.ownsRow base e m v n xs := by
  refine ⟨h.1, ?_⟩
  rcases h.2 with h0 | ⟨g, cap, cur, rfl, h1, h2, h3⟩
  · exact .inl h0
  · exact .inr ⟨g, cap, cur, rfl, h1, (hs g rfl).trans h2, h3⟩
set_option maxRecDepth 100000 in
set_option maxHeartbeats 1000000 in
theorem namesVisitor (B base mb sb ab : Nat) (hBb : base ≤ ab) (hd : ab ≠ sb ∧ ab ≠ mb ∧ sb ≠ mb) : Visitor (fun _ => True) B 36 #[.pointer (some ⟨sb, 0, none⟩), .pointer (some ⟨ab, 0, none⟩)] (NamesI base mb sb ab) := by
  obtain ⟨hd1, hd2, hd3⟩ := hd
  refine ⟨enters_of Try.func36 (by kernel_rfl) rfl, ?_, ?_⟩
  · rintro pre E W W' ⟨L, pa, ca, hL, hm, h1, h2, h3, h4, h5, h6, h7⟩ _ _ _ _ hs
    have hab := hs ab ((h7 ab).2 (.inl rfl))
    have hsb := hs sb ((h7 sb).2 (.inr (.inl rfl)))
    have hmb := hs mb ((h7 mb).2 (.inr (.inr (.inl rfl))))
    exact ⟨L, pa, ca, hL, hm, (World.cell?_of_block (a := ⟨ab, 0, none⟩) hab).trans h1, (World.frozen?_of_block (a := ⟨ab, 0, none⟩) hab).trans h2, (World.cell?_of_block (a := ⟨sb, 0, none⟩) hsb).trans h3, h4.same hmb,
      ownsRow_same' h5 (fun g hg => hs g ((h7 g).2 (.inr (.inr (.inr hg))))), h6, h7⟩
  · rintro pre E x W ⟨L, pa, ca, hL, hm, h1, h2, h3, h4, h5, h6, h7⟩ hl _ hE hin
    have hnx : x.f.name.size ≤ maxLen := by
      cases x with
      | mk f sa scap a cap =>
        cases f with
        | mk k nm n sc ks =>
          unfold InV Item.val at hin
          obtain ⟨vs, a', cap', e, _, _, hnm, _⟩ := hin
          exact hnm
    have hab := hE ab ((h7 ab).2 (.inl rfl))
    have hsb := hE sb ((h7 sb).2 (.inr (.inl rfl)))
    have hmb := hE mb ((h7 mb).2 (.inr (.inr (.inl rfl))))
    have hgl : ∀ g, (Value.slice pa L.length ca).ownBlock = some g → g < W.heap.size := fun g hg => (hE g ((h7 g).2 (.inr (.inr (.inr hg))))).2
    have hll : L.length ≤ 1048577 := by rw [hL]; have := namesF_length pre []; simp at this; omega
    obtain ⟨i0, hi0, hz0, hz1, hz2⟩ := info_parts Try.infoStr
    have hb1 := below_alloc W (.cells #[.int .i64 x.f.kind, .string x.f.name, .int .i64 x.f.n, .slice x.sa x.f.scopes.length x.scap, .slice x.a x.f.kids.length x.cap] 30)
    have hms1 := h4.same (hb1.block mb hmb.2)
    have how1 := ownsRow_same' h5 (fun g hg => hb1.block g (hgl g hg))
    have hc1 := cell_later' hb1 h1
    have hc3 := cell_later' hb1 h3
    have hf1 : (W.alloc (.cells #[.int .i64 x.f.kind, .string x.f.name, .int .i64 x.f.n, .slice x.sa x.f.scopes.length x.scap, .slice x.a x.f.kids.length x.cap] 30)).frozen? ⟨ab, 0, none⟩ = false := (hb1.frozen (p := ⟨ab, 0, none⟩) hab.2).trans h2
    have hlk := lookup_str _ mb L x.f.name hms1 hm hnx
    have hstay : addN L x.f = L → NamesI base mb sb ab (pre ++ [x.f]) E (W.alloc (.cells #[.int .i64 x.f.kind, .string x.f.name, .int .i64 x.f.n, .slice x.sa x.f.scopes.length x.scap, .slice x.a x.f.kids.length x.cap] 30)) := fun ha =>
      ⟨L, pa, ca, by rw [namesF_append, ← hL]; exact ha.symm, hm, hc1, hf1, hc3, hms1, how1, h6, h7⟩
    have hon : OnlyE E W (W.alloc (.cells #[.int .i64 x.f.kind, .string x.f.name, .int .i64 x.f.n, .slice x.sa x.f.scopes.length x.scap, .slice x.a x.f.kids.length x.cap] 30)) := ⟨rfl, rfl, rfl, by simp, fun k hk _ => hb1.block k hk⟩
    have HSTAY := Lib.hid hstay
    have HON := Lib.hid hon
    have HE := Lib.hid hE
    have HL := Lib.hid hL
    have HM := Lib.hid hm
    have HMS := Lib.hid hms1
    have HOW := Lib.hid how1
    have H6 := Lib.hid h6
    have H7 := Lib.hid h7
    have HGL := Lib.hid hgl
    clear hin hstay hon hE hL hm hms1 how1 h6 h7 hgl h1 h2 h3 h4 h5
    unfold Item.val
    show Calls Try.prog 36 #[.agg #[.int .i64 x.f.kind, .string x.f.name, .int .i64 x.f.n, .slice x.sa x.f.scopes.length x.scap, .slice x.a x.f.kids.length x.cap], .pointer (some ⟨sb, 0, none⟩), .pointer (some ⟨ab, 0, none⟩)] W _
    go_enter Try.func36, Try.ntmps36
    cases hk : (x.f.kind == 1) with
    | false =>
      have HA : Hid (addN L x.f = L) := by unfold Hid addN; rw [hk]; rfl
      clear hlk hc1 hc3 hf1 hb1
      go_wp2_with fail
      go_end0
      exact ⟨rfl, E, HSTAY.out HA.out, HON.out, fun k hk => ⟨.inl hk, by have := (HE.out k hk).2; simp; omega⟩⟩
    | true =>
      cases hin : inB L x.f.name with
      | true =>
        have HA : Hid (addN L x.f = L) := by unfold Hid addN; rw [hk, hin]; rfl
        rw [hin] at hlk
        clear hc1 hf1 hb1 hin
        go_wp2_with fail
        go_end0
        exact ⟨rfl, E, HSTAY.out HA.out, HON.out, fun k hk => ⟨.inl hk, by have := (HE.out k hk).2; simp; omega⟩⟩
      | false =>
        have HA : Hid (addN L x.f = L ++ [x.f.name]) := by unfold Hid addN; rw [hk, hin]; rfl
        rw [hin] at hlk
        obtain ⟨W2, hup, hms2, hsz2, hbl2, hos2, htp2, hou2⟩ := update_str _ mb L x.f.name HMS.out HM.out hnx hin
        rw [size_alloc'] at hsz2
        have hs2 : W.heap.size + 1 ≤ W2.heap.size := by omega
        have hbW : ∀ k, k ≠ mb → k < W.heap.size → W2.heap[k]? = W.heap[k]? := fun k h1 h2 => (hbl2 k h1).trans (hb1.block k h2)
        have hcab : W2.cell? ⟨ab, 0, none⟩ = some (.slice pa L.length ca) := (World.cell?_of_block (a := ⟨ab, 0, none⟩) (hbl2 ab hd2)).trans hc1
        have hfab : W2.frozen? ⟨ab, 0, none⟩ = false := (World.frozen?_of_block (a := ⟨ab, 0, none⟩) (hbl2 ab hd2)).trans hf1
        have hcsb : W2.cell? ⟨sb, 0, none⟩ = some (.map (some mb)) := (World.cell?_of_block (a := ⟨sb, 0, none⟩) (hbl2 sb hd3)).trans hc3
        have hcn : W2.cell? ⟨W.heap.size, 1, none⟩ = some (.string x.f.name) := (World.cell?_of_block (a := ⟨W.heap.size, 1, none⟩) (hbl2 W.heap.size (by omega))).trans (World.cell?_alloc_at _ _ _ _ rfl)
        have how2 : W2.ownsRow base 9 1 (.slice pa L.length ca) L.length (L.map Value.string) := ownsRow_same' HOW.out (fun g hg => hbl2 g (H6.out g hg).2.2)
        have hne : some ab ≠ (Value.slice pa L.length ca).ownBlock := fun h => (H6.out ab h.symm).1 rfl
        have hnes : some sb ≠ (Value.slice pa L.length ca).ownBlock := fun h => (H6.out sb h.symm).2.1 rfl
        have hnem : some mb ≠ (Value.slice pa L.length ca).ownBlock := fun h => (H6.out mb h.symm).2.2 rfl
        have hL1 : L.length + 1 ≤ maxLen := by unfold maxLen; omega
        have hL2 : (L.length + 1) * 16 ≤ 140737488355328 := by omega
        have HOW2 := Lib.hid how2
        have HMS2 := Lib.hid hms2
        have HBW := Lib.hid hbW
        have HW2 : Hid (W2.os = W.os ∧ W2.tape = W.tape ∧ W2.output = W.output) := ⟨hos2, htp2, hou2⟩
        have HCS := Lib.hid hcsb
        clear hms2 hsz2 hbl2 hos2 htp2 hou2 how2 hbW hb1 hin hcsb hf1
        go_wp2_with (at_builtin; refine wpList_append_lies _ rfl _ _ 34 rfl base 9 i0 _ 1 16 Try.underlying34 hi0 hz0 hz1 hz2 rfl (by decide) _ L.length (L.map Value.string) rfl (HOW2.out.alloc _) ⟨W2.heap.size, 0, none⟩ 1 1 [.string x.f.name] rfl rfl (World.news_of_block (cs := #[.string x.f.name]) (t := 9) (fr := (0, 0)) (heap_alloc_new W2 _)) (by simp [Value.oneCell']) (by omega) hL1 hL2 (by simp; omega) (W2.heap.size + 1) (by simp) ?_; intro gq qd w3 hown3 hgrow hat hlt4; have c3 := hgrow.cell (cell_later' (below_alloc W2 (.cells #[.string x.f.name] 9)) hcab) hne; have f3 := (World.frozen?_of_block (a := ⟨ab, 0, none⟩) (hgrow.block ab (by simp; omega) hne)).trans (((below_alloc W2 (.cells #[.string x.f.name] 9)).frozen (p := ⟨ab, 0, none⟩) (show ab < W2.heap.size by omega)).trans hfab); have HOWN3 := Lib.hid hown3; have HGROW := Lib.hid hgrow; have HAT := Lib.hid hat; have hs3 := hgrow.size; rw [size_alloc'] at hs3; clear hown3 hgrow hat)
        have hown : Hid ((Value.slice pa L.length ca).ownBlock = some gq ∨ gq = W2.heap.size + 1) := HAT.out
        have hz : (w3.setCell ⟨ab, 0, none⟩ (.slice (some ⟨gq, 0, none⟩) (L.length + 1) qd)).heap.size = w3.heap.size := by simp [World.setCell]
        have hblk : ∀ k, k < W.heap.size → some k ≠ (Value.slice pa L.length ca).ownBlock → w3.heap[k]? = W2.heap[k]? := fun k h1 h2 => (HGROW.out.block k (by simp; omega) h2).trans ((below_alloc W2 _).block k (by omega))
        have hset : ∀ k, k ≠ ab → (w3.setCell ⟨ab, 0, none⟩ (.slice (some ⟨gq, 0, none⟩) (L.length + 1) qd)).heap[k]? = w3.heap[k]? := fun k h => Below.heap_setCell _ _ _ _ h
        have hgq : gq ≠ ab ∧ gq ≠ sb ∧ gq ≠ mb := hown.out.elim (fun h => H6.out gq h) (fun h => ⟨by omega, by omega, by omega⟩)
        have HZ := Lib.hid hz
        clear hz
        go_end0
        refine ⟨rfl, fun k => k = ab ∨ k = sb ∨ k = mb ∨ k = gq, ⟨L ++ [x.f.name], some ⟨gq, 0, none⟩, qd, ?_, ?_, ?_, ?_, ?_, ?_, ?_, ?_, ?_⟩, ⟨HGROW.out.os.trans HW2.out.1, HGROW.out.tape.trans HW2.out.2.1, HGROW.out.output.trans HW2.out.2.2, ?_, ?_⟩, ?_⟩
        · rw [namesF_append, ← HL.out]; exact HA.out.symm
        · intro s hs
          rcases List.mem_append.1 hs with h | h
          · exact HM.out s h
          · rw [List.mem_singleton] at h; rw [h]; exact hnx
        · have := World.cell?_setCell_same w3 ⟨ab, 0, none⟩ (.slice (some ⟨gq, 0, none⟩) (L.length + 1) qd) c3
          rw [List.length_append]
          exact this
        · rw [World.frozen?_setCell]; exact f3
        · exact (World.cell?_of_block (a := ⟨sb, 0, none⟩) ((hset sb (Ne.symm hd1)).trans (hblk sb hsb.2 hnes))).trans HCS.out
        · exact HMS2.out.same ((hset mb (Ne.symm hd2)).trans (hblk mb hmb.2 hnem))
        · have := ownsRow_setFar HOWN3.out hgq.1 (o := 0) (u := .slice (some ⟨gq, 0, none⟩) (L.length + 1) qd)
          simpa using this
        · intro g hg
          have h2 : some gq = some g := hg
          injection h2 with h2
          rw [← h2]; exact hgq
        · intro k
          constructor
          · rintro (h | h | h | h)
            · exact .inl h
            · exact .inr (.inl h)
            · exact .inr (.inr (.inl h))
            · exact .inr (.inr (.inr (by rw [h]; rfl)))
          · rintro (h | h | h | h)
            · exact .inl h
            · exact .inr (.inl h)
            · exact .inr (.inr (.inl h))
            · have h2 : some gq = some k := h
              injection h2 with h2
              exact .inr (.inr (.inr h2.symm))
        · rw [HZ.out]; omega
        · intro k hk hn
          have hka : k ≠ ab := fun e => hn ((H7.out k).2 (.inl e))
          have hkm : k ≠ mb := fun e => hn ((H7.out k).2 (.inr (.inr (.inl e))))
          have hko : some k ≠ (Value.slice pa L.length ca).ownBlock := fun e => hn ((H7.out k).2 (.inr (.inr (.inr e.symm))))
          exact ((hset k hka).trans (hblk k hk hko)).trans (HBW.out k hkm hk)
        · intro k hk
          rw [HZ.out]
          rcases hk with h | h | h | h
          · exact ⟨.inl ((H7.out k).2 (.inl h)), by omega⟩
          · exact ⟨.inl ((H7.out k).2 (.inr (.inl h))), by omega⟩
          · exact ⟨.inl ((H7.out k).2 (.inr (.inr (.inl h)))), by omega⟩
          · refine ⟨?_, by omega⟩
            rcases hown.out with h2 | h2
            · exact .inl ((H7.out k).2 (.inr (.inr (.inr (by rw [h]; exact h2)))))
            · exact .inr (by omega)
theorem strOwn_of {w : World} {base : Nat} {v : Value} {l : List ByteArray} {e : TypeId} (h : w.ownsRow base e 1 v l.length (l.map Value.string)) : ∃ bs, StrOwn w v l bs ∧ (∀ b ∈ bs, v.ownBlock = some b) ∧ bs.Nodup := by
  obtain ⟨a, cap, e0, h1, h2, h3⟩ := strRow_of h
  rcases h.2 with ⟨rfl, h0⟩ | ⟨g, cap', cur, rfl, hb, hg, hn, hm, hs, hx⟩
  · obtain rfl : l = [] := List.eq_nil_of_length_eq_zero h0
    exact ⟨[], ⟨none, 0, rfl, Nat.le_refl _, by unfold maxLen; omega, .inl ⟨rfl, rfl⟩⟩, by simp, by simp⟩
  · injection e0 with e1 _ e3
    subst e3
    refine ⟨[g], ⟨some ⟨g, 0, none⟩, cap', rfl, hn, hm, .inr ⟨g, 0, rfl, rfl, fun i hi => ⟨?_, frozen_of_row w g _ cur e hg⟩⟩⟩, by simp [Value.ownBlock], by simp⟩
    rcases h3 with h3 | ⟨b, off, h4, h5⟩
    · rw [h3] at hi; simp at hi
    · rw [← e1] at h4
      injection h4 with h4
      injection h4 with h6 h7
      subst h6 h7
      exact h5 i hi
theorem make_strs (w : World) : (Instr.makeMap 53 none).run Try.prog w = .ok (.map (some w.heap.size)) (w.alloc (.map #[] 0)) := by
  simp [Instr.makeMap, Result.andThen]
set_option maxRecDepth 100000 in
set_option maxHeartbeats 1000000 in
theorem implNamesOf_any (x : Item) (w : World) (hv : InV (· < w.heap.size) w x.f x.val) (hsz : x.f.sz ≤ 1048576) (hend : EndlessAt x.val w) :
    Calls Try.prog 13 #[x.val] w fun e w' => ∃ pa ca bs, e = .returned (.slice pa (namesF [] x.f.pre).length ca) ∧ StrOwn w' (.slice pa (namesF [] x.f.pre).length ca) (namesF [] x.f.pre) bs ∧ NewBs bs w.heap.size w'.heap.size ∧ Below w.heap.size w w' := by
  have HV := Lib.hid hv
  have HEND := Lib.hid hend
  have hcf := x.f.count_le
  clear hv hend
  unfold Item.val
  go_enter Try.func13, Try.ntmps13
  have hmk := make_strs ((w.alloc (.cells #[.int .i64 x.f.kind, .string x.f.name, .int .i64 x.f.n, .slice x.sa x.f.scopes.length x.scap, .slice x.a x.f.kids.length x.cap] 30)).alloc (.cells #[.slice none 0 0] 34))
  go_wp2_with fail
  clear hmk
  obtain ⟨w4, hw4⟩ : ∃ w4, w4 = ((((w.alloc (.cells #[.int .i64 x.f.kind, .string x.f.name, .int .i64 x.f.n, .slice x.sa x.f.scopes.length x.scap, .slice x.a x.f.kids.length x.cap] 30)).alloc (.cells #[.slice none 0 0] 34)).alloc (.map #[] 0)).alloc (.cells #[.map (some (w.heap.size + 1 + 1))] 53)) := ⟨_, rfl⟩
  rw [← hw4]
  have hs4 : w4.heap.size = w.heap.size + 4 := by rw [hw4]; simp
  have hb4 : Below w.heap.size w w4 := by rw [hw4]; exact ((((Below.refl _ w).alloc (Nat.le_refl _) _).alloc (by simp) _).alloc (by simp; omega) _).alloc (by simp; omega) _
  have bb : Below ((w.alloc (.cells #[.int .i64 x.f.kind, .string x.f.name, .int .i64 x.f.n, .slice x.sa x.f.scopes.length x.scap, .slice x.a x.f.kids.length x.cap] 30)).alloc (.cells #[.slice none 0 0] 34)).heap.size ((w.alloc (.cells #[.int .i64 x.f.kind, .string x.f.name, .int .i64 x.f.n, .slice x.sa x.f.scopes.length x.scap, .slice x.a x.f.kids.length x.cap] 30)).alloc (.cells #[.slice none 0 0] 34)) w4 := by rw [hw4]; exact (below_alloc _ _).alloc (by simp) _
  have cab : w4.cell? ⟨w.heap.size + 1, 0, none⟩ = some (.slice none 0 0) := cell_later' bb (World.cell?_alloc_at _ _ _ _ (by simp))
  have fab : w4.frozen? ⟨w.heap.size + 1, 0, none⟩ = false := (bb.frozen (p := ⟨w.heap.size + 1, 0, none⟩) (by simp)).trans (World.frozen?_alloc_at _ _ _ _ (by simp))
  have csb : w4.cell? ⟨w.heap.size + 1 + 1 + 1, 0, none⟩ = some (.map (some (w.heap.size + 1 + 1))) := by rw [hw4]; exact World.cell?_alloc_at _ _ _ _ (by simp)
  have hm4 : w4.heap[w.heap.size + 1 + 1]? = some (.map #[] 0) := by
    have := heap_alloc_new ((w.alloc (.cells #[.int .i64 x.f.kind, .string x.f.name, .int .i64 x.f.n, .slice x.sa x.f.scopes.length x.scap, .slice x.a x.f.kids.length x.cap] 30)).alloc (.cells #[.slice none 0 0] 34)) (.map #[] 0)
    rw [size_alloc', size_alloc'] at this
    rw [hw4, (below_alloc _ _).block _ (by simp)]
    exact this
  clear hw4 bb
  refine (visit_any (fun _ => True) (fun _ _ _ _ => trivial) w.heap.size _ _ _ (namesVisitor w.heap.size w.heap.size (w.heap.size + 1 + 1) (w.heap.size + 1 + 1 + 1) (w.heap.size + 1) (by omega) ⟨by omega, by omega, by omega⟩) x (fun k => k = w.heap.size + 1 ∨ k = w.heap.size + 1 + 1 + 1 ∨ k = w.heap.size + 1 + 1) w4 (by omega) (fun k hk => by omega)
    ⟨[], none, 0, rfl, by simp, cab, fab, csb, ⟨#[], 0, hm4, rfl⟩, World.ownsRow_nil _ _ _ _, by simp [Value.ownBlock], fun k => by simp [Value.ownBlock]⟩ (InV.later (same_below hb4) _ _ HV.out) (by omega) (HEND.out.later hb4) trivial).mono ?_
  rintro e w3 ⟨rfl, E', ⟨L, pa, ca, hL, hm, h1, h2, h3, h4, h5, h6, h7⟩, ho, hE'⟩
  have hbw3 : Below w.heap.size w w3 := ⟨ho.os.trans hb4.os, ho.tape.trans hb4.tape, ho.output.trans hb4.output, by have := ho.size; omega, fun k hk => (ho.block k (by omega) (by omega)).trans (hb4.block k hk)⟩
  have HOWN : Hid (∃ bs, StrOwn w3 (.slice pa L.length ca) L bs ∧ NewBs bs w.heap.size w3.heap.size) := by
    obtain ⟨bs, q1, q2, q3⟩ := strOwn_of h5
    exact ⟨bs, q1, q3, fun c hc => by have h8 := hE' c ((h7 c).2 (.inr (.inr (.inr (q2 c hc))))); omega⟩
  have HL := Lib.hid hL
  have HB3 := Lib.hid hbw3
  clear hb4 cab fab csb hm4 hL hm h2 h3 h4 h5 h6 h7 ho hE' hbw3
  go_wp2_with fail
  go_ret
  obtain ⟨bs, q1, q2⟩ := HOWN.out
  rw [← HL.out]
  exact ⟨pa, ca, bs, rfl, q1, q2, HB3.out⟩
end Go.Proofs.Ytjhhbbdfoephfaa
