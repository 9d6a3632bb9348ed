/- The contract of the program's AddBind. -/
import Derived.Test.YtbmpgfojhoganaaCloneB
namespace Go.Proofs.Ytbmpgfojhoganaa
open Go.RowKit
set_option linter.unusedVariables false
set_option linter.unusedSimpArgs false
set_option maxRecDepth 100000 in
set_option maxHeartbeats 4000000 in
theorem implAddBind_any (l : List Bd) (v : Value) (f : Fm) (u : Value) (id : Int) (w : World) (hv : BdRow (· < w.heap.size) w v l) (hsc : ∀ x ∈ l, x.scopes.length ≤ 1048576) (hlen : l.length ≤ 1048576) (hf : InV (· < w.heap.size) w f u) (hsz : f.sz ≤ 1048576)
    (hid : -9223372036854775808 ≤ id ∧ id ≤ 9223372036854775807) (ok : Bool) (R : List Bd) (hok : addB l f id = ok) (hR : (if ok = true then l ++ [⟨f.name, f.scopes, id⟩] else []) = R) :
    Calls Try.prog 34 #[v, u, .int .i64 id] w fun e w' => ∃ pa pc bs, e = .returned (.tuple #[.slice pa R.length pc, .bool ok]) ∧ BdsOwn w' R (.slice pa R.length pc) bs ∧ NewBs bs w.heap.size w'.heap.size ∧ Below w.heap.size w w' := by
  have HOK := Lib.hid hok
  have HR := Lib.hid hR
  have HF := Lib.hid hf
  have HSC := Lib.hid hsc
  have HID := Lib.hid hid
  have hlf : f.scopes.length ≤ 1048576 := Nat.le_trans (sz_scopes f).1 hsz
  obtain ⟨pa, pcap, rfl, hpc, hpm, hwf, _⟩ := (show BdRow (· < w.heap.size) w v l from hv)
  have HWF := Lib.hid hwf
  have hbd := hf.bounds
  have HWFN : Hid (∀ x ∈ l ++ [(⟨f.name, f.scopes, id⟩ : Bd)], x.wf) := fun x hx => by
    rcases List.mem_append.1 hx with hx | hx
    · exact HWF.out x hx
    · rw [List.mem_singleton] at hx
      subst hx
      exact ⟨hbd.2.2, HID.out⟩
  have HSCN : Hid (∀ x ∈ l ++ [(⟨f.name, f.scopes, id⟩ : Bd)], x.scopes.length ≤ 1048576) := fun x hx => by
    rcases List.mem_append.1 hx with hx | hx
    · exact HSC.out x hx
    · rw [List.mem_singleton] at hx
      subst hx
      exact hlf
  obtain ⟨xs, hxl, hxv, hx1, hxs⟩ := bd_cells hv
  obtain ⟨sa, scap, a, cap, rfl⟩ := hf.form
  obtain ⟨i0, hi0, hz0, hz1, hz2⟩ := info_parts Try.infoBd3
  obtain ⟨l0, hl0, hlz0, hlz1, hlz2⟩ := info_parts Try.infoInt
  unfold maxLen at hpm
  have hL1 : l.length + 1 ≤ maxLen := by unfold maxLen; omega
  have hL2 : (l.length + 1) * 48 ≤ 140737488355328 := by omega
  have HINT0 : Hid (IntRow (· < w.heap.size) w (.slice sa f.scopes.length scap) f.scopes) := hf.ints
  have hmk := make_binds1 l.length (by omega)
  have hi3 : (Try.prog.info? 83).map (·.size) = some 3 := by kernel_rfl
  obtain ⟨Z, hZ⟩ : ∃ Z : List Value, Z.toArray = madeCells zeroBd ((l.length + 1) * 3) := ⟨(madeCells zeroBd ((l.length + 1) * 3)).toList, by simp⟩
  have hZl : Z.length = (l.length + 1) * 3 := by
    have : Z.toArray.size = (l.length + 1) * 3 := by rw [hZ]; exact size_madeCells _ _
    simpa using this
  have hmk2 : ∀ w : World, (Instr.makeSlice 47 (.int .i64 (l.length : Int)) (.int .i64 ((l.length : Int) + 1))).run Try.prog w =
      .ok (.slice (some ⟨w.heap.size, 0, none⟩) l.length (l.length + 1)) (w.alloc (.cells Z.toArray 83)) := fun w => by rw [hZ]; exact hmk w
  have hw1s : ((w.alloc (.cells #[.int .i64 f.kind, .string f.name, .int .i64 f.n, .slice sa f.scopes.length scap, .slice a f.kids.length cap] 26)).alloc (.cells Z.toArray 83)).heap.size = w.heap.size + 2 := by simp
  have hbA : Below w.heap.size w ((w.alloc (.cells #[.int .i64 f.kind, .string f.name, .int .i64 f.n, .slice sa f.scopes.length scap, .slice a f.kids.length cap] 26)).alloc (.cells Z.toArray 83)) := (below_alloc w _).alloc (by simp) _
  have hg1 : ((w.alloc (.cells #[.int .i64 f.kind, .string f.name, .int .i64 f.n, .slice sa f.scopes.length scap, .slice a f.kids.length cap] 26)).alloc (.cells Z.toArray 83)).heap[w.heap.size + 1]? = some (.cells Z.toArray 83 (0, 0)) := by
    have := heap_alloc_new (w.alloc (.cells #[.int .i64 f.kind, .string f.name, .int .i64 f.n, .slice sa f.scopes.length scap, .slice a f.kids.length cap] 26)) (.cells Z.toArray 83)
    rw [size_alloc'] at this
    exact this
  have HX0 := Lib.hid ((FormBox.fresh w f sa a scap cap 26).later (below_alloc (w.alloc (.cells #[.int .i64 f.kind, .string f.name, .int .i64 f.n, .slice sa f.scopes.length scap, .slice a f.kids.length cap] 26)) (.cells Z.toArray 83)))
  have HSRC : Hid (0 < xs.length → ∃ ad, pa = some ad ∧ ∀ j v, xs[j]? = some v → ((w.alloc (.cells #[.int .i64 f.kind, .string f.name, .int .i64 f.n, .slice sa f.scopes.length scap, .slice a f.kids.length cap] 26)).alloc (.cells Z.toArray 83)).cell? (ad.add j) = some v) := fun h => by
    obtain ⟨b, off, rfl, hb, hc⟩ := hxs h
    refine ⟨_, rfl, fun j v hv => ?_⟩
    have hadd : (⟨b, off, none⟩ : Addr).add j = ⟨b, off + j, none⟩ := by unfold Addr.add; split <;> simp_all
    rw [hadd, hbA.cell (p := ⟨b, off + j, none⟩) hb]
    exact hc j v hv
  have HSP : Hid (pa = none → l.length = 0) := fun h => by
    by_cases h0 : l.length = 0
    · exact h0
    · obtain ⟨b, off, e, _⟩ := hxs (by omega)
      rw [h] at e; cases e
  have HXV := Lib.hid hxv
  have HBA := Lib.hid hbA
  have HG1 := Lib.hid hg1
  have HX1 := Lib.hid hx1
  have HXL := Lib.hid hxl
  have HZL := Lib.hid hZl
  have hmin : Nat.min l.length l.length = l.length := Nat.min_self _
  have HN : Hid (xs.length = Nat.min l.length l.length * 3) := by rw [hmin]; exact hxl
  have HBA1 : Hid (Below (w.heap.size + 1) (w.alloc (.cells #[.int .i64 f.kind, .string f.name, .int .i64 f.n, .slice sa f.scopes.length scap, .slice a f.kids.length cap] 26)) ((w.alloc (.cells #[.int .i64 f.kind, .string f.name, .int .i64 f.n, .slice sa f.scopes.length scap, .slice a f.kids.length cap] 26)).alloc (.cells Z.toArray 83))) := by
    have := below_alloc (w.alloc (.cells #[.int .i64 f.kind, .string f.name, .int .i64 f.n, .slice sa f.scopes.length scap, .slice a f.kids.length cap] 26)) (.cells Z.toArray 83)
    rw [size_alloc'] at this
    exact this
  have HV0 := Lib.hid hv
  clear hok hR hv hf hsc hid hwf hbd hxv hx1 hxs hmk hZ hbA hg1 hxl hZl hmin
  obtain ⟨w2, hw2⟩ : ∃ w2, w2 = ((w.alloc (.cells #[.int .i64 f.kind, .string f.name, .int .i64 f.n, .slice sa f.scopes.length scap, .slice a f.kids.length cap] 26)).alloc (.cells Z.toArray 83)).setRow (w.heap.size + 1) (splice Z 0 xs).toArray := ⟨_, rfl⟩
  have hcopy : (Builtin.copy_ #[47, 47] 3 #[.slice (some ⟨w.heap.size + 1, 0, none⟩) l.length (l.length + 1), .slice pa l.length pcap]).run Try.prog ((w.alloc (.cells #[.int .i64 f.kind, .string f.name, .int .i64 f.n, .slice sa f.scopes.length scap, .slice a f.kids.length cap] 26)).alloc (.cells Z.toArray 83)) = .ok (.int .i64 (l.length : Int)) w2 := by
    have h1 := run_copy_many (P := Try.prog) ((w.alloc (.cells #[.int .i64 f.kind, .string f.name, .int .i64 f.n, .slice sa f.scopes.length scap, .slice a f.kids.length cap] 26)).alloc (.cells Z.toArray 83)) 47 47 3 83 (w.heap.size + 1) 0 l.length (l.length + 1) pa l.length pcap 3 Z 83 xs Try.underlying47 hi3 HG1.out HN.out HSRC.out (by have h2 := HXL.out; have h3 := HZL.out; omega) HX1.out HSP.out
    rw [h1, hw2, show Nat.min l.length l.length = l.length from Nat.min_self _]
    rfl
  have HG2 : Hid (w2.heap[w.heap.size + 1]? = some (.cells (splice Z 0 xs).toArray 83 (0, 0))) := by
    rw [hw2]
    exact setRow_heap _ (w.heap.size + 1) _ _ 83 _ HG1.out
  have HB2 : Hid (Below (w.heap.size + 1) (w.alloc (.cells #[.int .i64 f.kind, .string f.name, .int .i64 f.n, .slice sa f.scopes.length scap, .slice a f.kids.length cap] 26)) w2) := by
    rw [hw2]
    exact below_setRow HBA1.out (by omega) _
  clear hw2
  have hglt : w.heap.size + 1 < w2.heap.size := (Array.getElem?_eq_some_iff.1 HG2.out).1
  have HX2 : Hid (FormBox w2 w.heap.size f sa scap a cap) := (FormBox.fresh w f sa a scap cap 26).later (by rw [size_alloc']; exact HB2.out)
  have HB02 : Hid (Below w.heap.size w w2) := (below_alloc w _).trans (HB2.out.mono (by omega))
  have hown2 : w2.ownsRow (w.heap.size + 1) 83 3 (.slice (some ⟨w.heap.size + 1, 0, none⟩) l.length (l.length + 1)) l.length xs := by
    refine ⟨HXL.out, .inr ⟨w.heap.size + 1, l.length + 1, (splice Z 0 xs).toArray, rfl, Nat.le_refl _, HG2.out, by omega, hL1, ?_, ?_⟩⟩
    · have h1 := HXL.out
      have h2 := HZL.out
      rw [List.size_toArray, length_splice _ _ _ (by omega)]
      exact h2
    · have h1 := HXL.out
      rw [← h1]
      simp [splice]
  have HXV2 : Hid (BdVals (· < w.heap.size) w2 l xs) := HXV.out.keep (Same.of_below HB02.out fun k hk => hk) fun k hk => hk
  have HINT2 : Hid (IntRow (· < w.heap.size) w2 (.slice sa f.scopes.length scap) f.scopes) := HINT0.out.later (Same.of_below HB02.out fun k hk => hk)
  obtain ⟨s0, s1, s2, s3, s4⟩ := HX2.out
  clear HG1 HX0 HSRC HBA HBA1 HXV HINT0 HN HX1 HSP HG2 HB2
  go_enter Try.func34, Try.ntmps34
  go_wp2_with (at_builtin; (refine wpList_append_lies _ rfl _ _ 47 rfl (w.heap.size + 1) 83 i0 _ 3 48 Try.underlying47 hi0 hz0 hz1 hz2 rfl (by decide) (.slice (some ⟨w.heap.size + 1, 0, none⟩) l.length (l.length + 1)) _ _ rfl (hown2.alloc _) ⟨w2.heap.size, 0, none⟩ 1 1 [.string f.name, .slice sa f.scopes.length scap, .int .i64 id] rfl rfl (World.news_of_block (cs := #[.string f.name, .slice sa f.scopes.length scap, .int .i64 id]) (t := 83) (fr := (0, 0)) (heap_alloc_new w2 _)) (by simp [Value.oneCell']) (by omega) hL1 hL2 (by simp; omega) (w2.heap.size + 1) (by simp) ?_); intro gg qcap w3 hown3 hgrow hat hlt3; have HOWN3 := Lib.hid hown3; have HGROW := Lib.hid hgrow; have HAT := Lib.hid hat; clear hown3 hgrow hat; refine halt_of ?_)
  have hgs := HGROW.out.size
  rw [size_alloc'] at hgs
  have hbT := below_alloc w2 (.cells #[.string f.name, .slice sa f.scopes.length scap, .int .i64 id] 83)
  have hob : (Value.slice (some ⟨w.heap.size + 1, 0, none⟩) l.length (l.length + 1)).ownBlock = some (w.heap.size + 1) := rfl
  have hkeep : ∀ k, k < w2.heap.size → k ≠ w.heap.size + 1 → w3.heap[k]? = w2.heap[k]? := fun k hk hne => (HGROW.out.block k (by rw [size_alloc']; omega) (by rw [hob]; intro e; exact hne (Option.some.inj e))).trans (hbT.block k hk)
  have hg1 : w.heap.size + 1 ≤ gg := by
    rcases HAT.out with h | h
    · rw [hob] at h; exact Nat.le_of_eq (Option.some.inj h)
    · omega
  have HX3 : Hid (FormBox w3 w.heap.size f sa scap a cap) := by
    have hbb := hkeep w.heap.size (by omega) (by omega)
    exact ⟨(World.cell?_of_block (a := ⟨w.heap.size, 0, none⟩) hbb).trans s0, (World.cell?_of_block (a := ⟨w.heap.size, 1, none⟩) hbb).trans s1, (World.cell?_of_block (a := ⟨w.heap.size, 2, none⟩) hbb).trans s2, (World.cell?_of_block (a := ⟨w.heap.size, 3, none⟩) hbb).trans s3, (World.cell?_of_block (a := ⟨w.heap.size, 4, none⟩) hbb).trans s4⟩
  have HB03 : Hid (Below w.heap.size w w3) := (HB02.out.trans (hbT.mono (by omega))).grown HGROW.out (by simp; omega) (fun k hk => by rw [hob] at hk; have := Option.some.inj hk; omega)
  have hsame3 : ∀ k, k < w.heap.size → w3.heap[k]? = w2.heap[k]? := fun k hk => hkeep k (by omega) (by omega)
  obtain ⟨L, hL⟩ : ∃ L, l ++ [(⟨f.name, f.scopes, id⟩ : Bd)] = L := ⟨_, rfl⟩
  have hLl : L.length = l.length + 1 := by rw [← hL]; simp
  have HV3 : Hid (BdVals (· < w.heap.size) w3 L (xs ++ [.string f.name, .slice sa f.scopes.length scap, .int .i64 id])) := by
    rw [← hL]
    exact BdVals.snoc (x := ⟨f.name, f.scopes, id⟩) (HINT2.out.later hsame3) (HXV2.out.keep hsame3 fun k hk => hk)
  have HAT3 : Hid (∀ i, (h : i < L.length) → BdAt (· < w.heap.size) w3 gg (i * 3) L[i]) := fun i hi => by
    have := BdVals.row (b := gg) (off := 0) HV3.out (fun j u hj => by
      have := HOWN3.out.cells (g := gg) rfl j u hj
      unfold Addr.add at this
      split at this <;> simp_all) i hi
    rw [Nat.zero_add] at this
    exact this
  have HFR3 : Hid (∀ i, w3.frozen? ⟨gg, i, none⟩ = false) := fun i => frozen_at HOWN3.out i
  have HLW : Hid (∀ x ∈ L, x.wf) := by rw [← hL]; exact HWFN.out
  have HLS : Hid (∀ x ∈ L, x.scopes.length ≤ 1048576) := by rw [← hL]; exact HSCN.out
  have HCAP3 : Hid (l.length + 1 ≤ qcap ∧ qcap ≤ maxLen) := by
    rcases HOWN3.out.2 with ⟨h, _⟩ | ⟨g, cp, _, h, _, _, h1, h2, _⟩
    · cases h
    · injection h with _ _ h3
      subst h3
      exact ⟨h1, h2⟩
  have HLE := Lib.hid hL
  obtain ⟨s0, s1, s2, s3, s4⟩ := HX3.out
  clear HX2 HXV2 HINT2 HGROW HAT HOWN3 HV3 hown2 hob hkeep hsame3 hbT hL HWFN HSCN
  unfold Halt
  go_wp2_with fail
  refine (isName_any w.heap.size f _ w3 (by omega) (InV.later (same_below HB03.out) _ _ HF.out)).mono ?_
  rintro e w4 ⟨rfl, hb4⟩
  have hs4 := hb4.size
  have HB4 := Lib.hid hb4
  have HB04 : Hid (Below w.heap.size w w4) := HB03.out.trans (hb4.mono (by omega))
  clear hb4 s0 s1 s2 s3 s4 HX3
  cases hnm : isNameB f with
  | false =>
    obtain ⟨rfl, rfl⟩ : ok = false ∧ R = [] := by
      have h1 : ok = false := by rw [← HOK.out, addB_eq, hnm]; rfl
      refine ⟨h1, ?_⟩
      rw [← HR.out, h1]; rfl
    go_wp2_with fail
    go_ret2
    exact ⟨none, 0, [], rfl, ⟨none, 0, rfl, Nat.le_refl _, Nat.zero_le _, fun x hx => (by cases hx), .inl ⟨rfl, rfl⟩⟩, NewBs.nil _ _, HB04.out⟩
  | true =>
    go_wp2_with fail
    rw [← hLl]
    refine (implBindsValid_any w4.heap.size L _ w4 (Nat.le_refl _) ⟨_, qcap, rfl, by rw [hLl]; exact HCAP3.out.1, HCAP3.out.2, HLW.out, .inr ⟨gg, 0, rfl, by omega, fun i hi => by
      obtain ⟨sb, sbcap, c0, c1, c2, hr⟩ := HAT3.out i hi
      rw [Nat.zero_add]
      exact ⟨sb, sbcap, cell_later' HB4.out c0, cell_later' HB4.out c1, cell_later' HB4.out c2, (hr.later (Same.of_below HB4.out fun k (hk : k < w.heap.size) => (by omega))).mono fun k (hk : k < w.heap.size) => (by omega)⟩⟩⟩).mono ?_
    rintro e w5 ⟨rfl, hb5⟩
    have hs5 := hb5.size
    have hb35 : Below w3.heap.size w3 w5 := HB4.out.trans (hb5.mono (by omega))
    have HB05 : Hid (Below w.heap.size w w5) := HB04.out.trans (hb5.mono (by omega))
    have HC0 : Hid (CloneB w w5 gg L 0 w5.heap.size []) := ⟨HB05.out, rfl, fun i _ hi => by
      obtain ⟨sb, sbcap, c0, c1, c2, hr⟩ := HAT3.out i hi
      exact ⟨sb, sbcap, cell_later' hb35 c0, cell_later' hb35 c1, cell_later' hb35 c2, hr.later (Same.of_below hb35 fun k (hk : k < w.heap.size) => (by omega))⟩, fun i => (hb35.frozen (p := ⟨gg, i, none⟩) (by omega)).trans (HFR3.out i), NewBs.nil _ _, by omega, by omega, Nat.le_refl _⟩
    clear hb5 hb35 HAT3 HFR3 HB4 HB04 HB03
    cases hbd : bindsB L with
    | false =>
      obtain ⟨rfl, rfl⟩ : ok = false ∧ R = [] := by
        have h1 : ok = false := by rw [← HOK.out, addB_eq, HLE.out, hbd, Bool.and_false]
        refine ⟨h1, ?_⟩
        rw [← HR.out, h1]; rfl
      go_wp2_with fail
      go_ret2
      exact ⟨none, 0, [], rfl, ⟨none, 0, rfl, Nat.le_refl _, Nat.zero_le _, fun x hx => (by cases hx), .inl ⟨rfl, rfl⟩⟩, NewBs.nil _ _, HB05.out⟩
    | true =>
      obtain ⟨rfl, rfl⟩ : ok = true ∧ L = R := by
        have h1 : ok = true := by rw [← HOK.out, addB_eq, HLE.out, hbd, hnm]; rfl
        refine ⟨h1, ?_⟩
        rw [← HR.out, h1, if_pos rfl, HLE.out]
      obtain ⟨S, hS⟩ : ∃ S, w5.heap.size = S := ⟨_, rfl⟩
      rw [hS] at HC0
      clear hnm hbd hS
      go_wp2_with fail
      go_loopw [9, 38] (fun _ k wr => ∃ (j : Nat) (bs : List Nat), k = .int .i64 j ∧ j ≤ L.length ∧ CloneB w wr gg L j S bs) (fun _ k _ => L.length - (intOf k).toNat)
      case atStart => exact ⟨0, [], rfl, Nat.zero_le _, HC0.out⟩
      case round =>
        obtain ⟨j, bs, rfl, hj, hcl⟩ := hrel
        have HC := Lib.hid hcl
        clear hcl
        by_cases hlt : j < L.length
        · obtain ⟨sb, sbcap, c0, c1, c2, hr⟩ := HC.out.rest j (Nat.le_refl _) hlt
          obtain ⟨fx1, fx2, fx3⟩ := HC.out.fix
          obtain ⟨x, hx⟩ : ∃ x, L[j] = x := ⟨_, rfl⟩
          rw [hx] at c0 c1 c2 hr
          have HXE := Lib.hid hx
          have HRX := Lib.hid hr
          have hxl : x.scopes.length ≤ 1048576 := by rw [← hx]; exact HLS.out _ (List.getElem_mem hlt)
          have hjI : (j : Int) < (L.length : Int) := by omega
          have hj0 : (0 : Int) ≤ (j : Int) := by omega
          have hfz := HC.out.free (j * 3 + 1)
          clear hr hx
          go_wp2_with (at_builtin; refine wpList_append_clone rfl _ _ 23 3 rfl l0 Try.underlying23 hl0 hlz0 hlz1 hlz2 x.scopes sb sbcap (· < w.heap.size) rfl rfl HRX.out hxl ?_; intro sx sxcap bsx wx hgx hix hnx; have HGX := Lib.hid hgx; have HIX := Lib.hid hix; have HNX := Lib.hid hnx; clear hgx hix hnx; refine halt_of ?_)
          have hbk : wx.heap[gg]? = wr.heap[gg]? := HGX.out.block gg (by omega) (by simp)
          have c1' : wx.cell? ⟨gg, j * 3 + 1, none⟩ = some (.slice sb x.scopes.length sbcap) := (World.cell?_of_block (a := ⟨gg, j * 3 + 1, none⟩) hbk).trans c1
          have f1' : wx.frozen? ⟨gg, j * 3 + 1, none⟩ = false := (World.frozen?_of_block (a := ⟨gg, j * 3 + 1, none⟩) hbk).trans hfz
          unfold Halt
          clear hbk
          go_wp2_with fail
          go_roundw
          case rel => exact ⟨j + 1, bs ++ bsx, by go_num, by omega, by
            have := HC.out.step (W1 := wx) (bs' := bsx) (sa := sx) (scap := sxcap) hlt HGX.out (by rw [HXE.out]; exact HIX.out) HNX.out
            rw [HXE.out] at this
            exact this⟩
          case measure => simp [intOf]; omega
        · obtain rfl : j = L.length := by omega
          have hrow := HC.out.row
          rw [List.take_length] at hrow
          obtain ⟨fx1, fx2, fx3⟩ := HC.out.fix
          have HROW := Lib.hid hrow
          clear hrow
          go_wp2_with fail
          go_ret2
          exact ⟨some ⟨gg, 0, none⟩, qcap, gg :: bs, by rw [hLl]; rfl, ⟨_, qcap, rfl, by rw [hLl]; exact HCAP3.out.1, HCAP3.out.2, HLW.out, .inr ⟨gg, 0, bs, rfl, rfl, HROW.out⟩⟩, (HC.out.news.mono (by omega) (Nat.le_refl _)).cons (by omega) (by omega), HC.out.below⟩
end Go.Proofs.Ytbmpgfojhoganaa
