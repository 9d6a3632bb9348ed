/- The contracts of FreeOf, both sides. -/
import Derived.Test.YtlmplfpdmelcjaaBoxC
import Derived.Test.YtlmplfpdmelcjaaSpecIn
import Derived.Test.YtlmplfpdmelcjaaNameAdd
namespace Go.Proofs.Ytlmplfpdmelcjaa
open Go.RowKit
set_option linter.unusedVariables false
set_option linter.unusedSimpArgs false
/-- the free names of a core program, each once -/
def addC (out : List ByteArray) (g : Ck) : List ByteArray := if (g.kind == 2 && !inB out g.name) = true then out ++ [g.name] else out
def freeF (out : List ByteArray) (V : List Ck) : List ByteArray := V.foldl addC out
theorem freeF_append (out : List ByteArray) (V W : List Ck) : freeF out (V ++ W) = freeF (freeF out V) W := List.foldl_append ..
theorem addC_length (out : List ByteArray) (g : Ck) : (addC out g).length ≤ out.length + 1 := by
  unfold addC
  split
  · simp
  · omega
theorem freeF_length : ∀ (V : List Ck) (out : List ByteArray), (freeF out V).length ≤ out.length + V.length
  | [], out => by simp [freeF]
  | g :: V, out => by
    have h1 := addC_length out g
    have h2 := freeF_length V (addC out g)
    unfold freeF at h2 ⊢
    simp only [List.foldl_cons, List.length_cons]
    omega
theorem preCs_append : ∀ (l m : List Ck), preCs (l ++ m) = preCs l ++ preCs m
  | [], m => by simp [preCs]
  | x :: r, m => by simp only [List.cons_append, preCs, preCs_append r m, List.append_assoc]
theorem preCs_take_succ (ks : List Ck) (j : Nat) (h : j < ks.length) : preCs (ks.take (j + 1)) = preCs (ks.take j) ++ ks[j].pre := by
  rw [List.take_succ_eq_append_getElem h, preCs_append]; simp [preCs]
theorem szCs_le_sz (f : Ck) : szCs f.kids ≤ f.sz := by have := f.sz_eq; omega
theorem Ck.kid_szm {f g : Ck} (h : g ∈ f.kids) : g.sz ≤ f.sz := by
  obtain ⟨i, hi, rfl⟩ := List.getElem_of_mem h
  have h1 := f.sz_eq
  have h2 := szCs_get f.kids i hi
  omega
set_option maxRecDepth 100000 in
set_option maxHeartbeats 1000000 in
theorem l6Free_any (B : Nat) (f : Ck) : ∀ (out : List ByteArray) (vo v : Value) (base : Nat) (w : World), B ≤ base → base ≤ w.heap.size → w.ownsRow base 9 1 vo out.length (out.map Value.string) → InC (· < B) w f v → f.sz ≤ 1048576 → out.length + f.count ≤ 4194304 →
    Calls Try.prog 117 #[vo, v] w fun e w' => ∃ v', e = .returned v' ∧ w'.ownsRow base 9 1 v' (freeF out f.pre).length ((freeF out f.pre).map Value.string) ∧ w.grownBy w' vo.ownBlock ∧ (∀ q, v'.ownBlock = some q → w.heap.size ≤ q ∨ vo.ownBlock = some q) := by
  induction f using Ck.ind with
  | h k id nm n ids d ks ih =>
    intro out vo v base w hB hbase ho hv hsz hcnt
    have hszk := szCs_le_sz (Ck.mk k id nm n ids d ks)
    simp only [Ck.kids] at hszk
    have hszl := szCs_length ks
    have hklen : ks.length ≤ 1048576 := by omega
    have HSK : Hid (∀ g ∈ ks, g.sz ≤ 1048576) := fun g hg => Nat.le_trans (Ck.kid_szm (f := Ck.mk k id nm n ids d ks) hg) hsz
    have hcnt2 : out.length + countCs ks + 1 ≤ 4194304 := by simp only [Ck.count] at hcnt; omega
    unfold InC at hv
    obtain ⟨i1, j1, s1, t1, k1, l1, a, cap, rfl, _, _, _, hnm, hvs, hdt, hcap, hmax, hks⟩ := hv
    unfold maxLen at hmax
    obtain ⟨i0, hi0, hz0, hz1, hz2⟩ := info_parts Try.infoStr
    have HO := Lib.hid ho
    have HLT : Hid (∀ q, vo.ownBlock = some q → base ≤ q ∧ q < w.heap.size) := ho.lt
    have HIH := Lib.hid ih
    have HKS := Lib.hid hks
    clear hszl hvs hdt ho ih hks hcnt hsz hszk
    go_enter Try.func117, Try.ntmps117
    have hg0 : w.grownBy (w.alloc (.cells #[.int .i64 k, .int .i64 id, .string nm, .int .i64 n, .slice i1 ids.length j1, .int .i64 d.kind, .string d.name, .int .i64 d.n, .slice s1 d.scopes.length t1, .slice k1 d.kids.length l1, .slice a ks.length cap] 79)) vo.ownBlock := World.grownBy_alloc w _ _
    have HO1 : Hid ((w.alloc (.cells #[.int .i64 k, .int .i64 id, .string nm, .int .i64 n, .slice i1 ids.length j1, .int .i64 d.kind, .string d.name, .int .i64 d.n, .slice s1 d.scopes.length t1, .slice k1 d.kids.length l1, .slice a ks.length cap] 79)).ownsRow base 9 1 vo out.length (out.map Value.string)) := HO.out.kept (World.grownBy_alloc w _ none) (by cases vo.ownBlock with | none => exact .inl rfl | some q => exact .inr (by simp))
    have HG0 := Lib.hid hg0
    clear hg0
    by_cases hk : k = 2
    · subst hk
      cases hin : inB out nm with
      | true =>
        have HAD : Hid (addC out (Ck.mk 2 id nm n ids d ks) = out) := by unfold Hid addC; simp only [Ck.kind, Ck.name, hin]; rfl
        have HIB := Lib.hid hin
        clear hin
        go_wp2_with fail
        refine (l1In_any out _ nm _ (strRow_of HO1.out)).mono ?_
        rintro e w1 ⟨rfl, rfl⟩
        rw [HIB.out]
        go_wp2_with fail
        go_loopw [0, 5] (fun o i wr => ∃ j : Nat, j ≤ ks.length ∧ i = .int .i64 j ∧ wr.ownsRow base 9 1 o (freeF out (preCs (ks.take j))).length ((freeF out (preCs (ks.take j))).map Value.string) ∧
            w.grownBy wr vo.ownBlock ∧ (∀ q, o.ownBlock = some q → w.heap.size + 1 ≤ q ∨ vo.ownBlock = some q) ∧ w.heap.size < wr.heap.size ∧ wr.cell? ⟨w.heap.size, 10, none⟩ = some (.slice a ks.length cap)) (fun _ i _ => ks.length - (intOf i).toNat)
        case atStart => exact ⟨0, Nat.zero_le _, rfl, HO1.out, HG0.out, fun q h => .inr h, by simp, World.cell?_alloc_at _ _ _ _ rfl⟩
        case round =>
          skip
          obtain ⟨j, hj, rfl, hr, hg, hq, hsz, hc4⟩ := hrel
          have HR := Lib.hid hr
          have HG := Lib.hid hg
          have HQ := Lib.hid hq
          have HBL : Hid (Below base w wr) := below_of_grown hg hbase (fun q h => (HLT.out q h).1)
          have HCN : Hid ((freeF out (preCs (ks.take j))).length ≤ out.length + 1 + countCs (ks.take j)) := by
            have h1 := freeF_length (preCs (ks.take j)) (out)
            have h2 := preCs_length (ks.take j)
            have h3 : (out).length ≤ out.length + 1 := by first | omega | (simp)
            unfold Hid; omega
          clear hr hg hq
          by_cases hlt : j < ks.length
          · rcases HKS.out with h0 | ⟨b, off, rfl, hbB, hrow⟩
            · exfalso; rw [h0] at hlt; simp at hlt
            · obtain ⟨c0, c1, c2, c3, c4, c5, c6, c7, c8, c9, c10, h0, h1, h2, h3, h4, h5, h6, h7, h8, h9, h10, hin⟩ := (hrow.later (same_below (HBL.out.mono hB)) b hbB).at j hlt
              have HIN := Lib.hid hin
              have HPS : Hid (freeF out (preCs (ks.take (j + 1))) = freeF (freeF out (preCs (ks.take j))) ks[j].pre) := by
                unfold Hid
                rw [preCs_take_succ ks j hlt, freeF_append]
              have HCT := Lib.hid (countCs_take_succ ks j hlt)
              have HCL := Lib.hid (countCs_take_le ks (j + 1))
              have hbw : base ≤ wr.heap.size := by omega
              clear hin hrow
              go_wp2_with fail
              refine (HIH.out ks[j] (List.getElem_mem hlt) _ _ _ base wr hB hbw HR.out HIN.out (HSK.out _ (List.getElem_mem hlt)) (by have h1_ := HCN.out; have h2_ := HCT.out; have h3_ := HCL.out; omega)).mono ?_
              rintro e w1 ⟨v1, rfl, hr1, hg1, hq1⟩
              rw [← HPS.out] at hr1
              have HR1 := Lib.hid hr1
              have hd4 := hg1.cell hc4 (by intro h; have h5 := HQ.out w.heap.size h.symm; exact h5.elim (fun h6 => by omega) (fun h6 => by have := (HLT.out _ h6).2; omega))
              have hs1 := hg1.size
              have HG1 : Hid (w.grownBy w1 vo.ownBlock) := HG.out.andThen hg1 (fun q h => (HQ.out q h).elim (fun h5 => .inl (by omega)) (fun h5 => .inr h5))
              have HQ1 : Hid (∀ q, v1.ownBlock = some q → w.heap.size + 1 ≤ q ∨ vo.ownBlock = some q) := fun q h => by
                rcases hq1 q h with h5 | h5
                · exact .inl (by omega)
                · exact HQ.out q h5
              clear hr1 hg1 hq1 hc4 h0 h1 h2 h3 h4 h5 h6 h7 h8 h9 h10
              go_wp2_with fail
              go_roundw
              case rel => exact ⟨j + 1, by omega, by go_num, HR1.out, HG1.out, HQ1.out, by omega, hd4⟩
              case measure => simp [intOf]; omega
          · obtain rfl : j = ks.length := by omega
            rw [List.take_length] at HR
            have HE : Hid (freeF out (Ck.mk 2 id nm n ids d ks).pre = freeF out (preCs ks)) := by
              unfold Hid
              rw [Ck.pre_eq]
              show freeF (addC out (Ck.mk 2 id nm n ids d ks)) (preCs ks) = _
              rw [HAD.out]
            go_wp2_with fail
            go_ret
            rw [HE.out]
            exact ⟨_, rfl, HR.out, HG.out, fun q h => (HQ.out q h).elim (fun h5 => .inl (by omega)) (fun h5 => .inr h5)⟩
      | false =>
        have HAD : Hid (addC out (Ck.mk 2 id nm n ids d ks) = out ++ [nm]) := by unfold Hid addC; simp only [Ck.kind, Ck.name, hin]; rfl
        have HIB := Lib.hid hin
        clear hin
        go_wp2_with fail
        refine (l1In_any out _ nm _ (strRow_of HO1.out)).mono ?_
        rintro e w1 ⟨rfl, rfl⟩
        rw [HIB.out]
        have hL1 : out.length + 1 ≤ maxLen := by unfold maxLen; omega
        have hL2 : (out.length + 1) * 16 ≤ 140737488355328 := by omega
        have hne : some w.heap.size ≠ vo.ownBlock := fun h => by have := (HLT.out _ h.symm).2; omega
        go_wp2_with (at_builtin; refine wpList_append_lies _ rfl _ _ 85 rfl base 9 i0 _ 1 16 Try.underlying85 hi0 hz0 hz1 hz2 rfl (by decide) _ out.length (out.map Value.string) rfl (HO1.out.alloc _) ⟨w.heap.size + 1, 0, none⟩ 1 1 [.string nm] rfl rfl (World.news_of_block (cs := #[.string nm]) (t := 9) (fr := (0, 0)) (by have := heap_alloc_new (w.alloc (.cells #[.int .i64 2, .int .i64 id, .string nm, .int .i64 n, .slice i1 ids.length j1, .int .i64 d.kind, .string d.name, .int .i64 d.n, .slice s1 d.scopes.length t1, .slice k1 d.kids.length l1, .slice a ks.length cap] 79)) (.cells #[.string nm] 9); rw [size_alloc'] at this; exact this)) (by simp [Value.oneCell']) (by omega) hL1 hL2 (by simp; omega) (w.heap.size + 2) (by simp) ?_; intro gq qd w3 hown3 hgrow hat hlt4; have HOWN3 := Lib.hid hown3; have HGROW := Lib.hid hgrow; have HAT := Lib.hid hat; clear hown3 hgrow hat)
        have HG3 : Hid (w.grownBy w3 vo.ownBlock) := ((World.grownBy_alloc w _ vo.ownBlock).trans (World.grownBy_alloc _ _ vo.ownBlock)).trans HGROW.out
        have HQ3 : Hid (∀ q, (Value.slice (some ⟨gq, 0, none⟩) (out.length + 1) qd).ownBlock = some q → w.heap.size + 1 ≤ q ∨ vo.ownBlock = some q) := fun q h => by
          have h2 : some gq = some q := h
          injection h2 with h2
          subst h2
          exact HAT.out.elim (fun h3 => .inr h3) (fun h3 => .inl (by omega))
        have HS3 : Hid (w.heap.size < w3.heap.size) := by have := HGROW.out.size; simp at this; unfold Hid; omega
        have HC3 : Hid (w3.cell? ⟨w.heap.size, 10, none⟩ = some (.slice a ks.length cap)) := HGROW.out.cell (cell_later' (below_alloc _ _) (World.cell?_alloc_at _ _ _ _ rfl)) hne
        have HR3 : Hid (w3.ownsRow base 9 1 (.slice (some ⟨gq, 0, none⟩) (out.length + 1) qd) (freeF (out ++ [nm]) (preCs (ks.take 0))).length ((freeF (out ++ [nm]) (preCs (ks.take 0))).map Value.string)) := by
          have := HOWN3.out
          unfold Hid
          simpa [freeF, preCs] using this
        clear hne hlt4
        go_loopw [0, 5] (fun o i wr => ∃ j : Nat, j ≤ ks.length ∧ i = .int .i64 j ∧ wr.ownsRow base 9 1 o (freeF (out ++ [nm]) (preCs (ks.take j))).length ((freeF (out ++ [nm]) (preCs (ks.take j))).map Value.string) ∧
            w.grownBy wr vo.ownBlock ∧ (∀ q, o.ownBlock = some q → w.heap.size + 1 ≤ q ∨ vo.ownBlock = some q) ∧ w.heap.size < wr.heap.size ∧ wr.cell? ⟨w.heap.size, 10, none⟩ = some (.slice a ks.length cap)) (fun _ i _ => ks.length - (intOf i).toNat)
        case atStart => exact ⟨0, Nat.zero_le _, rfl, HR3.out, HG3.out, HQ3.out, HS3.out, HC3.out⟩
        case round =>
          skip
          obtain ⟨j, hj, rfl, hr, hg, hq, hsz, hc4⟩ := hrel
          have HR := Lib.hid hr
          have HG := Lib.hid hg
          have HQ := Lib.hid hq
          have HBL : Hid (Below base w wr) := below_of_grown hg hbase (fun q h => (HLT.out q h).1)
          have HCN : Hid ((freeF (out ++ [nm]) (preCs (ks.take j))).length ≤ out.length + 1 + countCs (ks.take j)) := by
            have h1 := freeF_length (preCs (ks.take j)) ((out ++ [nm]))
            have h2 := preCs_length (ks.take j)
            have h3 : ((out ++ [nm])).length ≤ out.length + 1 := by first | omega | (simp)
            unfold Hid; omega
          clear hr hg hq
          by_cases hlt : j < ks.length
          · rcases HKS.out with h0 | ⟨b, off, rfl, hbB, hrow⟩
            · exfalso; rw [h0] at hlt; simp at hlt
            · obtain ⟨c0, c1, c2, c3, c4, c5, c6, c7, c8, c9, c10, h0, h1, h2, h3, h4, h5, h6, h7, h8, h9, h10, hin⟩ := (hrow.later (same_below (HBL.out.mono hB)) b hbB).at j hlt
              have HIN := Lib.hid hin
              have HPS : Hid (freeF (out ++ [nm]) (preCs (ks.take (j + 1))) = freeF (freeF (out ++ [nm]) (preCs (ks.take j))) ks[j].pre) := by
                unfold Hid
                rw [preCs_take_succ ks j hlt, freeF_append]
              have HCT := Lib.hid (countCs_take_succ ks j hlt)
              have HCL := Lib.hid (countCs_take_le ks (j + 1))
              have hbw : base ≤ wr.heap.size := by omega
              clear hin hrow
              go_wp2_with fail
              refine (HIH.out ks[j] (List.getElem_mem hlt) _ _ _ base wr hB hbw HR.out HIN.out (HSK.out _ (List.getElem_mem hlt)) (by have h1_ := HCN.out; have h2_ := HCT.out; have h3_ := HCL.out; omega)).mono ?_
              rintro e w1 ⟨v1, rfl, hr1, hg1, hq1⟩
              rw [← HPS.out] at hr1
              have HR1 := Lib.hid hr1
              have hd4 := hg1.cell hc4 (by intro h; have h5 := HQ.out w.heap.size h.symm; exact h5.elim (fun h6 => by omega) (fun h6 => by have := (HLT.out _ h6).2; omega))
              have hs1 := hg1.size
              have HG1 : Hid (w.grownBy w1 vo.ownBlock) := HG.out.andThen hg1 (fun q h => (HQ.out q h).elim (fun h5 => .inl (by omega)) (fun h5 => .inr h5))
              have HQ1 : Hid (∀ q, v1.ownBlock = some q → w.heap.size + 1 ≤ q ∨ vo.ownBlock = some q) := fun q h => by
                rcases hq1 q h with h5 | h5
                · exact .inl (by omega)
                · exact HQ.out q h5
              clear hr1 hg1 hq1 hc4 h0 h1 h2 h3 h4 h5 h6 h7 h8 h9 h10
              go_wp2_with fail
              go_roundw
              case rel => exact ⟨j + 1, by omega, by go_num, HR1.out, HG1.out, HQ1.out, by omega, hd4⟩
              case measure => simp [intOf]; omega
          · obtain rfl : j = ks.length := by omega
            rw [List.take_length] at HR
            have HE : Hid (freeF out (Ck.mk 2 id nm n ids d ks).pre = freeF (out ++ [nm]) (preCs ks)) := by
              unfold Hid
              rw [Ck.pre_eq]
              show freeF (addC out (Ck.mk 2 id nm n ids d ks)) (preCs ks) = _
              rw [HAD.out]
            go_wp2_with fail
            go_ret
            rw [HE.out]
            exact ⟨_, rfl, HR.out, HG.out, fun q h => (HQ.out q h).elim (fun h5 => .inl (by omega)) (fun h5 => .inr h5)⟩
    · have hkb : (k == 2) = false := by rw [beq_eq_false_iff_ne]; exact hk
      have HAD : Hid (addC out (Ck.mk k id nm n ids d ks) = out) := by unfold Hid addC; simp only [Ck.kind, hkb]; rfl
      go_wp2_with fail
      go_loopw [0, 5] (fun o i wr => ∃ j : Nat, j ≤ ks.length ∧ i = .int .i64 j ∧ wr.ownsRow base 9 1 o (freeF out (preCs (ks.take j))).length ((freeF out (preCs (ks.take j))).map Value.string) ∧
          w.grownBy wr vo.ownBlock ∧ (∀ q, o.ownBlock = some q → w.heap.size + 1 ≤ q ∨ vo.ownBlock = some q) ∧ w.heap.size < wr.heap.size ∧ wr.cell? ⟨w.heap.size, 10, none⟩ = some (.slice a ks.length cap)) (fun _ i _ => ks.length - (intOf i).toNat)
      case atStart => exact ⟨0, Nat.zero_le _, rfl, HO1.out, HG0.out, fun q h => .inr h, by simp, World.cell?_alloc_at _ _ _ _ rfl⟩
      case round =>
        skip
        obtain ⟨j, hj, rfl, hr, hg, hq, hsz, hc4⟩ := hrel
        have HR := Lib.hid hr
        have HG := Lib.hid hg
        have HQ := Lib.hid hq
        have HBL : Hid (Below base w wr) := below_of_grown hg hbase (fun q h => (HLT.out q h).1)
        have HCN : Hid ((freeF out (preCs (ks.take j))).length ≤ out.length + 1 + countCs (ks.take j)) := by
          have h1 := freeF_length (preCs (ks.take j)) (out)
          have h2 := preCs_length (ks.take j)
          have h3 : (out).length ≤ out.length + 1 := by first | omega | (simp)
          unfold Hid; omega
        clear hr hg hq
        by_cases hlt : j < ks.length
        · rcases HKS.out with h0 | ⟨b, off, rfl, hbB, hrow⟩
          · exfalso; rw [h0] at hlt; simp at hlt
          · obtain ⟨c0, c1, c2, c3, c4, c5, c6, c7, c8, c9, c10, h0, h1, h2, h3, h4, h5, h6, h7, h8, h9, h10, hin⟩ := (hrow.later (same_below (HBL.out.mono hB)) b hbB).at j hlt
            have HIN := Lib.hid hin
            have HPS : Hid (freeF out (preCs (ks.take (j + 1))) = freeF (freeF out (preCs (ks.take j))) ks[j].pre) := by
              unfold Hid
              rw [preCs_take_succ ks j hlt, freeF_append]
            have HCT := Lib.hid (countCs_take_succ ks j hlt)
            have HCL := Lib.hid (countCs_take_le ks (j + 1))
            have hbw : base ≤ wr.heap.size := by omega
            clear hin hrow
            go_wp2_with fail
            refine (HIH.out ks[j] (List.getElem_mem hlt) _ _ _ base wr hB hbw HR.out HIN.out (HSK.out _ (List.getElem_mem hlt)) (by have h1_ := HCN.out; have h2_ := HCT.out; have h3_ := HCL.out; omega)).mono ?_
            rintro e w1 ⟨v1, rfl, hr1, hg1, hq1⟩
            rw [← HPS.out] at hr1
            have HR1 := Lib.hid hr1
            have hd4 := hg1.cell hc4 (by intro h; have h5 := HQ.out w.heap.size h.symm; exact h5.elim (fun h6 => by omega) (fun h6 => by have := (HLT.out _ h6).2; omega))
            have hs1 := hg1.size
            have HG1 : Hid (w.grownBy w1 vo.ownBlock) := HG.out.andThen hg1 (fun q h => (HQ.out q h).elim (fun h5 => .inl (by omega)) (fun h5 => .inr h5))
            have HQ1 : Hid (∀ q, v1.ownBlock = some q → w.heap.size + 1 ≤ q ∨ vo.ownBlock = some q) := fun q h => by
              rcases hq1 q h with h5 | h5
              · exact .inl (by omega)
              · exact HQ.out q h5
            clear hr1 hg1 hq1 hc4 h0 h1 h2 h3 h4 h5 h6 h7 h8 h9 h10
            go_wp2_with fail
            go_roundw
            case rel => exact ⟨j + 1, by omega, by go_num, HR1.out, HG1.out, HQ1.out, by omega, hd4⟩
            case measure => simp [intOf]; omega
        · obtain rfl : j = ks.length := by omega
          rw [List.take_length] at HR
          have HE : Hid (freeF out (Ck.mk k id nm n ids d ks).pre = freeF out (preCs ks)) := by
            unfold Hid
            rw [Ck.pre_eq]
            show freeF (addC out (Ck.mk k id nm n ids d ks)) (preCs ks) = _
            rw [HAD.out]
          go_wp2_with fail
          go_ret
          rw [HE.out]
          exact ⟨_, rfl, HR.out, HG.out, fun q h => (HQ.out q h).elim (fun h5 => .inl (by omega)) (fun h5 => .inr h5)⟩
set_option maxRecDepth 100000 in
set_option maxHeartbeats 400000 in
theorem specFreeOf_any (B : Nat) (f : Ck) (v : Value) (w : World) (hB : B ≤ w.heap.size) (hv : InC (· < B) w f v) (hsz : f.sz ≤ 1048576) :
    Calls Try.prog 59 #[v] w fun e w' => ∃ a cap, e = .returned (.slice a (freeF [] f.pre).length cap) ∧ StrRow w' (.slice a (freeF [] f.pre).length cap) (freeF [] f.pre) ∧ Below w.heap.size w w' := by
  have HV := Lib.hid hv
  have hLc := f.count_le
  obtain ⟨i1, j1, s1, t1, k1, l1, a, cap, rfl, _⟩ := hv.form
  clear hv
  go_enter Try.func59, Try.ntmps59
  go_wp2_with fail
  have hbx : Below w.heap.size w ((w.alloc (.cells #[.int .i64 f.kind, .int .i64 f.id, .string f.name, .int .i64 f.n, .slice i1 f.ids.length j1, .int .i64 f.data.kind, .string f.data.name, .int .i64 f.data.n, .slice s1 f.data.scopes.length t1, .slice k1 f.data.kids.length l1, .slice a f.kids.length cap] 79)).alloc (.cells #[] 9)) := (below_alloc w _).alloc (by simp) _
  have hown : ((w.alloc (.cells #[.int .i64 f.kind, .int .i64 f.id, .string f.name, .int .i64 f.n, .slice i1 f.ids.length j1, .int .i64 f.data.kind, .string f.data.name, .int .i64 f.data.n, .slice s1 f.data.scopes.length t1, .slice k1 f.data.kids.length l1, .slice a f.kids.length cap] 79)).alloc (.cells #[] 9)).ownsRow w.heap.size 9 1 (.slice (some ⟨w.heap.size + 1, 0, none⟩) 0 0) ([] : List ByteArray).length (([] : List ByteArray).map Value.string) := by
    have := World.ownsRow_lit (base := w.heap.size) (e := 9) (size := 1) (w.alloc (.cells #[.int .i64 f.kind, .int .i64 f.id, .string f.name, .int .i64 f.n, .slice i1 f.ids.length j1, .int .i64 f.data.kind, .string f.data.name, .int .i64 f.data.n, .slice s1 f.data.scopes.length t1, .slice k1 f.data.kids.length l1, .slice a f.kids.length cap] 79)) #[] 0 (by simp) (by unfold maxLen; omega) (by simp)
    rw [size_alloc'] at this
    exact this
  have hlt := hown.lt
  refine (l6Free_any B f [] _ _ w.heap.size _ hB (by simp; omega) hown (InC.later (same_below (hbx.mono hB)) _ _ HV.out) hsz (by simp; omega)).mono ?_
  rintro e w3 ⟨v3, rfl, hr, hg, _⟩
  obtain ⟨a3, cap3, rfl, q1, q2, q3⟩ := strRow_of hr
  have HB3 : Hid (Below w.heap.size w w3) := hbx.trans (below_of_grown hg (by simp; omega) (fun q h => (hlt q h).1))
  have HR3 : Hid (StrRow w3 (.slice a3 (freeF [] f.pre).length cap3) (freeF [] f.pre)) := ⟨a3, cap3, rfl, q1, q2, q3⟩
  clear hr hg hlt hown hbx q1 q2 q3
  go_wp2_with fail
  go_ret
  exact ⟨a3, cap3, rfl, HR3.out, HB3.out⟩
/-- what the visit minds -/
def FreeI (base nb : Nat) (pre : List Ck) (E : Nat → Prop) (W : World) : Prop := NL base nb (freeF [] pre) E W
theorem addC_addS (L : List ByteArray) (g : Ck) (h : (g.kind == 2) = true) : addC L g = addS L g.name := by
  unfold addC addS
  rw [h]
  cases inB L g.name <;> rfl
theorem addC_not (L : List ByteArray) (g : Ck) (h : (g.kind == 2) = false) : addC L g = L := by
  unfold addC
  rw [h]
  rfl
theorem InC.name_size {φ : Nat → Prop} {w : World} {f : Ck} {v : Value} (h : InC φ w f v) : f.name.size ≤ maxLen := by
  obtain ⟨_, _, _, _, _, _, _, _, _, _, _, _, h, _⟩ := h.form
  exact h
open CoreT
set_option maxRecDepth 100000 in
set_option maxHeartbeats 1000000 in
theorem freeVisitor (B nb : Nat) : CoreT.Visitor (fun _ => True) B 118 #[.pointer (some ⟨nb, 0, none⟩)] (FreeI B nb) := by
  refine ⟨enters_of Try.func118 (by kernel_rfl) rfl, ?_, ?_⟩
  · rintro pre E W W' h _ _ _ _ hs
    exact NL.still h hs
  · rintro pre E x W hI hl _ hE hin
    have hnx := hin.name_size
    have hnb : nb < W.heap.size := by
      obtain ⟨pa, ca, mo, _, c0, _⟩ := hI
      exact cell_lt c0
    have hll : (freeF [] pre).length ≤ 1048577 := by have := freeF_length pre []; simp at this; omega
    have hb1 := below_alloc W (.cells #[.int .i64 x.f.kind, .int .i64 x.f.id, .string x.f.name, .int .i64 x.f.n, .slice x.i1 x.f.ids.length x.j1, .int .i64 x.f.data.kind, .string x.f.data.name, .int .i64 x.f.data.n, .slice x.s1 x.f.data.scopes.length x.t1, .slice x.k1 x.f.data.kids.length x.l1, .slice x.a x.f.kids.length x.cap] 79)
    have HI1 : Hid (NL B nb (freeF [] pre) E (W.alloc (.cells #[.int .i64 x.f.kind, .int .i64 x.f.id, .string x.f.name, .int .i64 x.f.n, .slice x.i1 x.f.ids.length x.j1, .int .i64 x.f.data.kind, .string x.f.data.name, .int .i64 x.f.data.n, .slice x.s1 x.f.data.scopes.length x.t1, .slice x.k1 x.f.data.kids.length x.l1, .slice x.a x.f.kids.length x.cap] 79))) := NL.still hI (fun k hk => hb1.block k (hE k hk).2)
    have HON : Hid (CoreT.OnlyE E W (W.alloc (.cells #[.int .i64 x.f.kind, .int .i64 x.f.id, .string x.f.name, .int .i64 x.f.n, .slice x.i1 x.f.ids.length x.j1, .int .i64 x.f.data.kind, .string x.f.data.name, .int .i64 x.f.data.n, .slice x.s1 x.f.data.scopes.length x.t1, .slice x.k1 x.f.data.kids.length x.l1, .slice x.a x.f.kids.length x.cap] 79))) := ⟨rfl, rfl, rfl, by simp, fun k hk _ => hb1.block k hk⟩
    have HE := Lib.hid hE
    have hbE : B ≤ nb := by
      obtain ⟨pa, ca, mo, _, _, _, _, _, _, _, _, _, h10⟩ := hI
      exact (hE nb ((h10 nb).2 (.inl rfl))).1
    clear hin hI hb1 hE
    unfold CItem.val
    show Calls Try.prog 118 #[.agg #[.int .i64 x.f.kind, .int .i64 x.f.id, .string x.f.name, .int .i64 x.f.n, .slice x.i1 x.f.ids.length x.j1, .int .i64 x.f.data.kind, .string x.f.data.name, .int .i64 x.f.data.n, .slice x.s1 x.f.data.scopes.length x.t1, .slice x.k1 x.f.data.kids.length x.l1, .slice x.a x.f.kids.length x.cap], .pointer (some ⟨nb, 0, none⟩)] W _
    go_enter Try.func118, Try.ntmps118
    cases hk : (x.f.kind == 2) with
    | false =>
      have HA : Hid (freeF [] (pre ++ [x.f]) = freeF [] pre) := by unfold Hid; rw [freeF_append]; exact addC_not _ _ hk
      go_wp2_with fail
      go_end0
      exact ⟨rfl, E, by unfold FreeI; rw [HA.out]; exact HI1.out, HON.out, fun k hk => ⟨.inl hk, by have := (HE.out k hk).2; simp; omega⟩⟩
    | true =>
      have HA : Hid (freeF [] (pre ++ [x.f]) = addS (freeF [] pre) x.f.name) := by unfold Hid; rw [freeF_append]; exact addC_addS _ _ hk
      go_wp2_with fail
      refine (add_any B nb (freeF [] pre) E x.f.name _ HI1.out (fun k hk => by have := HE.out k hk; simp; omega) (by simp; omega) hll hnx).mono ?_
      rintro e W2 ⟨rfl, E', h1, h2, h3⟩
      have HF : Hid (∃ E', NL B nb (freeF [] (pre ++ [x.f])) E' W2 ∧ CoreT.OnlyE E W W2 ∧ (∀ k, E' k → (E k ∨ W.heap.size ≤ k) ∧ k < W2.heap.size)) := by
        refine ⟨E', by rw [HA.out]; exact h1, ⟨h2.os, h2.tape, h2.output, by have := h2.size; simp at this; omega, fun k hk hn => (h2.block k (by simp; omega) hn).trans (HON.out.block k hk hn)⟩, fun k hk => ?_⟩
        have := h3 k hk
        rw [size_alloc'] at this
        refine ⟨?_, this.2⟩
        rcases this.1 with h | h
        · exact .inl h
        · exact .inr (by omega)
      clear h1 h2 h3
      go_wp2_with fail
      go_end0
      exact ⟨rfl, HF.out⟩
set_option maxRecDepth 100000 in
set_option maxHeartbeats 1000000 in
theorem implFreeOf_any (x : CItem) (w : World) (hv : InC (· < w.heap.size) w x.f x.val) (hsz : x.f.sz ≤ 1048576) (hend : FiniteAt x w) :
    Calls Try.prog 60 #[x.val] w fun e w' => ∃ pa ca bs, e = .returned (.slice pa (freeF [] x.f.pre).length ca) ∧ StrOwn w' (.slice pa (freeF [] x.f.pre).length ca) (freeF [] x.f.pre) bs ∧ NewBs bs w.heap.size w'.heap.size ∧ Below w.heap.size w w' := by
  have HV := Lib.hid hv
  have HEND := Lib.hid hend
  have hcf := x.f.count_le
  clear hv hend
  unfold CItem.val
  go_enter Try.func60, Try.ntmps60
  go_wp2_with fail
  obtain ⟨w4, hw4⟩ : ∃ w4, w4 = (w.alloc (.cells #[.int .i64 x.f.kind, .int .i64 x.f.id, .string x.f.name, .int .i64 x.f.n, .slice x.i1 x.f.ids.length x.j1, .int .i64 x.f.data.kind, .string x.f.data.name, .int .i64 x.f.data.n, .slice x.s1 x.f.data.scopes.length x.t1, .slice x.k1 x.f.data.kids.length x.l1, .slice x.a x.f.kids.length x.cap] 79)).alloc (.cells #[.slice none 0 0, .map none] 143) := ⟨_, rfl⟩
  rw [← hw4]
  have hs4 : w4.heap.size = w.heap.size + 2 := by rw [hw4]; simp
  have hb4 : Below w.heap.size w w4 := by rw [hw4]; exact (below_alloc w _).alloc (by simp) _
  have cab : w4.cell? ⟨w.heap.size + 1, 0, none⟩ = some (.slice none 0 0) := by rw [hw4]; exact World.cell?_alloc_at _ _ _ _ (by simp)
  have cmb : w4.cell? ⟨w.heap.size + 1, 1, none⟩ = some (.map none) := by rw [hw4]; exact World.cell?_alloc_at _ _ _ _ (by simp)
  have fab : w4.frozen? ⟨w.heap.size + 1, 0, none⟩ = false := by rw [hw4]; exact World.frozen?_alloc_at _ _ _ _ (by simp)
  have fmb : w4.frozen? ⟨w.heap.size + 1, 1, none⟩ = false := by rw [hw4]; exact World.frozen?_alloc_at _ _ _ _ (by simp)
  clear hw4
  refine (CoreT.visit_any (fun _ => True) (fun _ _ _ _ => trivial) w.heap.size _ _ _ (freeVisitor w.heap.size (w.heap.size + 1)) x (fun k => k = w.heap.size + 1) w4 (by omega) (fun k hk => by omega)
    ⟨none, 0, none, by simp [freeF], cab, cmb, fab, fmb, .inl ⟨rfl, rfl⟩, World.ownsRow_nil _ _ _ _, by simp, by simp [Value.ownBlock], fun k => by simp [Value.ownBlock]⟩ (InC.later (same_below hb4) _ _ HV.out) (by omega) (HEND.out.later hb4) trivial).mono ?_
  rintro e w3 ⟨rfl, E', hI, ho, hE'⟩
  obtain ⟨pa, ca, mo, hm, h1, h2, h3, h4, h5, h6, h7, h8, h9⟩ := hI
  have hbw3 : Below w.heap.size w w3 := ⟨ho.os.trans hb4.os, ho.tape.trans hb4.tape, ho.output.trans hb4.output, by have := ho.size; omega, fun k hk => (ho.block k (by omega) (by omega)).trans (hb4.block k hk)⟩
  have HOWN : Hid (∃ bs, StrOwn w3 (.slice pa (freeF [] x.f.pre).length ca) (freeF [] x.f.pre) bs ∧ NewBs bs w.heap.size w3.heap.size) := by
    obtain ⟨bs, q1, q2, q3⟩ := strOwn_of h6
    exact ⟨bs, q1, q3, fun c hc => by have h10 := hE' c ((h9 c).2 (.inr (.inr (q2 c hc)))); omega⟩
  have HB3 := Lib.hid hbw3
  clear hb4 cab fab cmb fmb hm h2 h3 h4 h5 h6 h7 h8 h9 ho hE' hbw3
  go_wp2_with fail
  go_ret
  obtain ⟨bs, q1, q2⟩ := HOWN.out
  exact ⟨pa, ca, bs, rfl, q1, q2, HB3.out⟩
end Go.Proofs.Ytlmplfpdmelcjaa
