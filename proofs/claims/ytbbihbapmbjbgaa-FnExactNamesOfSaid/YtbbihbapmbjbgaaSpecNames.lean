/- The contract of the model's NamesOf. -/
import Derived.Test.YtbbihbapmbjbgaaSlim
import Derived.Test.YtbbihbapmbjbgaaMids
import Derived.Maps.AppendAt
import Derived.Test.YtbbihbapmbjbgaaStrs
namespace Go.Proofs.Ytbbihbapmbjbgaa
open Go.RowKit
set_option linter.unusedVariables false
set_option linter.unusedSimpArgs false
set_option maxRecDepth 100000 in
set_option maxHeartbeats 400000 in
theorem l1In_any (l : List ByteArray) (v : Value) (s : ByteArray) (w : World) (hv : StrRow w v l) :
    Calls Try.prog 131 #[v, .string s] w fun e w' => e = .returned (.bool (inB l s)) ∧ w' = w := by
  obtain ⟨a, cap, rfl, hcap, hmax, hrow⟩ := hv
  unfold maxLen at hmax
  go_enter Try.func131, Try.ntmps131
  have HROW := Lib.hid hrow
  clear hrow
  go_wp2_with fail
  go_loop [5] (fun i => ∃ j : Nat, j ≤ l.length ∧ i = .int .i64 j ∧ inB (l.take j) s = false) (fun i => l.length - (intOf i).toNat)
  case atStart => exact ⟨0, Nat.zero_le _, rfl, by simp [inB]⟩
  case round =>
    obtain ⟨j, hj, rfl, hno⟩ := hrel
    by_cases hlt : j < l.length
    · rcases HROW.out with h0 | ⟨b, off, rfl, hcells⟩
      · exfalso; rw [h0] at hlt; simp at hlt
      · have hc := hcells j hlt
        have HNX := Lib.hid (inB_take_succ l s j hlt)
        have HNO := Lib.hid hno
        have HIN := Lib.hid (List.getElem_mem hlt)
        clear hcells hno
        cases hx : (l[j].toList == s.toList) with
        | true =>
          have HY : Hid (inB l s = true) := by unfold Hid inB; rw [List.any_eq_true]; exact ⟨l[j], HIN.out, hx⟩
          go_wp2_with fail
          go_ret
          exact ⟨ret_bool HY.out.symm, rfl⟩
        | false =>
          have HY : Hid (inB (l.take (j + 1)) s = false) := by unfold Hid; rw [HNX.out, HNO.out, hx]; rfl
          go_wp2_with fail
          go_round
          case rel => exact ⟨j + 1, by omega, by go_num, HY.out⟩
          case measure => simp [intOf]; omega
    · obtain rfl : j = l.length := by omega
      rw [List.take_length] at hno
      have HNO := Lib.hid hno
      clear hno
      go_wp2_with fail
      go_ret
      exact ⟨ret_bool HNO.out.symm, rfl⟩
set_option maxRecDepth 100000 in
set_option maxHeartbeats 1000000 in
theorem l1Names_any (B : Nat) (f : Fm) : ∀ (out : List ByteArray) (vo v : Value) (base : Nat) (w : World), B ≤ base → base ≤ w.heap.size → w.ownsRow base 9 1 vo out.length (out.map Value.string) → InV (· < B) w f v → f.sz ≤ 1048576 → out.length + f.count ≤ 4194304 →
    Calls Try.prog 95 #[vo, v] w fun e w' => ∃ v', e = .returned v' ∧ w'.ownsRow base 9 1 v' (namesF out f.pre).length ((namesF out f.pre).map Value.string) ∧ w.grownBy w' vo.ownBlock ∧ (∀ q, v'.ownBlock = some q → w.heap.size ≤ q ∨ vo.ownBlock = some q) := by
  induction f using Fm.ind with
  | h k nm n sc ks ih =>
    intro out vo v base w hB hbase ho hv hsz hcnt
    have hszk := (sz_scopes (Fm.mk k nm n sc ks)).2
    simp only [Fm.kids] at hszk
    have hklen : ks.length ≤ 1048576 := by omega
    have HSK : Hid (∀ g ∈ ks, g.sz ≤ 1048576) := fun g hg => Nat.le_trans (sz_kid (f := Fm.mk k nm n sc ks) hg) hsz
    have hcnt2 : out.length + countAll ks + 1 ≤ 4194304 := by simp only [Fm.count] at hcnt; omega
    unfold InV at hv
    obtain ⟨vs, a, cap, rfl, _, _, hnm, hvs, hcap, hmax, hks⟩ := hv
    unfold maxLen at hmax
    obtain ⟨vsa, vscap, rfl⟩ : ∃ vsa vscap, vs = .slice vsa sc.length vscap := by
      obtain ⟨a', cap', e, _⟩ := hvs
      exact ⟨a', cap', e⟩
    obtain ⟨i0, hi0, hz0, hz1, hz2⟩ := info_parts Try.infoStr
    have HO := Lib.hid ho
    have HLT : Hid (∀ q, vo.ownBlock = some q → base ≤ q ∧ q < w.heap.size) := ho.lt
    have HIH := Lib.hid ih
    have HKS := Lib.hid hks
    clear hvs ho ih hks hcnt hsz hszk
    go_enter Try.func95, Try.ntmps95
    have hg0 : w.grownBy (w.alloc (.cells #[.int .i64 k, .string nm, .int .i64 n, .slice vsa sc.length vscap, .slice a ks.length cap] 31)) vo.ownBlock := World.grownBy_alloc w _ _
    have HO1 : Hid ((w.alloc (.cells #[.int .i64 k, .string nm, .int .i64 n, .slice vsa sc.length vscap, .slice a ks.length cap] 31)).ownsRow base 9 1 vo out.length (out.map Value.string)) := HO.out.kept (World.grownBy_alloc w _ none) (by cases vo.ownBlock with | none => exact .inl rfl | some q => exact .inr (by simp))
    have HG0 := Lib.hid hg0
    clear hg0
    by_cases hk : k = 1
    · subst hk
      cases hin : inB out nm with
      | true =>
        have HAD : Hid (addN out (Fm.mk 1 nm n sc ks) = out) := by unfold Hid addN; simp only [Fm.kind, Fm.name, hin]; rfl
        have HIB := Lib.hid hin
        clear hin
        go_wp2_with fail
        refine (l1In_any out _ nm _ (strRow_of HO1.out)).mono ?_
        rintro e w1 ⟨rfl, rfl⟩
        rw [HIB.out]
        go_wp2_with fail
        go_loopw [0, 5] (fun o i wr => ∃ j : Nat, j ≤ ks.length ∧ i = .int .i64 j ∧ wr.ownsRow base 9 1 o (namesF out (preAll (ks.take j))).length ((namesF out (preAll (ks.take j))).map Value.string) ∧
            w.grownBy wr vo.ownBlock ∧ (∀ q, o.ownBlock = some q → w.heap.size + 1 ≤ q ∨ vo.ownBlock = some q) ∧ w.heap.size < wr.heap.size ∧ wr.cell? ⟨w.heap.size, 4, none⟩ = some (.slice a ks.length cap)) (fun _ i _ => ks.length - (intOf i).toNat)
        case atStart => exact ⟨0, Nat.zero_le _, rfl, HO1.out, HG0.out, fun q h => .inr h, by simp, World.cell?_alloc_at _ _ _ _ rfl⟩
        case round =>
          skip
          obtain ⟨j, hj, rfl, hr, hg, hq, hsz, hc4⟩ := hrel
          have HR := Lib.hid hr
          have HG := Lib.hid hg
          have HQ := Lib.hid hq
          have HBL : Hid (Below base w wr) := below_of_grown hg hbase (fun q h => (HLT.out q h).1)
          have HCN : Hid ((namesF out (preAll (ks.take j))).length ≤ out.length + 1 + countAll (ks.take j)) := by
            have h1 := namesF_length (preAll (ks.take j)) (out)
            have h2 := preAll_length (ks.take j)
            have h3 : (out).length ≤ out.length + 1 := by first | omega | (simp)
            unfold Hid; omega
          clear hr hg hq
          by_cases hlt : j < ks.length
          · rcases HKS.out with h0 | ⟨b, off, rfl, hbB, hrow⟩
            · exfalso; rw [h0] at hlt; simp at hlt
            · obtain ⟨c0, c1, c2, c3, c4, h0, h1, h2, h3, h4, hin⟩ := (hrow.later (same_below (HBL.out.mono hB)) b hbB).at j hlt
              have HIN := Lib.hid hin
              have HPS : Hid (namesF out (preAll (ks.take (j + 1))) = namesF (namesF out (preAll (ks.take j))) ks[j].pre) := by
                unfold Hid
                rw [preAll_take_succ ks j hlt, namesF_append]
              have HCT := Lib.hid (countAll_take_succ ks j hlt)
              have HCL := Lib.hid (countAll_take_le ks (j + 1))
              have hbw : base ≤ wr.heap.size := by omega
              clear hin hrow
              go_wp2_with fail
              refine (HIH.out ks[j] (List.getElem_mem hlt) _ _ _ base wr hB hbw HR.out HIN.out (HSK.out _ (List.getElem_mem hlt)) (by have h1 := HCN.out; have h2 := HCT.out; have h3 := HCL.out; omega)).mono ?_
              rintro e w1 ⟨v1, rfl, hr1, hg1, hq1⟩
              rw [← HPS.out] at hr1
              have HR1 := Lib.hid hr1
              have hd4 := hg1.cell hc4 (by intro h; have h5 := HQ.out w.heap.size h.symm; exact h5.elim (fun h6 => by omega) (fun h6 => by have := (HLT.out _ h6).2; omega))
              have hs1 := hg1.size
              have HG1 : Hid (w.grownBy w1 vo.ownBlock) := HG.out.andThen hg1 (fun q h => (HQ.out q h).elim (fun h5 => .inl (by omega)) (fun h5 => .inr h5))
              have HQ1 : Hid (∀ q, v1.ownBlock = some q → w.heap.size + 1 ≤ q ∨ vo.ownBlock = some q) := fun q h => by
                rcases hq1 q h with h5 | h5
                · exact .inl (by omega)
                · exact HQ.out q h5
              clear hr1 hg1 hq1 hc4 h0 h1 h2 h3 h4
              go_wp2_with fail
              go_roundw
              case rel => exact ⟨j + 1, by omega, by go_num, HR1.out, HG1.out, HQ1.out, by omega, hd4⟩
              case measure => simp [intOf]; omega
          · obtain rfl : j = ks.length := by omega
            rw [List.take_length] at HR
            have HE : Hid (namesF out (Fm.mk 1 nm n sc ks).pre = namesF out (preAll ks)) := by
              unfold Hid
              rw [pre_eq]
              show namesF (addN out (Fm.mk 1 nm n sc ks)) (preAll ks) = _
              rw [HAD.out]
            go_wp2_with fail
            go_ret
            rw [HE.out]
            exact ⟨_, rfl, HR.out, HG.out, fun q h => (HQ.out q h).elim (fun h5 => .inl (by omega)) (fun h5 => .inr h5)⟩
      | false =>
        have HAD : Hid (addN out (Fm.mk 1 nm n sc ks) = out ++ [nm]) := by unfold Hid addN; simp only [Fm.kind, Fm.name, hin]; rfl
        have HIB := Lib.hid hin
        clear hin
        go_wp2_with fail
        refine (l1In_any out _ nm _ (strRow_of HO1.out)).mono ?_
        rintro e w1 ⟨rfl, rfl⟩
        rw [HIB.out]
        have hL1 : out.length + 1 ≤ maxLen := by unfold maxLen; omega
        have hL2 : (out.length + 1) * 16 ≤ 140737488355328 := by omega
        have hne : some w.heap.size ≠ vo.ownBlock := fun h => by have := (HLT.out _ h.symm).2; omega
        go_wp2_with (at_builtin; refine wpList_append_lies _ rfl _ _ 68 rfl base 9 i0 _ 1 16 Try.underlying68 hi0 hz0 hz1 hz2 rfl (by decide) _ out.length (out.map Value.string) rfl (HO1.out.alloc _) ⟨w.heap.size + 1, 0, none⟩ 1 1 [.string nm] rfl rfl (World.news_of_block (cs := #[.string nm]) (t := 9) (fr := (0, 0)) (by have := heap_alloc_new (w.alloc (.cells #[.int .i64 1, .string nm, .int .i64 n, .slice vsa sc.length vscap, .slice a ks.length cap] 31)) (.cells #[.string nm] 9); rw [size_alloc'] at this; exact this)) (by simp [Value.oneCell']) (by omega) hL1 hL2 (by simp; omega) (w.heap.size + 2) (by simp) ?_; intro gq qd w3 hown3 hgrow hat hlt4; have HOWN3 := Lib.hid hown3; have HGROW := Lib.hid hgrow; have HAT := Lib.hid hat; clear hown3 hgrow hat)
        have HG3 : Hid (w.grownBy w3 vo.ownBlock) := ((World.grownBy_alloc w _ vo.ownBlock).trans (World.grownBy_alloc _ _ vo.ownBlock)).trans HGROW.out
        have HQ3 : Hid (∀ q, (Value.slice (some ⟨gq, 0, none⟩) (out.length + 1) qd).ownBlock = some q → w.heap.size + 1 ≤ q ∨ vo.ownBlock = some q) := fun q h => by
          have h2 : some gq = some q := h
          injection h2 with h2
          subst h2
          exact HAT.out.elim (fun h3 => .inr h3) (fun h3 => .inl (by omega))
        have HS3 : Hid (w.heap.size < w3.heap.size) := by have := HGROW.out.size; simp at this; unfold Hid; omega
        have HC3 : Hid (w3.cell? ⟨w.heap.size, 4, none⟩ = some (.slice a ks.length cap)) := HGROW.out.cell (cell_later' (below_alloc _ _) (World.cell?_alloc_at _ _ _ _ rfl)) hne
        have HR3 : Hid (w3.ownsRow base 9 1 (.slice (some ⟨gq, 0, none⟩) (out.length + 1) qd) (namesF (out ++ [nm]) (preAll (ks.take 0))).length ((namesF (out ++ [nm]) (preAll (ks.take 0))).map Value.string)) := by
          have := HOWN3.out
          unfold Hid
          simpa [namesF, preAll] using this
        clear hne hlt4
        go_loopw [0, 5] (fun o i wr => ∃ j : Nat, j ≤ ks.length ∧ i = .int .i64 j ∧ wr.ownsRow base 9 1 o (namesF (out ++ [nm]) (preAll (ks.take j))).length ((namesF (out ++ [nm]) (preAll (ks.take j))).map Value.string) ∧
            w.grownBy wr vo.ownBlock ∧ (∀ q, o.ownBlock = some q → w.heap.size + 1 ≤ q ∨ vo.ownBlock = some q) ∧ w.heap.size < wr.heap.size ∧ wr.cell? ⟨w.heap.size, 4, none⟩ = some (.slice a ks.length cap)) (fun _ i _ => ks.length - (intOf i).toNat)
        case atStart => exact ⟨0, Nat.zero_le _, rfl, HR3.out, HG3.out, HQ3.out, HS3.out, HC3.out⟩
        case round =>
          skip
          obtain ⟨j, hj, rfl, hr, hg, hq, hsz, hc4⟩ := hrel
          have HR := Lib.hid hr
          have HG := Lib.hid hg
          have HQ := Lib.hid hq
          have HBL : Hid (Below base w wr) := below_of_grown hg hbase (fun q h => (HLT.out q h).1)
          have HCN : Hid ((namesF (out ++ [nm]) (preAll (ks.take j))).length ≤ out.length + 1 + countAll (ks.take j)) := by
            have h1 := namesF_length (preAll (ks.take j)) ((out ++ [nm]))
            have h2 := preAll_length (ks.take j)
            have h3 : ((out ++ [nm])).length ≤ out.length + 1 := by first | omega | (simp)
            unfold Hid; omega
          clear hr hg hq
          by_cases hlt : j < ks.length
          · rcases HKS.out with h0 | ⟨b, off, rfl, hbB, hrow⟩
            · exfalso; rw [h0] at hlt; simp at hlt
            · obtain ⟨c0, c1, c2, c3, c4, h0, h1, h2, h3, h4, hin⟩ := (hrow.later (same_below (HBL.out.mono hB)) b hbB).at j hlt
              have HIN := Lib.hid hin
              have HPS : Hid (namesF (out ++ [nm]) (preAll (ks.take (j + 1))) = namesF (namesF (out ++ [nm]) (preAll (ks.take j))) ks[j].pre) := by
                unfold Hid
                rw [preAll_take_succ ks j hlt, namesF_append]
              have HCT := Lib.hid (countAll_take_succ ks j hlt)
              have HCL := Lib.hid (countAll_take_le ks (j + 1))
              have hbw : base ≤ wr.heap.size := by omega
              clear hin hrow
              go_wp2_with fail
              refine (HIH.out ks[j] (List.getElem_mem hlt) _ _ _ base wr hB hbw HR.out HIN.out (HSK.out _ (List.getElem_mem hlt)) (by have h1 := HCN.out; have h2 := HCT.out; have h3 := HCL.out; omega)).mono ?_
              rintro e w1 ⟨v1, rfl, hr1, hg1, hq1⟩
              rw [← HPS.out] at hr1
              have HR1 := Lib.hid hr1
              have hd4 := hg1.cell hc4 (by intro h; have h5 := HQ.out w.heap.size h.symm; exact h5.elim (fun h6 => by omega) (fun h6 => by have := (HLT.out _ h6).2; omega))
              have hs1 := hg1.size
              have HG1 : Hid (w.grownBy w1 vo.ownBlock) := HG.out.andThen hg1 (fun q h => (HQ.out q h).elim (fun h5 => .inl (by omega)) (fun h5 => .inr h5))
              have HQ1 : Hid (∀ q, v1.ownBlock = some q → w.heap.size + 1 ≤ q ∨ vo.ownBlock = some q) := fun q h => by
                rcases hq1 q h with h5 | h5
                · exact .inl (by omega)
                · exact HQ.out q h5
              clear hr1 hg1 hq1 hc4 h0 h1 h2 h3 h4
              go_wp2_with fail
              go_roundw
              case rel => exact ⟨j + 1, by omega, by go_num, HR1.out, HG1.out, HQ1.out, by omega, hd4⟩
              case measure => simp [intOf]; omega
          · obtain rfl : j = ks.length := by omega
            rw [List.take_length] at HR
            have HE : Hid (namesF out (Fm.mk 1 nm n sc ks).pre = namesF (out ++ [nm]) (preAll ks)) := by
              unfold Hid
              rw [pre_eq]
              show namesF (addN out (Fm.mk 1 nm n sc ks)) (preAll ks) = _
              rw [HAD.out]
            go_wp2_with fail
            go_ret
            rw [HE.out]
            exact ⟨_, rfl, HR.out, HG.out, fun q h => (HQ.out q h).elim (fun h5 => .inl (by omega)) (fun h5 => .inr h5)⟩
    · have hkb : (k == 1) = false := by rw [beq_eq_false_iff_ne]; exact hk
      have HAD : Hid (addN out (Fm.mk k nm n sc ks) = out) := by unfold Hid addN; simp only [Fm.kind, hkb]; rfl
      go_wp2_with fail
      go_loopw [0, 5] (fun o i wr => ∃ j : Nat, j ≤ ks.length ∧ i = .int .i64 j ∧ wr.ownsRow base 9 1 o (namesF out (preAll (ks.take j))).length ((namesF out (preAll (ks.take j))).map Value.string) ∧
          w.grownBy wr vo.ownBlock ∧ (∀ q, o.ownBlock = some q → w.heap.size + 1 ≤ q ∨ vo.ownBlock = some q) ∧ w.heap.size < wr.heap.size ∧ wr.cell? ⟨w.heap.size, 4, none⟩ = some (.slice a ks.length cap)) (fun _ i _ => ks.length - (intOf i).toNat)
      case atStart => exact ⟨0, Nat.zero_le _, rfl, HO1.out, HG0.out, fun q h => .inr h, by simp, World.cell?_alloc_at _ _ _ _ rfl⟩
      case round =>
        skip
        obtain ⟨j, hj, rfl, hr, hg, hq, hsz, hc4⟩ := hrel
        have HR := Lib.hid hr
        have HG := Lib.hid hg
        have HQ := Lib.hid hq
        have HBL : Hid (Below base w wr) := below_of_grown hg hbase (fun q h => (HLT.out q h).1)
        have HCN : Hid ((namesF out (preAll (ks.take j))).length ≤ out.length + 1 + countAll (ks.take j)) := by
          have h1 := namesF_length (preAll (ks.take j)) (out)
          have h2 := preAll_length (ks.take j)
          have h3 : (out).length ≤ out.length + 1 := by first | omega | (simp)
          unfold Hid; omega
        clear hr hg hq
        by_cases hlt : j < ks.length
        · rcases HKS.out with h0 | ⟨b, off, rfl, hbB, hrow⟩
          · exfalso; rw [h0] at hlt; simp at hlt
          · obtain ⟨c0, c1, c2, c3, c4, h0, h1, h2, h3, h4, hin⟩ := (hrow.later (same_below (HBL.out.mono hB)) b hbB).at j hlt
            have HIN := Lib.hid hin
            have HPS : Hid (namesF out (preAll (ks.take (j + 1))) = namesF (namesF out (preAll (ks.take j))) ks[j].pre) := by
              unfold Hid
              rw [preAll_take_succ ks j hlt, namesF_append]
            have HCT := Lib.hid (countAll_take_succ ks j hlt)
            have HCL := Lib.hid (countAll_take_le ks (j + 1))
            have hbw : base ≤ wr.heap.size := by omega
            clear hin hrow
            go_wp2_with fail
            refine (HIH.out ks[j] (List.getElem_mem hlt) _ _ _ base wr hB hbw HR.out HIN.out (HSK.out _ (List.getElem_mem hlt)) (by have h1 := HCN.out; have h2 := HCT.out; have h3 := HCL.out; omega)).mono ?_
            rintro e w1 ⟨v1, rfl, hr1, hg1, hq1⟩
            rw [← HPS.out] at hr1
            have HR1 := Lib.hid hr1
            have hd4 := hg1.cell hc4 (by intro h; have h5 := HQ.out w.heap.size h.symm; exact h5.elim (fun h6 => by omega) (fun h6 => by have := (HLT.out _ h6).2; omega))
            have hs1 := hg1.size
            have HG1 : Hid (w.grownBy w1 vo.ownBlock) := HG.out.andThen hg1 (fun q h => (HQ.out q h).elim (fun h5 => .inl (by omega)) (fun h5 => .inr h5))
            have HQ1 : Hid (∀ q, v1.ownBlock = some q → w.heap.size + 1 ≤ q ∨ vo.ownBlock = some q) := fun q h => by
              rcases hq1 q h with h5 | h5
              · exact .inl (by omega)
              · exact HQ.out q h5
            clear hr1 hg1 hq1 hc4 h0 h1 h2 h3 h4
            go_wp2_with fail
            go_roundw
            case rel => exact ⟨j + 1, by omega, by go_num, HR1.out, HG1.out, HQ1.out, by omega, hd4⟩
            case measure => simp [intOf]; omega
        · obtain rfl : j = ks.length := by omega
          rw [List.take_length] at HR
          have HE : Hid (namesF out (Fm.mk k nm n sc ks).pre = namesF out (preAll ks)) := by
            unfold Hid
            rw [pre_eq]
            show namesF (addN out (Fm.mk k nm n sc ks)) (preAll ks) = _
            rw [HAD.out]
          go_wp2_with fail
          go_ret
          rw [HE.out]
          exact ⟨_, rfl, HR.out, HG.out, fun q h => (HQ.out q h).elim (fun h5 => .inl (by omega)) (fun h5 => .inr h5)⟩
end Go.Proofs.Ytbbihbapmbjbgaa
