/- The contract of the program's HitsValid. -/
import Derived.Test.YtnogpaflibghhaaFindHF
import Derived.Test.YtnogpaflibghhaaMaHV
import Derived.Test.YtnogpaflibghhaaImplPat2
import Derived.Deep.AppendLies
namespace Go.Proofs.Ytnogpaflibghhaa
open Go.RowKit
set_option linter.unusedVariables false
set_option linter.unusedSimpArgs false
set_option maxRecDepth 100000 in
set_option maxHeartbeats 4000000 in
theorem badH_pred (ks : List Ht) : PredH 151 #[] badH ks (fun _ => True) := by
  refine ⟨enters_of Try.func151 (by kernel_rfl) rfl, fun _ _ _ _ => trivial, ?_⟩
  intro g _ v W hv hsz _
  cases g with
  | mk nm d one many =>
  have HV := Lib.hid hv
  unfold InH at hv
  obtain ⟨s1, t1, k1, l1, s2, t2, k2, l2, a, cap, rfl, hd, hn, ho, hks⟩ := hv
  have HN := Lib.hid hn
  have hE : ∀ b : Bool, b = badH (.mk nm d one many) → Ending.returned (.bool b) = Ending.returned (.bool (badH (.mk nm d one many))) := fun b h => by rw [h]
  have HE := Lib.hid hE
  have HB0 := Lib.hid (below_alloc W (.cells #[.int .i64 nm.kind, .string nm.name, .int .i64 nm.n, .slice s1 nm.scopes.length t1, .slice k1 nm.kids.length l1, .int .i64 d, .int .i64 one.kind, .string one.name, .int .i64 one.n, .slice s2 one.scopes.length t2, .slice k2 one.kids.length l2, .slice a many.length cap] 60))
  clear hn ho hks hE
  show Calls Try.prog 151 #[.agg #[.int .i64 nm.kind, .string nm.name, .int .i64 nm.n, .slice s1 nm.scopes.length t1, .slice k1 nm.kids.length l1, .int .i64 d, .int .i64 one.kind, .string one.name, .int .i64 one.n, .slice s2 one.scopes.length t2, .slice k2 one.kids.length l2, .slice a many.length cap]] W _
  by_cases h3 : 3 < d
  · have q3 : decide (d > 3) = true := decide_eq_true h3
    have HF : Hid (true = badH (.mk nm d one many)) := by unfold Hid badH; show true = (decide (d > 3) || _); rw [q3]; rfl
    go_enter Try.func151, Try.ntmps151
    go_wp2_with fail
    go_ret
    exact ⟨HE.out _ HF.out, HB0.out⟩
  have q3 : decide (d > 3) = false := decide_eq_false h3
  have HF : Hid (badH (.mk nm d one many) = !holdsB (.mk nm d one many) nm d) := by unfold Hid badH; show (decide (d > 3) || _) = _; rw [q3]; rfl
  go_enter Try.func151, Try.ntmps151
  go_wp2_with fail
  refine (hitHolds_any (.mk nm d one many) nm d _ _ _ (InH.pl HB0.out HV.out) (InV.mono (fun k hk => hk.1) _ _ (InV.pl HB0.out HN.out)) hsz hd).mono ?_
  rintro e w1 ⟨rfl, hb1⟩
  have HB1 : Hid (Below W.heap.size W w1) := HB0.out.trans (hb1.mono (by simp))
  clear hb1
  cases hh : holdsB (.mk nm d one many) nm d with
  | false =>
    have HG : Hid (true = badH (.mk nm d one many)) := by unfold Hid; rw [HF.out, hh]; rfl
    clear hh
    go_wp2_with fail
    go_ret
    exact ⟨HE.out _ HG.out, HB1.out⟩
  | true =>
    have HG : Hid (false = badH (.mk nm d one many)) := by unfold Hid; rw [HF.out, hh]; rfl
    clear hh
    go_wp2_with fail
    go_ret
    exact ⟨HE.out _ HG.out, HB1.out⟩
theorem formsIn_of {w : World} {base : Nat} {T : TypeId} {a : Option Addr} {cap n : Nat} {gs : List Fm} {xs : List Value} (h : w.ownsRow base T 5 (.slice a n cap) n xs) (hn : gs.length = n) (hr : RowVals (· < w.heap.size) w gs xs) :
    FormsIn (· < w.heap.size) w a cap gs := by
  rcases h.2 with ⟨e, h0⟩ | ⟨g, cap', cur, e, h1, h2, h3, h4, h5, h6⟩
  · injection e with e1 _ e3
    have : gs = [] := List.eq_nil_of_length_eq_zero (by omega)
    subst e1 e3 this
    exact ⟨Nat.zero_le _, by unfold maxLen; omega, .inl rfl⟩
  · injection e with e1 _ e3
    subst e1 e3
    refine ⟨by omega, h4, .inr ⟨g, 0, rfl, (Array.getElem?_eq_some_iff.1 h2).1, RowVals.row hr fun j u hj => ?_⟩⟩
    have hjl : j < xs.length := (List.getElem?_eq_some_iff.1 hj).1
    rw [Nat.zero_add]
    have := h.cellAt j (by rw [h.1] at hjl; exact hjl)
    rw [this]
    exact hj
set_option maxRecDepth 100000 in
set_option maxHeartbeats 8000000 in
theorem implHitsValid_any (l : List Ht) (a : Option Addr) (cap : Nat) (w : World) (hl : HitsIn (Pl w.heap.size w) w a cap l) (hsz : szHs l ≤ 1048577) :
    Calls Try.prog 78 #[.slice a l.length cap] w fun e w' => e = .returned (.bool (hitsValidB l)) ∧ Below w.heap.size w w' := by
  have HL := Lib.hid hl
  obtain ⟨hcap, hmax, _⟩ := hl
  unfold maxLen at hmax
  have hlen := szHs_length l
  obtain ⟨i0, hi0, hz0, hz1, hz2⟩ := info_parts Try.infoFm
  have HEQ := Lib.hid (hitsValidB_eq l)
  go_enter Try.func78, Try.ntmps78
  go_wp2_with fail
  go_loopw [8, 3, 5] (fun i v p wr => ∃ (j : Nat) (xs : List Value) (va : Option Addr) (vc : Nat), j ≤ l.length ∧ i = .int .i64 j ∧ v = .slice va j vc ∧ wr.ownsRow w.heap.size 33 5 (.slice va j vc) j xs ∧ RowVals (· < w.heap.size) wr ((l.take j).map Ht.name) xs ∧ Below w.heap.size w wr) (fun i _ _ _ => l.length - (intOf i).toNat)
  case atStart => exact ⟨0, [], none, 0, Nat.zero_le _, rfl, rfl, World.ownsRow_nil _ _ _ _, rfl, Below.refl _ _⟩
  case round =>
    obtain ⟨j, xs, va, vc, hj, rfl, rfl, how, hrv, hb⟩ := hrel
    have HOW := Lib.hid how
    have HRV := Lib.hid hrv
    have HB := Lib.hid hb
    have hws := hb.size
    clear how hrv hb
    by_cases hlt : j < l.length
    · rcases HL.out.2.2 with h0 | ⟨b, off, rfl, hbB, hrow⟩
      · exfalso; rw [h0] at hlt; simp at hlt
      obtain ⟨p1, p2, p3, p4, p5, p6, p7, p8, pa, pc, x0, x1, x2, x3, x4, x5, x6, x7, x8, x9, x10, x11, hin⟩ := hrow.at' j hlt
      have hcx : ∀ i, wr.cell? ⟨b, i, none⟩ = w.cell? ⟨b, i, none⟩ := fun i => HB.out.cell (p := ⟨b, i, none⟩) hbB.1
      have x0 := (hcx _).trans x0
      have x1 := (hcx _).trans x1
      have x2 := (hcx _).trans x2
      have x3 := (hcx _).trans x3
      have x4 := (hcx _).trans x4
      have x5 := (hcx _).trans x5
      have x6 := (hcx _).trans x6
      have x7 := (hcx _).trans x7
      have x8 := (hcx _).trans x8
      have x9 := (hcx _).trans x9
      have x10 := (hcx _).trans x10
      have x11 := (hcx _).trans x11
      have HNP : Hid (InV (· < w.heap.size) wr l[j].name (.agg #[.int .i64 l[j].name.kind, .string l[j].name.name, .int .i64 l[j].name.n, .slice p1 l[j].name.scopes.length p2, .slice p3 l[j].name.kids.length p4])) := InV.later (same_below HB.out) _ _ (InV.mono (fun k hk => hk.1) _ _ hin.namePart)
      have hL1 : j + 1 ≤ maxLen := by unfold maxLen; omega
      have hL2 : (j + 1) * 80 ≤ 140737488355328 := by omega
      have HTK := Lib.hid (List.take_succ_eq_append_getElem hlt)
      clear hin hrow hcx
      go_wp2_with (at_builtin; refine wpList_append_lies _ rfl _ _ 31 rfl w.heap.size 33 i0 _ 5 80 Try.underlying31 hi0 hz0 hz1 hz2 rfl (by decide) (.slice va j vc) j xs rfl ((HOW.out.alloc _).alloc _) ⟨wr.heap.size + 1, 0, none⟩ 1 1 [.int .i64 l[j].name.kind, .string l[j].name.name, .int .i64 l[j].name.n, .slice p1 l[j].name.scopes.length p2, .slice p3 l[j].name.kids.length p4] rfl rfl (World.news_of_block (cs := #[.int .i64 l[j].name.kind, .string l[j].name.name, .int .i64 l[j].name.n, .slice p1 l[j].name.scopes.length p2, .slice p3 l[j].name.kids.length p4]) (t := 33) (fr := (0, 0)) (by have := heap_alloc_new (wr.alloc (.cells #[.int .i64 l[j].name.kind, .string l[j].name.name, .int .i64 l[j].name.n, .slice p1 l[j].name.scopes.length p2, .slice p3 l[j].name.kids.length p4, .int .i64 l[j].depth, .int .i64 l[j].one.kind, .string l[j].one.name, .int .i64 l[j].one.n, .slice p5 l[j].one.scopes.length p6, .slice p7 l[j].one.kids.length p8, .slice pa l[j].many.length pc] 60)) (.cells #[.int .i64 l[j].name.kind, .string l[j].name.name, .int .i64 l[j].name.n, .slice p1 l[j].name.scopes.length p2, .slice p3 l[j].name.kids.length p4] 33); rw [size_alloc'] at this; exact this)) (by simp [Value.oneCell']) (by omega) hL1 hL2 (by simp; omega) (wr.heap.size + 2) (by simp) ?_; intro gq qd w3 hown3 hgrow hat hlt4; have HOWN3 := Lib.hid hown3; have HGROW := Lib.hid hgrow; have HAT := Lib.hid hat; clear hown3 hgrow hat)
      have hA : Below w.heap.size wr ((wr.alloc (.cells #[.int .i64 l[j].name.kind, .string l[j].name.name, .int .i64 l[j].name.n, .slice p1 l[j].name.scopes.length p2, .slice p3 l[j].name.kids.length p4, .int .i64 l[j].depth, .int .i64 l[j].one.kind, .string l[j].one.name, .int .i64 l[j].one.n, .slice p5 l[j].one.scopes.length p6, .slice p7 l[j].one.kids.length p8, .slice pa l[j].many.length pc] 60)).alloc (.cells #[.int .i64 l[j].name.kind, .string l[j].name.name, .int .i64 l[j].name.n, .slice p1 l[j].name.scopes.length p2, .slice p3 l[j].name.kids.length p4] 33)) := ((Below.refl _ wr).alloc hws _).alloc (by simp; omega) _
      have HB3 : Hid (Below w.heap.size w w3) := HB.out.trans (hA.grown HGROW.out (by simp; omega) (fun k hk => (HOW.out.lt k hk).1))
      have HRV3 : Hid (RowVals (· < w.heap.size) w3 ((l.take (j + 1)).map Ht.name) (xs ++ [.int .i64 l[j].name.kind, .string l[j].name.name, .int .i64 l[j].name.n, .slice p1 l[j].name.scopes.length p2, .slice p3 l[j].name.kids.length p4])) := by
        unfold Hid
        rw [HTK.out, List.map_append]
        have hs : Same (· < w.heap.size) wr w3 := fun k hk => (HB3.out.block k hk).trans (HB.out.block k hk).symm
        exact RowVals.snoc (InV.later hs _ _ HNP.out) (RowVals.keep hs (fun _ h => h) HRV.out)
      clear HGROW HAT hA x0 x1 x2 x3 x4 x5 x6 x7 x8 x9 x10 x11
      go_wp2_with fail
      go_roundw
      case rel => exact ⟨j + 1, _, some ⟨gq, 0, none⟩, qd, by omega, by go_num, rfl, HOWN3.out, HRV3.out, HB3.out⟩
      case measure => simp [intOf]; omega
    · obtain rfl : j = l.length := by omega
      have HFI : Hid (FormsIn (· < wr.heap.size) wr va vc (l.map Ht.name)) := by
        have h1 := HRV.out
        rw [List.take_length] at h1
        exact formsIn_of HOW.out (by simp) (RowVals.keep (Same.refl _ _) (fun k (hk : k < w.heap.size) => by show k < wr.heap.size; omega) h1)
      have HLN : Hid ((l.map Ht.name).length = l.length) := List.length_map _
      clear HOW HRV
      have hdn := distinctNames_any wr.heap.size (l.map Ht.name) va vc 20 wr (Nat.le_refl _) HFI.out (by omega)
      rw [HLN.out] at hdn
      have HDN := Lib.hid hdn
      clear hdn
      go_wp2_with fail
      refine HDN.out.mono ?_
      rintro e w1 ⟨rfl, hb1⟩
      have hs1 := hb1.size
      have HB1 : Hid (Below w.heap.size w w1) := HB.out.trans (hb1.mono (by omega))
      clear hb1 HDN HFI
      cases hd : distinctB (l.map Ht.name) 20 with
      | false =>
        have HF : Hid (false = hitsValidB l) := by unfold Hid; rw [HEQ.out, hd]; rfl
        clear hd
        go_wp2_with fail
        go_ret
        exact ⟨ret_bool HF.out, HB1.out⟩
      | true =>
        have HG : Hid (hitsValidB l = !l.any badH) := by unfold Hid; rw [HEQ.out, hd]; rfl
        clear hd
        go_wp2_with fail
        refine (containsFuncH_any 151 #[] badH l (fun _ => True) (badH_pred l) a cap w1 (HitsIn.mono (fun k hk => ⟨Nat.lt_of_lt_of_le hk.1 (by omega), hk.2.same (HB1.out.block _ hk.1)⟩) (HitsIn.later (fun k hk => HB1.out.block _ hk.1) HL.out)) hsz trivial).mono ?_
        rintro e w2 ⟨rfl, hb2⟩
        have HB2 : Hid (Below w.heap.size w w2) := HB1.out.trans (hb2.mono (by omega))
        clear hb2
        go_wp2_with fail
        go_ret
        exact ⟨ret_bool HG.out.symm, HB2.out⟩
end Go.Proofs.Ytnogpaflibghhaa
