/- The contracts of the model's set of all scopes in a form. -/
import Derived.Test.YtjhhbbdfoephfaaFolds
import Derived.Test.YtjhhbbdfoephfaaValid
import Derived.Test.YtjhhbbdfoephfaaData
namespace Go.Proofs.Ytjhhbbdfoephfaa
open Go.RowKit
set_option linter.unusedVariables false
set_option linter.unusedSimpArgs false
theorem row_up {w w' : World} {v : Value} {l : List Int} (h : IntRow (· < w.heap.size) w v l) (hb : Below w.heap.size w w') : IntRow (· < w'.heap.size) w' v l :=
  (h.later (Same.of_below hb (fun k hk => hk))).mono (fun k (hk : k < w.heap.size) => Nat.lt_of_lt_of_le hk hb.size)
theorem intRow_at {φ : Nat → Prop} {w : World} {a : Option Addr} {n cap : Nat} {l : List Int} (h : IntRow φ w (.slice a n cap) l) (j : Nat) (hj : j < l.length) :
    n = l.length ∧ ∃ b off, a = some ⟨b, off, none⟩ ∧ φ b ∧ w.cell? ⟨b, off + j, none⟩ = some (.int .i64 l[j]) := by
  obtain ⟨a', cap', e, _, _, _, hrow⟩ := h
  injection e with e1 e2 e3
  subst e1 e2 e3
  rcases hrow with h0 | ⟨b, off, rfl, hb, hc⟩
  · exfalso; rw [h0] at hj; simp at hj
  · exact ⟨rfl, b, off, rfl, hb, hc j hj⟩
theorem puts_take_succ (l ns : List Int) (j : Nat) (h : j < ns.length) : putsL l (ns.take (j + 1)) = putL (putsL l (ns.take j)) ns[j] := by
  have key : ∀ (ps bs : List Int) (m : List Int), putsL m (ps ++ bs) = putsL (putsL m ps) bs := by
    intro ps
    induction ps with
    | nil => intro bs m; rfl
    | cons a r ih => intro bs m; exact ih bs (putL m a)
  rw [List.take_succ_eq_append_getElem h, key]
  rfl
set_option maxRecDepth 100000 in
set_option maxHeartbeats 1000000 in
theorem l2All_any (B : Nat) (f : Fm) : ∀ (out : List Int) (vo v : Value) (w : World) (d : Nat), B ≤ w.heap.size → IntRow (· < w.heap.size) w vo out → GoodS out → InV (· < B) w f v → isB d f = true → f.sz ≤ 1048576 →
    Calls Try.prog 44 #[vo, v] w fun e w' => ∃ v', e = .returned v' ∧ IntRow (· < w'.heap.size) w' v' (foldS out f.pre) ∧ Below w.heap.size w w' := by
  induction f using Fm.ind with
  | h k nm n sc ks ih =>
    intro out vo v w d hB ho hg hv hd hsz
    obtain ⟨hsc, _, hkd⟩ := isB_node hd
    have hszk := (sz_scopes (Fm.mk k nm n sc ks)).2
    simp only [Fm.kids] at hszk
    have hklen : ks.length ≤ 1048576 := by omega
    have HSK : Hid (∀ g ∈ ks, g.sz ≤ 1048576) := fun g hg => Nat.le_trans (sz_kid (f := Fm.mk k nm n sc ks) hg) hsz
    have hsl := scopes_length hsc
    unfold InV at hv
    obtain ⟨vs, a, cap, rfl, _, _, hnm, hvs, hcap, hmax, hks⟩ := hv
    unfold maxLen at hmax
    obtain ⟨vsa, vscap, rfl⟩ : ∃ vsa vscap, vs = .slice vsa sc.length vscap := by
      obtain ⟨a', cap', e, _⟩ := hvs
      exact ⟨a', cap', e⟩
    have HVS := Lib.hid hvs
    have HO := Lib.hid ho
    have HG := Lib.hid hg
    have HSC := Lib.hid hsc
    have HIH := Lib.hid ih
    have HKD := Lib.hid hkd
    have HKS := Lib.hid hks
    clear hvs ho hg hsc ih hkd hks hd hsz hszk
    go_enter Try.func44, Try.ntmps44
    have HGT : Hid (∀ j, GoodS (putsL out (sc.take j))) := fun j => HG.out.puts fun n hn => (goodS_of HSC.out).2 n (List.mem_of_mem_take hn)
    go_wp2_with fail
    go_loopw [0, 5] (fun o i wr => ∃ j : Nat, j ≤ sc.length ∧ i = .int .i64 j ∧ IntRow (· < wr.heap.size) wr o (putsL out (sc.take j)) ∧ Below w.heap.size w wr ∧ w.heap.size < wr.heap.size ∧
        wr.cell? ⟨w.heap.size, 3, none⟩ = some (.slice vsa sc.length vscap) ∧ wr.cell? ⟨w.heap.size, 4, none⟩ = some (.slice a ks.length cap)) (fun _ i _ => sc.length - (intOf i).toNat)
    case atStart => exact ⟨0, Nat.zero_le _, rfl, row_up HO.out (below_alloc w _), below_alloc w _, by simp, World.cell?_alloc_at _ _ _ _ rfl, World.cell?_alloc_at _ _ _ _ rfl⟩
    case round =>
      obtain ⟨j, hj, rfl, hr, hb, hsz, hc3, hc4⟩ := hrel
      have HR := Lib.hid hr
      have HB := Lib.hid hb
      clear hr hb
      by_cases hlt : j < sc.length
      · obtain ⟨_, b, off, rfl, hbb, hcj⟩ := intRow_at (HVS.out.later (same_below (HB.out.mono hB))) j hlt
        have HPS := Lib.hid (puts_take_succ out sc j hlt)
        have HNJ := Lib.hid (scopes_bounds HSC.out sc[j] (List.getElem_mem hlt))
        go_wp2_with fail
        refine (l2Put_any (· < wr.heap.size) (putsL out (sc.take j)) _ sc[j] wr (fun k hk => hk) HR.out (by have := (HGT.out j).length; omega) HNJ.out).mono ?_
        rintro e w1 ⟨v1, rfl, hr1, hb1⟩
        rw [← HPS.out] at hr1
        have HR1 : Hid (IntRow (· < w1.heap.size) w1 v1 (putsL out (sc.take (j + 1)))) := hr1.mono fun k hk => hk.2
        have hd3 := cell_later' hb1 hc3
        have hd4 := cell_later' hb1 hc4
        have hs1 := hb1.size
        have HB1 : Hid (Below w.heap.size w w1) := HB.out.trans (hb1.mono (by omega))
        clear hr1 hb1 hc3 hc4
        go_wp2_with fail
        go_roundw
        case rel => exact ⟨j + 1, by omega, by go_num, HR1.out, HB1.out, by omega, hd3, hd4⟩
        case measure => simp [intOf]; omega
      · obtain rfl : j = sc.length := by omega
        rw [List.take_length] at HR
        have HG1 : Hid (GoodS (putsL out sc)) := by have := HGT.out sc.length; rw [List.take_length] at this; exact this
        have HGF : Hid (∀ j, GoodS (foldS (putsL out sc) (preAll (ks.take j)))) := fun j => GoodS.fold _ HG1.out fun g hg => by
          have key : ∀ (ls : List Fm), (∀ y ∈ ls, y ∈ ks) → g ∈ preAll ls → ∃ y ∈ ls, g ∈ y.pre := by
            intro ls
            induction ls with
            | nil => intro _ h; simp [preAll] at h
            | cons y r ihr =>
              intro hs h
              simp only [preAll, List.mem_append] at h
              rcases h with h | h
              · exact ⟨y, by simp, h⟩
              · obtain ⟨z, hz, hz2⟩ := ihr (fun z hz => hs z (by simp [hz])) h
                exact ⟨z, by simp [hz], hz2⟩
          obtain ⟨y, hy, hgy⟩ := key _ (fun y hy => List.mem_of_mem_take hy) hg
          obtain ⟨d', hd'⟩ := HKD.out y (List.mem_of_mem_take hy)
          exact pre_ok y d' hd' g hgy
        clear hlt
        go_wp2_with fail
        go_loopw [0, 6] (fun o i wr => ∃ j : Nat, j ≤ ks.length ∧ i = .int .i64 j ∧ IntRow (· < wr.heap.size) wr o (foldS (putsL out sc) (preAll (ks.take j))) ∧ Below w.heap.size w wr ∧ w.heap.size < wr.heap.size ∧
            wr.cell? ⟨w.heap.size, 4, none⟩ = some (.slice a ks.length cap)) (fun _ i _ => ks.length - (intOf i).toNat)
        case atStart => exact ⟨0, Nat.zero_le _, rfl, HR.out, HB.out, hsz, hc4⟩
        case round =>
          clear hsz hc3 hc4 HR HB
          obtain ⟨j, hj, rfl, hr, hb, hsz, hc4⟩ := hrel
          have HR := Lib.hid hr
          have HB := Lib.hid hb
          clear hr hb
          by_cases hlt : j < ks.length
          · rcases HKS.out with h0 | ⟨b, off, rfl, hbB, hrow⟩
            · exfalso; rw [h0] at hlt; simp at hlt
            · obtain ⟨c0, c1, c2, c3, c4, h0, h1, h2, h3, h4, hin⟩ := (hrow.later (same_below (HB.out.mono hB)) b hbB).at j hlt
              obtain ⟨d', hd'⟩ := HKD.out ks[j] (List.getElem_mem hlt)
              have HIN := Lib.hid hin
              have HD' := Lib.hid hd'
              have HPS : Hid (foldS (putsL out sc) (preAll (ks.take (j + 1))) = foldS (foldS (putsL out sc) (preAll (ks.take j))) ks[j].pre) := by
                unfold Hid
                rw [preAll_take_succ ks j hlt, foldS_append]
              clear hin hrow hd'
              go_wp2_with fail
              refine (HIH.out ks[j] (List.getElem_mem hlt) _ _ _ wr d' (by omega) HR.out (HGF.out j) HIN.out HD'.out (HSK.out _ (List.getElem_mem hlt))).mono ?_
              rintro e w1 ⟨v1, rfl, hr1, hb1⟩
              rw [← HPS.out] at hr1
              have HR1 := Lib.hid hr1
              have hd4 := cell_later' hb1 hc4
              have hs1 := hb1.size
              have HB1 : Hid (Below w.heap.size w w1) := HB.out.trans (hb1.mono (by omega))
              clear hr1 hb1 hc4 h0 h1 h2 h3 h4
              go_wp2_with fail
              go_roundw
              case rel => exact ⟨j + 1, by omega, by go_num, HR1.out, HB1.out, by omega, hd4⟩
              case measure => simp [intOf]; omega
          · obtain rfl : j = ks.length := by omega
            rw [List.take_length] at HR
            have HE : Hid (foldS out (Fm.mk k nm n sc ks).pre = foldS (putsL out sc) (preAll ks)) := by
              unfold Hid
              rw [pre_eq]
              rfl
            go_wp2_with fail
            go_ret
            rw [HE.out]
            exact ⟨_, rfl, HR.out, HB.out⟩
/-- the scopes of a form, if it is valid -/
def scopesOf (f : Fm) : List Int := if formB f = true then foldS [] f.pre else []
set_option maxRecDepth 100000 in
set_option maxHeartbeats 1000000 in
theorem specScopesOf_any (B : Nat) (f : Fm) (v : Value) (w : World) (hB : B ≤ w.heap.size) (hv : InV (· < B) w f v) (hsz : f.sz ≤ 1048576) :
    Calls Try.prog 25 #[v] w fun e w' => ∃ v', e = .returned v' ∧ IntRow (· < w'.heap.size) w' v' (scopesOf f) ∧ Below w.heap.size w w' := by
  have HV := Lib.hid hv
  have hLc := f.count_le
  obtain ⟨sa, scap, a, cap, rfl⟩ := hv.form
  clear hv
  go_enter Try.func25, Try.ntmps25
  go_wp2_with fail
  refine (specFormValid_any B f _ _ (by simp; omega) (InV.later (same_below ((below_alloc w _).mono hB)) _ _ HV.out) (by omega)).mono ?_
  rintro e w1 ⟨rfl, hb1⟩
  obtain ⟨x0, x1, x2, x3, x4⟩ := (FormBox.fresh w f sa a scap cap 30).later hb1
  have hs1 : w.heap.size + 1 ≤ w1.heap.size := by have := hb1.size; simpa using this
  have HB1 : Hid (Below w.heap.size w w1) := (below_alloc w _).trans (hb1.mono (by simp))
  clear hb1
  cases hf : formB f with
  | false =>
    have HE : Hid (scopesOf f = []) := by unfold Hid scopesOf; rw [hf]; rfl
    clear hf
    go_wp2_with fail
    go_ret
    rw [HE.out]
    exact ⟨_, rfl, ⟨_, 0, rfl, Nat.le_refl _, Nat.zero_le _, by simp, .inl rfl⟩, HB1.out.alloc (by omega) _⟩
  | true =>
    have HE : Hid (scopesOf f = foldS [] f.pre) := by unfold Hid scopesOf; rw [if_pos hf]
    have HF := Lib.hid hf
    clear hf
    have hlt1 : w.heap.size < w1.heap.size := by omega
    go_wp2_with fail
    have hb12 := below_alloc w1 (.cells #[] 3)
    refine (l2All_any B f [] _ _ _ 40 (by simp; omega) ⟨_, 0, rfl, Nat.le_refl _, Nat.zero_le _, by simp, .inl rfl⟩ goodS_nil (InV.later (same_below ((HB1.out.trans (hb12.mono (by omega))).mono hB)) _ _ HV.out) (formB_isB HF.out) hsz).mono ?_
    rintro e w3 ⟨v3, rfl, hr3, hb3⟩
    have HR3 := Lib.hid hr3
    have HB3 : Hid (Below w.heap.size w w3) := HB1.out.trans ((hb12.trans (hb3.mono (by simp))).mono (by omega))
    clear hr3 hb3 hb12
    go_wp2_with fail
    go_ret
    rw [HE.out]
    exact ⟨_, rfl, HR3.out, HB3.out⟩
end Go.Proofs.Ytjhhbbdfoephfaa
