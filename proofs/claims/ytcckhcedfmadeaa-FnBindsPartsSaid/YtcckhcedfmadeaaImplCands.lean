/- The contract of the program's map of bindings by name, and of its BindsValid. -/
import Derived.Test.YtcckhcedfmadeaaImplBinds
namespace Go.Proofs.Ytcckhcedfmadeaa
open Go.RowKit Go.Maps Go.ChangeMaps Go.MapKept
set_option linter.unusedVariables false
set_option linter.unusedSimpArgs false
/-- the scopes' value of the binding at a place, as it stands in memory -/
def scopesCell (w : World) (b off i : Nat) : Value := (w.cell? ⟨b, off + i * 3 + 1, none⟩).getD undef
/-- what the call hands back -/
def CandsPost (B : Nat) (l : List Bd) (w : World) (vs : Nat → Value) (R : Bool) (e : Ending) (w' : World) : Prop :=
  Below w.heap.size w w' ∧ ((R = false ∧ e = .returned (.tuple #[.map none, .bool false])) ∨ (R = true ∧ ∃ ob m, e = .returned (.tuple #[.map (some ob), .bool true]) ∧ CandsAt w' w.heap.size ob l vs l.length m))
theorem bd_take_all {l : List Bd} {x : Bd} {j : Nat} (h : ((l.take j).all fun y => !y.same x) = true) : (!((l.take j).all fun y => !y.same x)) = false := by rw [h]; rfl
set_option maxRecDepth 100000 in
set_option maxHeartbeats 4000000 in
theorem cands_any (B : Nat) (l : List Bd) (a : Option Addr) (cap : Nat) (w : World) (hB : B ≤ w.heap.size) (hv : BdRow (· < B) w (.slice a l.length cap) l) (vs : Nat → Value)
    (hvs : ∀ b off, a = some ⟨b, off, none⟩ → ∀ i, i < l.length → w.cell? ⟨b, off + i * 3 + 1, none⟩ = some (vs i)) (R : Bool) (hR : bindsB l = R) :
    Calls Try.prog 68 #[.slice a l.length cap] w (CandsPost B l w vs R) := by
  obtain ⟨a0, cap0, e0, hcap, hmax, hwf, hrow⟩ := hv
  injection e0 with e1 e2 e3
  subst e1 e3
  clear e2
  have HROW := Lib.hid hrow
  have HWF := Lib.hid hwf
  have HVS := Lib.hid hvs
  have HR := Lib.hid hR
  unfold maxLen at hmax
  clear hrow hwf hvs hR
  by_cases h60 : l.length ≤ 60
  · have hmk : ∀ w : World, (Instr.makeMap 84 none).run Try.prog w = .ok (.map (some w.heap.size)) (w.alloc (.map #[] 0)) := fun w => by simp [Instr.makeMap, Result.andThen]
    have hmi : ∀ w : World, (Instr.makeMap 132 none).run Try.prog w = .ok (.map (some w.heap.size)) (w.alloc (.map #[] 0)) := fun w => by simp [Instr.makeMap, Result.andThen]
    have hq : ∀ (w : World) (r : Option Nat), (binOp .eql 132 (.map r) (.map none)).run Try.prog w = .ok (.bool r.isNone) w := fun w r => run_eql_map_nil w _ _ _ r Try.underlying132
    go_enter Try.func68, Try.ntmps68
    go_wp2_with fail
    go_loopw [14] (fun i wr => ∃ (j : Nat) (m : List (ByteArray × Nat)), j ≤ l.length ∧ i = .int .i64 j ∧ bindsUp l j = true ∧ CandsAt wr w.heap.size w.heap.size l vs j m ∧ Below w.heap.size w wr ∧ w.heap.size < wr.heap.size) (fun i _ => l.length - (intOf i).toNat)
    case atStart => exact ⟨0, [], Nat.zero_le _, rfl, by simp [bindsUp], ⟨MapN.made w, Nat.le_refl _, fun p hp => (by cases hp), List.Pairwise.nil, fun i hi => (by omega), fun p hp => (by cases hp)⟩, below_alloc w _, by simp⟩
    case round =>
      obtain ⟨j, m, hj, rfl, hup, hcs, hb, hsz⟩ := hrel
      have HUP := Lib.hid hup
      have HCS := Lib.hid hcs
      have HB := Lib.hid hb
      clear hup hcs hb
      by_cases hlt : j < l.length
      · rcases HROW.out with h0 | ⟨b, off, rfl, hbB, hcells⟩
        · exfalso; rw [h0] at hlt; simp at hlt
        · obtain ⟨sa, scap, c0, c1, c2, hr⟩ := (hcells j hlt).later hbB (same_below (HB.out.mono hB))
          have HV1 : Hid (vs j = .slice sa l[j].scopes.length scap) := by
            have h1 := HVS.out b off rfl j hlt
            have h2 := (HB.out.cell (p := ⟨b, off + j * 3 + 1, none⟩) (by show b < w.heap.size; omega)).symm.trans c1
            rw [h1] at h2
            exact Option.some.inj h2
          have HRW := Lib.hid hr
          have HC := Lib.hid hcells
          have hnm := (HWF.out l[j] (List.getElem_mem hlt)).1
          have HNM := Lib.hid hnm
          have HSU := Lib.hid (bindsUp_succ l j hlt)
          have HNO : Hid ((l[j].ok && (l.take j).all fun y => !y.same l[j]) = false → bindsB l = false) := fun h => bindsUp_no l (j + 1) (by omega) (by rw [HSU.out, h, Bool.and_false])
          have HNA := Lib.hid (nameAt_eq hlt)
          clear hcells hr
          obtain ⟨r, hlook, hrun⟩ := lookup_name (wr.alloc (.cells #[.string l[j].name, .slice sa l[j].scopes.length scap, .int .i64 l[j].id] 89)) w.heap.size m l[j].name (HCS.out.map.same ((below_alloc _ _).block _ hsz)) HCS.out.sizes hnm
          have HLOOK := Lib.hid hlook
          clear hlook hnm
          go_wp2_with fail
          refine (bindValid_any B l[j] sa scap _ (by simp; omega) (HRW.out.later (same_below ((Below.refl B wr).alloc (by omega) _))) HNM.out).mono ?_
          rintro e w1 ⟨rfl, hb1⟩
          have hs1 : wr.heap.size + 1 ≤ w1.heap.size := by have := hb1.size; simpa using this
          have d0 : w1.cell? ⟨wr.heap.size, 0, none⟩ = some (.string l[j].name) := cell_later' hb1 (World.cell?_alloc_at _ _ _ _ rfl)
          have d1 : w1.cell? ⟨wr.heap.size, 1, none⟩ = some (.slice sa l[j].scopes.length scap) := cell_later' hb1 (World.cell?_alloc_at _ _ _ _ rfl)
          have hbw1 : Below wr.heap.size wr w1 := (below_alloc wr _).trans (hb1.mono (by simp))
          have HB1 : Hid (Below w.heap.size w w1) := HB.out.trans (hbw1.mono (by omega))
          have HCS1 := Lib.hid (HCS.out.later hbw1)
          have HBR := Lib.hid hbw1
          clear hrun c0 c1 c2 hb1 hbw1
          cases hok : l[j].ok with
          | false =>
            have HE : Hid (R = false) := HR.out.symm.trans (HNO.out (by rw [hok]; rfl))
            clear hok
            go_wp2_with fail
            go_ret2
            exact ⟨HB1.out, .inl ⟨HE.out, rfl⟩⟩
          | true =>
            have HOK := Lib.hid hok
            clear hok
            have HANY := Lib.hid (entsOf_any (l := l) (vs := vs) (x := l[j]) (j := j) hj)
            cases r with
            | none =>
              have hnm : ∀ ib, (l[j].name, ib) ∉ m := HLOOK.out
              have HENT : Hid (entsOf l vs l[j].name j = []) := entsOf_none (fun i hi e => by
                obtain ⟨c, hc⟩ := HCS.out.has i hi
                rw [e] at hc
                exact hnm c hc)
              have HALL : Hid (((l.take j).all fun y => !y.same l[j]) = true) := by
                have h1 := HANY.out
                rw [HENT.out] at h1
                unfold Hid
                cases h2 : ((l.take j).all fun y => !y.same l[j]) with
                | true => rfl
                | false => rw [h2] at h1; simp at h1
              have HUP1 : Hid (bindsUp l (j + 1) = true) := by unfold Hid; rw [HSU.out, HUP.out, HOK.out, HALL.out]; rfl
              have HNMN := Lib.hid hnm
              clear hnm
              go_wp2_with fail
              refine (haveScopes_nil _ w1).mono ?_
              rintro e w2 ⟨rfl, hb2⟩
              have hs2 := hb2.size
              have HCS2 := Lib.hid (HCS1.out.later hb2)
              have HB2 : Hid (Below w.heap.size w w2) := HB1.out.trans (hb2.mono (by omega))
              have e0 : (w2.alloc (.map #[] 0)).cell? ⟨wr.heap.size, 0, none⟩ = some (.string l[j].name) := cell_later' (below_alloc w2 _) (cell_later' hb2 d0)
              have e1 : (w2.alloc (.map #[] 0)).cell? ⟨wr.heap.size, 1, none⟩ = some (.slice sa l[j].scopes.length scap) := cell_later' (below_alloc w2 _) (cell_later' hb2 d1)
              obtain ⟨W4, hup4, hmap4, hsz4, hoth4, hos4, htp4, hou4⟩ := update_name (w2.alloc (.map #[] 0)) w.heap.size w2.heap.size m l[j].name (HCS2.out.map.same ((below_alloc _ _).block _ HCS2.out.map.lt)) HCS.out.sizes HNM.out HNMN.out
              have hszA : (w2.alloc (Obj.map #[] 0)).heap.size = w2.heap.size + 1 := by simp
              have hbox : W4.heap[wr.heap.size]? = (w2.alloc (.map #[] 0)).heap[wr.heap.size]? := hoth4 _ (by omega)
              have f1 : W4.cell? ⟨wr.heap.size, 1, none⟩ = some (.slice sa l[j].scopes.length scap) := (World.cell?_of_block (a := ⟨wr.heap.size, 1, none⟩) hbox).trans e1
              have hinn : CandIn W4 w2.heap.size [] := (CandIn.made w2).same (hoth4 _ (by omega))
              obtain ⟨W5, hup5, hcand5, hsz5, hoth5, hos5, htp5, hou5⟩ := update_cand W4 w2.heap.size [] j (.slice sa l[j].scopes.length scap) hinn (fun p hp => (by cases hp)) (by omega)
              have HB5 : Hid (Below w.heap.size w W5) := by
                refine HB2.out.trans (((below_alloc w2 (.map #[] 0)).mono (by omega)).trans ⟨hos5.trans hos4, htp5.trans htp4, hou5.trans hou4, by omega, fun k hk => ?_⟩)
                rw [hoth5 k (by omega), hoth4 k (by omega)]
              have HCS5 : Hid (CandsAt W5 w.heap.size w.heap.size l vs (j + 1) (m ++ [(l[j].name, w2.heap.size)])) := by
                have h1 := HCS2.out.new (w' := W5) (ib := w2.heap.size) (by rw [HNA.out]; exact HNMN.out) (by rw [HNA.out]; exact HNM.out) (Nat.le_refl _) (by omega) (by rw [HNA.out]; exact hmap4.same (hoth5 _ (by omega))) (by rw [HV1.out]; exact hcand5) (fun k hk hne => by
                  rw [hoth5 k (by omega), hoth4 k hne]; exact (below_alloc w2 _).block k hk)
                rw [HNA.out] at h1
                exact h1
              have hsz5' : w.heap.size < W5.heap.size := by omega
              clear hb2 hmap4 hsz4 hoth4 hos4 htp4 hou4 hszA hbox hinn hcand5 hsz5 hoth5 hos5 htp5 hou5 d0 d1
              go_wp2_with fail
              go_roundw
              case rel => exact ⟨j + 1, _, by omega, by go_num, HUP1.out, HCS5.out, HB5.out, hsz5'⟩
              case measure => simp [intOf]; omega
            | some ib =>
              have hmem : (l[j].name, ib) ∈ m := HLOOK.out
              have hin1 := HCS1.out.inner _ hmem
              go_wp2_with fail
              refine (haveScopes_any B (entsOf l vs l[j].name j) (scopesAt l) l[j].scopes _ ib w1 (by omega) hin1.2.2 (fun p hp => ?_) (HRW.out.later (same_below ?_)) _ HANY.out).mono ?_
              · obtain ⟨g1, g2⟩ := entsOf_lt hp
                have hpl : p.1 < l.length := by omega
                obtain ⟨pa, pcap, p0, p1, p2, hpr⟩ := HC.out p.1 hpl
                have h1 := HVS.out b off rfl p.1 hpl
                rw [p1] at h1
                have h2 := Option.some.inj h1
                rw [g2, ← h2, scopesAt_eq hpl]
                exact hpr.later (same_below (HB1.out.mono hB))
              · exact HBR.out.mono (by omega)
              rintro e w2 ⟨rfl, hb2⟩
              have hs2 := hb2.size
              have HB2 : Hid (Below w.heap.size w w2) := HB1.out.trans (hb2.mono (by omega))
              have HCS2 := Lib.hid (HCS1.out.later hb2)
              have e1 := cell_later' hb2 d1
              clear hb2 d0 d1 hin1
              cases hall : (!((l.take j).all fun y => !y.same l[j])) with
              | true =>
                have HE : Hid (R = false) := HR.out.symm.trans (HNO.out (by rw [Bool.not_eq_true'] at hall; rw [hall, Bool.and_false]))
                clear hall
                go_wp2_with fail
                go_ret2
                exact ⟨HB2.out, .inl ⟨HE.out, rfl⟩⟩
              | false =>
                have HUP1 : Hid (bindsUp l (j + 1) = true) := by
                  rw [Bool.not_eq_false'] at hall
                  unfold Hid; rw [HSU.out, HUP.out, HOK.out, hall]; rfl
                clear hall
                have hin2 := HCS2.out.inner _ hmem
                have hobl := HCS2.out.map.lt
                obtain ⟨W5, hup5, hcand5, hsz5, hoth5, hos5, htp5, hou5⟩ := update_cand w2 ib (entsOf l vs l[j].name j) j (.slice sa l[j].scopes.length scap) hin2.2.2 (fun p hp => (entsOf_lt hp).1) (by omega)
                have HB5 : Hid (Below w.heap.size w W5) := HB2.out.trans ⟨hos5, htp5, hou5, by omega, fun k hk => hoth5 k (by have := hin2.1; omega)⟩
                have HCS5 : Hid (CandsAt W5 w.heap.size w.heap.size l vs (j + 1) m) := HCS2.out.old (ib := ib) (by rw [HNA.out]; exact hmem) (by rw [HNA.out, HV1.out]; exact hcand5) hoth5
                have hsz5' : w.heap.size < W5.heap.size := by omega
                clear hin2 hobl hcand5 hsz5 hoth5 hos5 htp5 hou5 hmem
                go_wp2_with fail
                go_roundw
                case rel => exact ⟨j + 1, _, by omega, by go_num, HUP1.out, HCS5.out, HB5.out, hsz5'⟩
                case measure => simp [intOf]; omega
      · obtain rfl : j = l.length := by omega
        have HE : Hid (R = true) := HR.out.symm.trans (by unfold bindsB; rw [HUP.out, decide_eq_true h60]; rfl)
        go_wp2_with fail
        go_ret2
        exact ⟨HB.out, .inr ⟨HE.out, _, _, rfl, HCS.out⟩⟩
  · have HE : Hid (R = false) := HR.out.symm.trans (by unfold bindsB; rw [decide_eq_false h60]; rfl)
    have h61 : 60 < l.length := by omega
    go_enter Try.func68, Try.ntmps68
    go_wp2_with fail
    go_ret2
    exact ⟨Below.refl _ _, .inl ⟨HE.out, rfl⟩⟩
/-- the scopes' values of a list of bindings -/
theorem BdRow.vals {B : Nat} {w : World} {a : Option Addr} {cap : Nat} {l : List Bd} (h : BdRow (· < B) w (.slice a l.length cap) l) :
    ∃ vs : Nat → Value, (∀ b off, a = some ⟨b, off, none⟩ → ∀ i, i < l.length → w.cell? ⟨b, off + i * 3 + 1, none⟩ = some (vs i)) := by
  obtain ⟨a0, cap0, e0, _, _, _, hrow⟩ := h
  injection e0 with e1 e2 e3
  subst e1
  rcases hrow with h0 | ⟨b, off, rfl, _, hc⟩
  · exact ⟨fun _ => undef, fun b off _ i hi => by rw [h0] at hi; simp at hi⟩
  · refine ⟨scopesCell w b off, fun b' off' e i hi => ?_⟩
    simp only [Option.some.injEq, Addr.mk.injEq, and_true] at e
    obtain ⟨rfl, rfl⟩ := e
    obtain ⟨sa, scap, c0, c1, c2, _⟩ := hc i hi
    unfold scopesCell
    rw [c1]
    rfl
set_option maxRecDepth 100000 in
set_option maxHeartbeats 400000 in
theorem implBindsValid_any (B : Nat) (l : List Bd) (v : Value) (w : World) (hB : B ≤ w.heap.size) (hv : BdRow (· < B) w v l) :
    Calls Try.prog 24 #[v] w fun e w' => e = .returned (.bool (bindsB l)) ∧ Below w.heap.size w w' := by
  obtain ⟨a, cap, rfl, _⟩ := id hv
  obtain ⟨vs, hvs⟩ := BdRow.vals hv
  have HC := Lib.hid (fun R hR => cands_any B l a cap w hB hv vs hvs R hR)
  clear hvs hv
  cases hb : bindsB l with
  | false =>
    have HX := Lib.hid (HC.out false hb)
    clear hb HC
    go_enter Try.func24, Try.ntmps24
    go_wp2_with fail
    refine HX.out.mono ?_
    rintro e w1 ⟨hb1, ⟨_, rfl⟩ | ⟨h, _⟩⟩
    · have HB1 := Lib.hid hb1
      clear hb1
      go_wp2_with fail
      go_ret
      exact ⟨rfl, HB1.out⟩
    · cases h
  | true =>
    have HX := Lib.hid (HC.out true hb)
    clear hb HC
    go_enter Try.func24, Try.ntmps24
    go_wp2_with fail
    refine HX.out.mono ?_
    rintro e w1 ⟨hb1, ⟨h, _⟩ | ⟨_, ob, m, rfl, hcs⟩⟩
    · cases h
    · have HB1 := Lib.hid hb1
      clear hb1 hcs
      go_wp2_with fail
      go_ret
      exact ⟨rfl, HB1.out⟩
end Go.Proofs.Ytcckhcedfmadeaa
