/- The contracts of the program's map of bindings by name, and of its BindsValid. -/
import Derived.Test.YtcckhcedfmadeaaCandName
import Derived.Test.YtcckhcedfmadeaaBd
import Derived.Test.YtcckhcedfmadeaaSame
import Derived.Test.YtcckhcedfmadeaaData
import Derived.WalkSpells
import Derived.Deep.LoopGhost
namespace Go.Proofs.Ytcckhcedfmadeaa
open Go.RowKit Go.Maps Go.ChangeMaps Go.MapKept
set_option linter.unusedVariables false
set_option linter.unusedSimpArgs false
set_option maxRecDepth 100000 in
set_option maxHeartbeats 1000000 in
theorem bindValid_any (B : Nat) (x : Bd) (sa : Option Addr) (scap : Nat) (w : World) (hB : B ≤ w.heap.size) (hr : IntRow (· < B) w (.slice sa x.scopes.length scap) x.scopes) (hn : x.name.size ≤ maxLen) :
    Calls Try.prog 104 #[.agg #[.string x.name, .slice sa x.scopes.length scap, .int .i64 x.id]] w fun e w' => e = .returned (.bool x.ok) ∧ Below w.heap.size w w' := by
  have HR := Lib.hid hr
  clear hr
  go_enter Try.func104, Try.ntmps104
  go_wp2_with fail
  refine (implNameValid_any x.name _ hn).mono ?_
  rintro e w1 ⟨rfl, hb1⟩
  have c1 : w1.cell? ⟨w.heap.size, 1, none⟩ = some (.slice sa x.scopes.length scap) := cell_later' hb1 (World.cell?_alloc_at _ _ _ _ rfl)
  have c2 : w1.cell? ⟨w.heap.size, 2, none⟩ = some (.int .i64 x.id) := cell_later' hb1 (World.cell?_alloc_at _ _ _ _ rfl)
  have hs1 : w.heap.size + 1 ≤ w1.heap.size := by have := hb1.size; simpa using this
  have HB1 : Hid (Below w.heap.size w w1) := (below_alloc w _).trans (hb1.mono (by simp))
  clear hb1
  cases h1 : nameB x.name.data.toList with
  | false =>
    have HE : Hid (x.ok = false) := by unfold Hid Bd.ok; rw [h1]; rfl
    clear h1
    go_wp2_with fail
    go_ret
    exact ⟨ret_bool HE.out.symm, HB1.out⟩
  | true =>
    go_wp2_with fail
    refine (implScopes_any (· < B) x.scopes _ w1 (HR.out.later (same_below (HB1.out.mono hB)))).mono ?_
    rintro e w2 ⟨rfl, hb2⟩
    have d2 := cell_later' hb2 c2
    have HB2 : Hid (Below w.heap.size w w2) := HB1.out.trans (hb2.mono (by omega))
    clear hb2 c1 c2
    cases h2 : scopesB x.scopes with
    | false =>
      have HE : Hid (x.ok = false) := by unfold Hid Bd.ok; rw [h1, h2]; rfl
      clear h1 h2
      go_wp2_with fail
      go_ret
      exact ⟨ret_bool HE.out.symm, HB2.out⟩
    | true =>
      by_cases h3 : 0 < x.id
      · have h4 : decide (0 < x.id) = true := decide_eq_true h3
        by_cases h5 : x.id ≤ 999
        · have h6 : decide (x.id ≤ 999) = true := decide_eq_true h5
          have HE : Hid (x.ok = true) := by unfold Hid Bd.ok; rw [h1, h2, decide_eq_true (show 1 ≤ x.id by omega), h6]; rfl
          clear h1 h2
          go_wp2_with fail
          go_ret
          exact ⟨ret_bool HE.out.symm, HB2.out⟩
        · have h6 : decide (x.id ≤ 999) = false := decide_eq_false h5
          have HE : Hid (x.ok = false) := by unfold Hid Bd.ok; rw [h6]; simp
          clear h1 h2
          go_wp2_with fail
          go_ret
          exact ⟨ret_bool HE.out.symm, HB2.out⟩
      · have h4 : decide (0 < x.id) = false := decide_eq_false h3
        have HE : Hid (x.ok = false) := by unfold Hid Bd.ok; rw [decide_eq_false (show ¬ 1 ≤ x.id by omega)]; simp
        clear h1 h2
        go_wp2_with fail
        go_ret
        exact ⟨ret_bool HE.out.symm, HB2.out⟩
set_option maxRecDepth 100000 in
set_option maxHeartbeats 1000000 in
theorem haveScopes_nil (v : Value) (w : World) :
    Calls Try.prog 105 #[.map none, v] w fun e w' => e = .returned (.bool false) ∧ Below w.heap.size w w' := by
  have h1 := run_range_nilMap (P := Try.prog) w 132 _ _ Try.underlying132
  have h2 := fun ty => run_next_nilMap (P := Try.prog) w ty 0 0 #[]
  go_enter Try.func105, Try.ntmps105
  go_wp2_with fail
  go_loopw [9] (fun t wr => wr = w.alloc (.mapIter none 0 #[] 0)) (fun _ _ => 0)
  case atStart => exact rfl
  case round =>
    obtain rfl := hrel
    go_wp2_with fail
    go_ret
    exact ⟨rfl, below_alloc w _⟩
/-- a candidate with other scopes -/
def NotAt (sc : Nat → List Int) (m : List Int) (p : Nat × Value) : Prop := (sc p.1 == m) = false
set_option maxRecDepth 100000 in
set_option maxHeartbeats 1000000 in
theorem haveScopes_any (B : Nat) (l : List (Nat × Value)) (sc : Nat → List Int) (m : List Int) (v : Value) (ib : Nat) (w : World) (hB : B ≤ w.heap.size) (h : CandIn w ib l) (hl : ∀ p ∈ l, IntRow (· < B) w p.2 (sc p.1)) (hv : IntRow (· < B) w v m) (R : Bool)
    (hR : (l.any fun p => sc p.1 == m) = R) :
    Calls Try.prog 105 #[.map (some ib), v] w fun e w' => e = .returned (.bool R) ∧ Below w.heap.size w w' := by
  have HR := Lib.hid hR
  have HL := Lib.hid hl
  have HV := Lib.hid hv
  have hlt := h.lt
  clear hR hl hv
  obtain ⟨a, cap, rfl, _⟩ := id HV.out
  go_enter Try.func105, Try.ntmps105
  go_wp2_with (at_range; refine wpList_range_cand _ rfl _ 132 rfl _ _ Try.underlying132 ib l (NotAt sc m) rfl h ?_; intro w0 cnt0 hm0 hb0 hs0)
  have HM0 := Lib.hid hm0
  have HB0 := Lib.hid hb0
  have hs0' : w.heap.size < w0.heap.size := by omega
  clear hm0 hb0 hs0
  go_loopg [9] cnt0 (fun k t wr => ∃ cnt, k = cnt ∧ CandMid wr w.heap.size ib l (NotAt sc m) cnt ∧ Below w.heap.size w wr ∧ w.heap.size < wr.heap.size)
  case atStart => exact ⟨_, rfl, HM0.out, HB0.out, hs0'⟩
  case round =>
    obtain ⟨cnt, rfl, hm, hb, hsz⟩ := hrel
    have HM := Lib.hid hm
    have HB := Lib.hid hb
    clear hm hb
    go_wp2_with (at_next; refine wpList_next_cand _ rfl _ rfl w.heap.size ib l (NotAt sc m) gk rfl HM.out ?_ ?_)
    · intro hdone
      have HE : Hid (R = false) := by
        unfold Hid
        rw [← HR.out, List.any_eq_false]
        intro p hp
        have h1 : (sc p.1 == m) = false := hdone p hp
        rw [h1]
        decide
      clear hdone
      go_wp2_with fail
      go_ret
      exact ⟨ret_bool HE.out.symm, HB.out⟩
    · intro k u w1 cnt1 hp hmid hcnt hib hbl hsz1 hoth hent
      have HP := Lib.hid hp
      have HMID := Lib.hid hmid
      have HCNT := Lib.hid hcnt
      have hbw : Below w.heap.size w w1 := HB.out.trans hbl
      have hrow := (HL.out (k, u) hp).later (same_below (hbw.mono hB))
      obtain ⟨pa, pcap, hpv, _⟩ := id hrow
      have hpv : u = .slice pa (sc k).length pcap := hpv
      subst hpv
      have hv1 := HV.out.later (same_below (hbw.mono hB))
      have HROW := Lib.hid hrow
      have HV1 := Lib.hid hv1
      have HB1 := Lib.hid hbw
      have hsz2 : w.heap.size < w1.heap.size := by omega
      have hlt2 : ib < w1.heap.size := by omega
      clear hp hmid hcnt hib hbl hsz1 hoth hbw hrow hv1
      go_wp2_with fail
      refine (slicesEqual_any (· < B) (· < B) (sc k) m _ _ w1 HROW.out HV1.out).mono ?_
      rintro e w2 ⟨rfl, hb2⟩
      have HB2 : Hid (Below w.heap.size w w2) := HB1.out.trans (hb2.mono (by omega))
      have h1 := hb2.block ib hlt2
      have h2 := hb2.block w.heap.size hsz2
      have HS := Lib.hid (fun (h : CandMid w1 w.heap.size ib l (NotAt sc m) cnt1) => h.same h1 h2)
      have hsz3 : w.heap.size < w2.heap.size := by have := hb2.size; omega
      clear hb2 h1 h2
      cases he : (sc k == m) with
      | true =>
        have HE : Hid (R = true) := by
          unfold Hid
          rw [← HR.out, List.any_eq_true]
          exact ⟨(k, _), HP.out, he⟩
        clear he
        go_wp2_with fail
        go_ret
        exact ⟨ret_bool HE.out.symm, HB2.out⟩
      | false =>
        have HN := Lib.hid (HS.out (HMID.out he))
        clear he
        go_wp2_with fail
        go_roundg cnt1
        case measure => exact HCNT.out
        case rel => exact ⟨cnt1, rfl, HN.out, HB2.out, hsz3⟩
/-- the name at a place -/
def nameAt (l : List Bd) (i : Nat) : ByteArray := match l[i]? with
  | some x => x.name
  | none => ByteArray.empty
def scopesAt (l : List Bd) (i : Nat) : List Int := match l[i]? with
  | some x => x.scopes
  | none => []
theorem nameAt_eq {l : List Bd} {i : Nat} (h : i < l.length) : nameAt l i = l[i].name := by simp [nameAt, List.getElem?_eq_getElem h]
theorem scopesAt_eq {l : List Bd} {i : Nat} (h : i < l.length) : scopesAt l i = l[i].scopes := by simp [scopesAt, List.getElem?_eq_getElem h]
/-- the entries of the map of a name, of the bindings in front of a place -/
def entsOf (l : List Bd) (vs : Nat → Value) (s : ByteArray) : Nat → List (Nat × Value)
  | 0 => []
  | j + 1 => if nameAt l j = s then entsOf l vs s j ++ [(j, vs j)] else entsOf l vs s j
theorem entsOf_lt {l : List Bd} {vs : Nat → Value} {s : ByteArray} : ∀ {j : Nat} {p : Nat × Value}, p ∈ entsOf l vs s j → p.1 < j ∧ p.2 = vs p.1
  | 0, p, h => by simp [entsOf] at h
  | j + 1, p, h => by
    unfold entsOf at h
    split at h
    · rcases List.mem_append.1 h with h | h
      · have := entsOf_lt h; exact ⟨by omega, this.2⟩
      · rw [List.mem_singleton] at h
        subst h
        exact ⟨Nat.lt_succ_self _, rfl⟩
    · have := entsOf_lt h; exact ⟨by omega, this.2⟩
theorem entsOf_none {l : List Bd} {vs : Nat → Value} {s : ByteArray} : ∀ {j : Nat}, (∀ i, i < j → nameAt l i ≠ s) → entsOf l vs s j = []
  | 0, _ => rfl
  | j + 1, h => by
    unfold entsOf
    rw [if_neg (h j (Nat.lt_succ_self _))]
    exact entsOf_none fun i hi => h i (by omega)
theorem beq_name (x y : ByteArray) : (x.toList == y.toList) = true ↔ x = y := by
  constructor
  · intro h
    rw [beq_iff_eq, Lib.toList_data, Lib.toList_data] at h
    exact ByteArray.ext (Array.toList_inj.1 h)
  · rintro rfl; simp
theorem entsOf_any {l : List Bd} {vs : Nat → Value} {x : Bd} : ∀ {j : Nat}, j ≤ l.length → ((entsOf l vs x.name j).any fun p => scopesAt l p.1 == x.scopes) = !((l.take j).all fun y => !y.same x)
  | 0, _ => by simp [entsOf]
  | j + 1, h => by
    have hj : j < l.length := by omega
    have ih := entsOf_any (l := l) (vs := vs) (x := x) (j := j) (by omega)
    rw [bd_take_succ l x j hj, Bool.not_and, Bool.not_not, ← ih]
    rw [show entsOf l vs x.name (j + 1) = if nameAt l j = x.name then entsOf l vs x.name j ++ [(j, vs j)] else entsOf l vs x.name j from rfl]
    by_cases hn : nameAt l j = x.name
    · rw [if_pos hn, List.any_append]
      rw [nameAt_eq hj] at hn
      simp only [List.any_cons, List.any_nil, Bool.or_false]
      congr 1
      unfold Bd.same
      rw [(beq_name _ _).2 hn, Bool.true_and, scopesAt_eq hj]
    · rw [if_neg hn]
      rw [nameAt_eq hj] at hn
      have : l[j].same x = false := by
        unfold Bd.same
        cases he : (l[j].name.toList == x.name.toList) with
        | false => rfl
        | true => exact absurd ((beq_name _ _).1 he) hn
      rw [this, Bool.or_false]
/-- the map of the bindings in front of a place -/
structure CandsAt (w : World) (base ob : Nat) (l : List Bd) (vs : Nat → Value) (j : Nat) (m : List (ByteArray × Nat)) : Prop where
  map : MapN w ob m
  ge : base ≤ ob
  inner : ∀ p ∈ m, base ≤ p.2 ∧ p.2 ≠ ob ∧ CandIn w p.2 (entsOf l vs p.1 j)
  apart : m.Pairwise (fun p q => p.1 ≠ q.1 ∧ p.2 ≠ q.2)
  has : ∀ i, i < j → ∃ ib, (nameAt l i, ib) ∈ m
  sizes : ∀ p ∈ m, p.1.size ≤ maxLen
theorem CandsAt.later {w w' : World} {base ob : Nat} {l : List Bd} {vs : Nat → Value} {j : Nat} {m : List (ByteArray × Nat)} (h : CandsAt w base ob l vs j m) (hb : Below w.heap.size w w') : CandsAt w' base ob l vs j m :=
  ⟨h.map.same (hb.block _ h.map.lt), h.ge, fun p hp => ⟨(h.inner p hp).1, (h.inner p hp).2.1, (h.inner p hp).2.2.same (hb.block _ (h.inner p hp).2.2.lt)⟩, h.apart, h.has, h.sizes⟩
/-- a binding of a name that is known -/
theorem CandsAt.old {w w' : World} {base ob ib j : Nat} {l : List Bd} {vs : Nat → Value} {m : List (ByteArray × Nat)} (h : CandsAt w base ob l vs j m) (hm : (nameAt l j, ib) ∈ m)
    (hc : CandIn w' ib (entsOf l vs (nameAt l j) j ++ [(j, vs j)])) (hk : ∀ k, k ≠ ib → w'.heap[k]? = w.heap[k]?) : CandsAt w' base ob l vs (j + 1) m := by
  have h0 := h.inner _ hm
  refine ⟨h.map.same (hk _ (fun e => h0.2.1 e.symm)), h.ge, fun p hp => ⟨(h.inner p hp).1, (h.inner p hp).2.1, ?_⟩, h.apart, fun i hi => ?_, h.sizes⟩
  · by_cases hn : nameAt l j = p.1
    · have hp2 : p.2 = ib := by
        have := List.pairwise_iff_getElem.1 h.apart
        obtain ⟨i1, h1, e1⟩ := List.mem_iff_getElem.1 hp
        obtain ⟨i2, h2, e2⟩ := List.mem_iff_getElem.1 hm
        rcases Nat.lt_trichotomy i1 i2 with hlt | rfl | hlt
        · exact absurd (by rw [e1, e2]; exact hn.symm) (this i1 i2 h1 h2 hlt).1
        · rw [e1] at e2; rw [e2]
        · exact absurd (by rw [e1, e2]; exact hn) (this i2 i1 h2 h1 hlt).1
      unfold entsOf
      rw [if_pos hn, ← hn, hp2]
      exact hc
    · have hp2 : p.2 ≠ ib := by
        intro e
        have := List.pairwise_iff_getElem.1 h.apart
        obtain ⟨i1, h1, e1⟩ := List.mem_iff_getElem.1 hp
        obtain ⟨i2, h2, e2⟩ := List.mem_iff_getElem.1 hm
        rcases Nat.lt_trichotomy i1 i2 with hlt | rfl | hlt
        · exact absurd (by rw [e1, e2]; exact e) (this i1 i2 h1 h2 hlt).2
        · rw [e1] at e2; exact hn (by rw [e2])
        · exact absurd (by rw [e1, e2]; exact e.symm) (this i2 i1 h2 h1 hlt).2
      unfold entsOf
      rw [if_neg hn]
      exact (h.inner p hp).2.2.same (hk _ hp2)
  · rcases Nat.lt_succ_iff_lt_or_eq.1 hi with hi | rfl
    · exact h.has i hi
    · exact ⟨ib, hm⟩
/-- a binding of a new name -/
theorem CandsAt.new {w w' : World} {base ob ib j : Nat} {l : List Bd} {vs : Nat → Value} {m : List (ByteArray × Nat)} (h : CandsAt w base ob l vs j m) (hm : ∀ ib, (nameAt l j, ib) ∉ m) (hs : (nameAt l j).size ≤ maxLen)
    (hib : w.heap.size ≤ ib) (hbase : base ≤ w.heap.size) (hmap : MapN w' ob (m ++ [(nameAt l j, ib)])) (hc : CandIn w' ib [(j, vs j)]) (hk : ∀ k, k < w.heap.size → k ≠ ob → w'.heap[k]? = w.heap[k]?) :
    CandsAt w' base ob l vs (j + 1) (m ++ [(nameAt l j, ib)]) := by
  have hne : ∀ i, i < j → nameAt l i ≠ nameAt l j := fun i hi e => by
    obtain ⟨c, hc⟩ := h.has i hi
    rw [e] at hc
    exact hm c hc
  have hol := h.map.lt
  refine ⟨hmap, h.ge, fun p hp => ?_, ?_, fun i hi => ?_, fun p hp => ?_⟩
  · rcases List.mem_append.1 hp with hp | hp
    · have h1 := h.inner p hp
      have h2 := h1.2.2.lt
      refine ⟨h1.1, h1.2.1, ?_⟩
      unfold entsOf
      rw [if_neg (fun e => hm p.2 (by rw [e]; exact hp))]
      exact h1.2.2.same (hk _ h2 h1.2.1)
    · rw [List.mem_singleton] at hp
      subst hp
      refine ⟨by omega, by show ib ≠ ob; omega, ?_⟩
      unfold entsOf
      rw [if_pos rfl, entsOf_none hne]
      exact hc
  · rw [List.pairwise_append]
    refine ⟨h.apart, List.pairwise_singleton _ _, fun p hp q hq => ?_⟩
    rw [List.mem_singleton] at hq
    subst hq
    have h2 := (h.inner p hp).2.2.lt
    exact ⟨fun e => hm p.2 (by rw [show nameAt l j = p.1 from e.symm]; exact hp), by show p.2 ≠ ib; omega⟩
  · rcases Nat.lt_succ_iff_lt_or_eq.1 hi with hi | rfl
    · obtain ⟨c, hc⟩ := h.has i hi
      exact ⟨c, List.mem_append_left _ hc⟩
    · exact ⟨ib, List.mem_append_right _ (by simp)⟩
  · rcases List.mem_append.1 hp with hp | hp
    · exact h.sizes p hp
    · rw [List.mem_singleton] at hp
      subst hp
      exact hs
end Go.Proofs.Ytcckhcedfmadeaa
