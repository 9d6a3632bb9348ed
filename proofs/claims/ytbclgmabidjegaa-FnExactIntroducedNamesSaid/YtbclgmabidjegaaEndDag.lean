/- The check for forms that hold themselves, of any form that reads as a tree, its parts apart or not. -/
import Derived.Test.YtbclgmabidjegaaEnds
import Derived.Test.YtbclgmabidjegaaSlim
namespace Go.Proofs.Ytbclgmabidjegaa
open Go.RowKit
set_option linter.unusedVariables false
set_option linter.unusedSimpArgs false
theorem IntRow.uniq {φ ψ : Nat → Prop} {w : World} {v : Value} {l m : List Int} (h : IntRow φ w v l) (g : IntRow ψ w v m) : l = m := by
  obtain ⟨a, cap, rfl, _, _, _, h⟩ := h
  obtain ⟨a', cap', e, _, _, _, g⟩ := g
  simp only [Value.slice.injEq] at e
  obtain ⟨rfl, e, rfl⟩ := e
  refine List.ext_getElem e fun i h1 h2 => ?_
  rcases h with rfl | ⟨b, o, rfl, _, h⟩
  · simp at h1
  · rcases g with rfl | ⟨b', o', e', _, g⟩
    · simp at h2
    · injection e' with e'
      injection e' with e1 e2 _
      subst e1; subst e2
      have := (h i h1).symm.trans (g i h2)
      simpa using this
mutual
/-- a value reads as one form -/
theorem InV.uniq {φ ψ : Nat → Prop} {w : World} : ∀ (f g : Fm) (v : Value), InV φ w f v → InV ψ w g v → f = g
  | .mk k nm n sc ks, .mk k' nm' n' sc' ks', v, h, h' => by
    unfold InV at h h'
    obtain ⟨vs, a, cap, rfl, _, _, _, hs, hc, hm, hk⟩ := h
    obtain ⟨vs', a', cap', e, _, _, _, hs', hc', hm', hk'⟩ := h'
    injection e with e
    injection e with e
    simp only [List.cons.injEq, and_true, Value.int.injEq, Value.string.injEq, Value.slice.injEq, true_and] at e
    obtain ⟨rfl, rfl, rfl, rfl, rfl, hl, rfl⟩ := e
    have h1 : sc = sc' := hs.uniq hs'
    have h2 : ks = ks' := by
      rcases hk with hk | ⟨b, o, ha, _, hk⟩
      · subst hk
        exact (List.length_eq_zero_iff.1 (by simpa using hl.symm)).symm
      · rcases hk' with hk' | ⟨b', o', ha', _, hk'⟩
        · subst hk'
          exact List.length_eq_zero_iff.1 (by simpa using hl)
        · rw [ha] at ha'
          injection ha' with ha'
          injection ha' with e1 e2 _
          subst e1; subst e2
          exact RowIn.uniq b o ks ks' hl hk hk'
    rw [h1, h2]
theorem RowIn.uniq {φ ψ : Nat → Prop} {w : World} (b : Nat) : ∀ (o : Nat) (ks ks' : List Fm), ks.length = ks'.length → RowIn φ w b o ks → RowIn ψ w b o ks' → ks = ks'
  | _, [], [], _, _, _ => rfl
  | _, [], _ :: _, h, _, _ => by simp at h
  | _, _ :: _, [], h, _, _ => by simp at h
  | o, f :: r, g :: s, h, h1, h2 => by
    unfold RowIn at h1 h2
    obtain ⟨⟨c0, c1, c2, c3, c4, a0, a1, a2, a3, a4, hf⟩, hr⟩ := h1
    obtain ⟨⟨d0, d1, d2, d3, d4, b0, b1, b2, b3, b4, hg⟩, hs⟩ := h2
    have e0 : c0 = d0 := by rw [a0] at b0; injection b0
    have e1 : c1 = d1 := by rw [a1] at b1; injection b1
    have e2 : c2 = d2 := by rw [a2] at b2; injection b2
    have e3 : c3 = d3 := by rw [a3] at b3; injection b3
    have e4 : c4 = d4 := by rw [a4] at b4; injection b4
    subst e0; subst e1; subst e2; subst e3; subst e4
    rw [InV.uniq f g _ hf hg, RowIn.uniq b (o + 5) r s (by simpa using h) hr hs]
end
/-- the form that lies at an address -/
def NodeIn (φ : Nat → Prop) (w : World) (p : Addr) (f : Fm) : Prop :=
  ∃ b o, p = ⟨b, o, none⟩ ∧ ∃ sa scap a cap, w.cell? ⟨b, o, none⟩ = some (.int .i64 f.kind) ∧ w.cell? ⟨b, o + 1, none⟩ = some (.string f.name) ∧
      w.cell? ⟨b, o + 2, none⟩ = some (.int .i64 f.n) ∧ w.cell? ⟨b, o + 3, none⟩ = some (.slice sa f.scopes.length scap) ∧
      w.cell? ⟨b, o + 4, none⟩ = some (.slice a f.kids.length cap) ∧
      InV φ w f (.agg #[.int .i64 f.kind, .string f.name, .int .i64 f.n, .slice sa f.scopes.length scap, .slice a f.kids.length cap])
theorem NodeIn.uniq {φ ψ : Nat → Prop} {w : World} {p : Addr} {f g : Fm} (h : NodeIn φ w p f) (h' : NodeIn ψ w p g) : f = g := by
  obtain ⟨b, o, rfl, sa, scap, a, cap, a0, a1, a2, a3, a4, hf⟩ := h
  obtain ⟨b', o', e, sa', scap', a', cap', b0, b1, b2, b3, b4, hg⟩ := h'
  injection e with e1 e2 _
  subst e1; subst e2
  rw [a0] at b0; rw [a1] at b1; rw [a2] at b2; rw [a3] at b3; rw [a4] at b4
  injection b0 with b0; injection b1 with b1; injection b2 with b2; injection b3 with b3; injection b4 with b4
  rw [← b0, ← b1, ← b2, ← b3, ← b4] at hg
  exact InV.uniq f g _ hf hg
theorem RowIn.entries {φ : Nat → Prop} {w : World} {b : Nat} : ∀ {ks : List Fm} {off : Nat}, RowIn φ w b off ks →
    ∃ es : List Ent, es.map (·.f) = ks ∧ es.map (·.p) = adrsOf b off ks.length ∧ (∀ x ∈ es, x.op = false ∧ NodeIn φ w x.p x.f)
  | [], off, h => ⟨[], rfl, rfl, fun x hx => (by cases hx)⟩
  | f :: r, off, h => by
    obtain ⟨sa, scap, a, cap, c0, c1, c2, c3, c4, hin⟩ := RowIn.at' h 0 (by simp)
    simp only [Nat.zero_mul, Nat.add_zero, List.getElem_cons_zero] at c0 c1 c2 c3 c4 hin
    have hr : RowIn φ w b (off + 5) r := by unfold RowIn at h; exact h.2
    obtain ⟨es, e1, e2, e3⟩ := RowIn.entries hr
    refine ⟨⟨⟨b, off, none⟩, f, [], false⟩ :: es, by simp [e1], by simp [adrsOf, e2], ?_⟩
    intro x hx
    rcases List.mem_cons.1 hx with rfl | hx
    · exact ⟨rfl, b, off, rfl, sa, scap, a, cap, c0, c1, c2, c3, c4, hin⟩
    · exact e3 x hx
theorem getM_putM (m : List (Addr × Bool)) (a b : Addr) (v : Bool) : getM (putM m a v) b = if b = a then some v else getM m b := by
  induction m with
  | nil => simp [getM, putM]
  | cons p r ih =>
    unfold putM
    by_cases h : a = p.1
    · rw [if_pos h]
      simp only [getM]
      by_cases h2 : b = p.1
      · rw [if_pos h2, if_pos (by rw [h, h2])]
      · rw [if_neg h2, if_neg (by rw [h]; exact h2), if_neg h2]
    · rw [if_neg h]
      simp only [getM, ih]
      by_cases h2 : b = p.1
      · rw [if_pos h2, if_pos h2, if_neg (by rw [h2]; exact fun e => h e.symm)]
      · rw [if_neg h2, if_neg h2]
def Pl (base : Nat) (w : World) (k : Nat) : Prop := k < base ∧ Plain w k
/-- what is so of the list of work and the map, whatever else turns -/
structure DagStat (w0 : World) (base : Nat) (m : List (Addr × Bool)) (l : List Ent) : Prop where
  opens : ∀ x ∈ l, x.op = true → ∃ y, (x.p, y) ∈ m
  trues : ∀ a, getM m a = some true → ∃ x ∈ l, x.op = true ∧ x.p = a
  plains : ∀ q ∈ m, q.1.block < base ∧ Plain w0 q.1.block
  node : ∀ x ∈ l, NodeIn (Pl base w0) w0 x.p x.f ∧ x.p.block < base ∧ Plain w0 x.p.block
  chain : l.Pairwise fun x y => x.op = true → y.f.count < x.f.count
/-- the top is taken off, and noted as closed -/
theorem DagStat.close {w0 : World} {base : Nat} {m : List (Addr × Bool)} {l : List Ent} {x : Ent} (h : DagStat w0 base m (l ++ [x])) : DagStat w0 base (putM m x.p false) l := by
  refine ⟨fun z hz ho => putM_keys.2 (.inr (h.opens z (List.mem_append_left _ hz) ho)), fun a ha => ?_, fun q hq => ?_, fun z hz => h.node z (List.mem_append_left _ hz), (List.pairwise_append.1 h.chain).1⟩
  · rw [getM_putM] at ha
    split at ha
    · cases ha
    · rename_i hne
      obtain ⟨z, hz, ho, hp⟩ := h.trues a ha
      rcases List.mem_append.1 hz with hz | hz
      · exact ⟨z, hz, ho, hp⟩
      · rw [List.mem_singleton] at hz
        subst hz
        exact absurd hp.symm hne
  · rcases putM_keys.1 ⟨q.2, hq⟩ with e | ⟨v, hv⟩
    · rw [e]; exact (h.node x (by simp)).2
    · exact h.plains (q.1, v) hv
theorem count_kid {f g : Fm} (h : g ∈ f.kids) : g.count < f.count := by
  have h1 := count_mem h
  have h2 := count_eq f
  omega
/-- a form is opened: its kids join the work -/
theorem DagStat.open {w0 : World} {base : Nat} {m : List (Addr × Bool)} {l : List Ent} {x : Ent} (h : DagStat w0 base m (l ++ [x])) :
    ∃ (b o : Nat) (sa : Option Addr) (scap : Nat) (a : Option Addr) (cap : Nat) (es : List Ent), x.p = ⟨b, o, none⟩ ∧ w0.cell? ⟨b, o + 4, none⟩ = some (.slice a x.f.kids.length cap) ∧ x.f.kids.length ≤ cap ∧ cap ≤ maxLen ∧
      es.map (·.f) = x.f.kids ∧ DagStat w0 base (putM m x.p true) (l ++ [{ x with op := true }] ++ es) ∧ (∀ y ∈ es, y.op = false) ∧
      (∀ y ∈ es, getM (putM m x.p true) y.p ≠ some true) ∧
      (x.f.kids ≠ [] → ∃ kb ko, a = some ⟨kb, ko, none⟩ ∧ kb < base ∧ Plain w0 kb ∧ es.map (·.p) = adrsOf kb ko x.f.kids.length) := by
  obtain ⟨hnode, hpb⟩ := h.node x (by simp)
  obtain ⟨b, o, hp, sa, scap, a, cap, c0, c1, c2, c3, c4, hin⟩ := hnode
  obtain ⟨_, hl, hm, hrow⟩ := hin.kids
  have stat : ∀ es : List Ent, es.map (·.f) = x.f.kids → (∀ y ∈ es, y.op = false ∧ NodeIn (Pl base w0) w0 y.p y.f ∧ y.p.block < base ∧ Plain w0 y.p.block) →
      DagStat w0 base (putM m x.p true) (l ++ [{ x with op := true }] ++ es) := fun es hes he => by
    have hcnt : ∀ y ∈ es, y.f.count < x.f.count := fun y hy => count_kid (by rw [← hes]; exact List.mem_map_of_mem hy)
    obtain ⟨p1, _, p3⟩ := List.pairwise_append.1 h.chain
    refine ⟨fun z hz ho => ?_, fun q hq => ?_, fun q hq => ?_, fun z hz => ?_, ?_⟩
    · rcases List.mem_append.1 hz with hz | hz
      · rcases List.mem_append.1 hz with hz | hz
        · exact putM_keys.2 (.inr (h.opens z (List.mem_append_left _ hz) ho))
        · rw [List.mem_singleton] at hz
          subst hz
          exact putM_keys.2 (.inl rfl)
      · rw [(he z hz).1] at ho; cases ho
    · rw [getM_putM] at hq
      split at hq
      · rename_i e
        exact ⟨{ x with op := true }, by simp, rfl, e.symm⟩
      · rename_i hne
        obtain ⟨z, hz, ho, hzp⟩ := h.trues q hq
        rcases List.mem_append.1 hz with hz | hz
        · exact ⟨z, by simp [hz], ho, hzp⟩
        · rw [List.mem_singleton] at hz
          subst hz
          exact absurd hzp.symm hne
    · rcases putM_keys.1 ⟨q.2, hq⟩ with e | ⟨v, hv⟩
      · rw [e]; exact hpb
      · exact h.plains (q.1, v) hv
    · rcases List.mem_append.1 hz with hz | hz
      · rcases List.mem_append.1 hz with hz | hz
        · exact h.node z (List.mem_append_left _ hz)
        · rw [List.mem_singleton] at hz
          subst hz
          exact h.node x (by simp)
      · exact (he z hz).2
    · refine List.pairwise_append.2 ⟨List.pairwise_append.2 ⟨p1, List.pairwise_singleton _ _, ?_⟩, ?_, ?_⟩
      · intro z hz y hy ho
        rw [List.mem_singleton] at hy
        subst hy
        exact p3 z hz x (by simp) ho
      · exact List.Pairwise.imp_of_mem (R := fun _ _ => True) (fun {c d} hc _ _ ho => by rw [(he c hc).1] at ho; cases ho) (List.pairwise_of_forall (fun _ _ => trivial))
      · intro z hz y hy ho
        rcases List.mem_append.1 hz with hz | hz
        · exact Nat.lt_trans (hcnt y hy) (p3 z hz x (by simp) ho)
        · rw [List.mem_singleton] at hz
          subst hz
          exact hcnt y hy
  have fresh : ∀ es : List Ent, es.map (·.f) = x.f.kids → (∀ y ∈ es, y.op = false ∧ NodeIn (Pl base w0) w0 y.p y.f ∧ y.p.block < base ∧ Plain w0 y.p.block) → ∀ y ∈ es, getM (putM m x.p true) y.p ≠ some true := fun es hes he y hy ht => by
    have hst := stat es hes he
    obtain ⟨z, hz, ho, hzp⟩ := hst.trues y.p ht
    have hzf : z.f = y.f := by
      have := (hst.node z hz).1
      rw [hzp] at this
      exact this.uniq (he y hy).2.1
    rcases List.mem_append.1 hz with hz | hz
    · have := (List.pairwise_append.1 hst.chain).2.2 z hz y hy ho
      rw [hzf] at this
      omega
    · rw [(he z hz).1] at ho; cases ho
  rcases hrow with h0 | ⟨kb, ko, rfl, hkb, hrow⟩
  · exact ⟨b, o, sa, scap, a, cap, [], hp, c4, hl, hm, by rw [h0]; rfl, stat [] (by rw [h0]; rfl) (fun y hy => (by cases hy)), fun y hy => (by cases hy), fun y hy => (by cases hy), fun h => absurd h0 h⟩
  · obtain ⟨es, e1, e2, e3⟩ := hrow.entries
    have hblk : ∀ y ∈ es, y.p.block = kb := fun y hy => (adrsOf_block _ _ _ _ (by rw [← e2]; exact List.mem_map_of_mem hy)).1
    have hall : ∀ y ∈ es, y.op = false ∧ NodeIn (Pl base w0) w0 y.p y.f ∧ y.p.block < base ∧ Plain w0 y.p.block := fun y hy => ⟨(e3 y hy).1, (e3 y hy).2, by rw [hblk y hy]; exact hkb.1, by rw [hblk y hy]; exact hkb.2⟩
    exact ⟨b, o, sa, scap, _, cap, es, hp, c4, hl, hm, e1, stat es e1 hall, fun y hy => (e3 y hy).1, fresh es e1 hall, fun _ => ⟨kb, ko, rfl, hkb.1, hkb.2, e2⟩⟩
theorem InV.pl {f : Fm} {v : Value} {w w' : World} (hb : Below w.heap.size w w') (h : InV (Pl w.heap.size w) w f v) : InV (Pl w'.heap.size w') w' f v :=
  InV.mono (fun k hk => ⟨Nat.lt_of_lt_of_le hk.1 hb.size, hk.2.same (hb.block _ hk.1)⟩) _ _ (InV.later (fun k hk => hb.block _ hk.1) _ _ h)
def DagRel (f : Fm) (base : Nat) (w0 : World) (mb k : Nat) (t : Value) (wr : World) : Prop :=
  ∃ m l, EndDyn base w0 wr mb m t l ∧ DagStat w0 base m l ∧ k = restE l ∧ restE l ≤ 2 * f.count
theorem DagStat.plainsAt {w0 wr : World} {base : Nat} {m : List (Addr × Bool)} {l : List Ent} (h : DagStat w0 base m l) (hb : Below base w0 wr) : ∀ q ∈ m, Plain wr q.1.block :=
  fun q hq => ((h.plains q hq).2).same (hb.block _ (h.plains q hq).1)
theorem pos_restE (x : Ent) : 1 ≤ restE [x] := length_restE [x]
set_option maxRecDepth 100000 in
set_option maxHeartbeats 2000000 in
theorem holdsItself_in (f : Fm) (tb : Nat) (sa a : Option Addr) (scap cap : Nat) (w : World) (hbox : FormBox w tb f sa scap a cap) (hpb : Plain w tb) (htb : tb < w.heap.size)
    (hv : InV (Pl w.heap.size w) w f (.agg #[.int .i64 f.kind, .string f.name, .int .i64 f.n, .slice sa f.scopes.length scap, .slice a f.kids.length cap])) (hc : f.count ≤ 4294967296) :
    Calls Try.prog 207 #[.pointer (some ⟨tb, 0, none⟩), .func (.func 179) #[] #[]] w fun e w' => e = .returned (.bool false) ∧ Below w.heap.size w w' := by
  have HV := Lib.hid hv
  have HBX := Lib.hid hbox
  have HPX := Lib.hid hpb
  have hbox2 := HBX.out
  obtain ⟨i0, hi0, hz0, hz1, hz2⟩ := info_parts info_ptr
  clear hv hbox hpb hbox2
  have hmk := make_ptrs w
  go_enter Try.func207, Try.ntmps207
  go_wp2_with fail
  clear hmk
  go_loopg [6] (2 * f.count) (fun k t wr => DagRel f w.heap.size w w.heap.size k t wr)
  case atStart =>
    obtain ⟨c0, c1, c2, c3, c4⟩ := HBX.out
    refine ⟨[], [⟨⟨tb, 0, none⟩, f, [], false⟩], ⟨?_, ?_, ?_, ?_, ?_, ?_⟩, ⟨fun x hx => ?_, fun q hq => (by simp [getM] at hq), fun q hq => (by cases hq), fun x hx => ?_, ?_⟩, by simp [restE], by simp [restE]⟩
    · exact ⟨#[], 0, (by rw [((below_alloc (w.alloc (Obj.map #[] 0)) _).block w.heap.size (by simp)), heap_alloc_new]), rfl⟩
    · have := World.ownsRow_lit (base := w.heap.size) (e := 218) (size := 1) (w.alloc (Obj.map #[] 0)) #[.pointer (some ⟨tb, 0, none⟩)] 1 (by simp) (by unfold maxLen; omega) (by simp)
      rw [size_alloc'] at this
      exact this
    · simp [Value.ownBlock]
    · exact ((Below.refl _ w).alloc (Nat.le_refl _) _).alloc (by simp) _
    · simp; omega
    · exact Nat.le_refl _
    · rw [List.mem_singleton] at hx
      subst hx
      intro h; cases h
    · rw [List.mem_singleton] at hx
      subst hx
      exact ⟨⟨tb, 0, rfl, sa, scap, a, cap, c0, c1, c2, c3, c4, HV.out⟩, htb, HPX.out⟩
    · simp
  case round =>
    obtain ⟨m, l, hd, hst, hk, hkc⟩ := hrel
    have HD := Lib.hid hd
    have HST := Lib.hid hst
    have HK := Lib.hid hk
    clear hk
    have hmlt := hd.map.lt
    rcases List.eq_nil_or_concat l with rfl | ⟨l0, x, rfl⟩
    · have hb : Below w.heap.size w wr := hd.below
      have hform : ∃ a cap, u6 = .slice a 0 cap := by
        rcases hd.own.2 with ⟨h, _⟩ | ⟨g, cap, _, h, _⟩
        · exact ⟨none, 0, h⟩
        · exact ⟨_, cap, h⟩
      obtain ⟨va, vc, rfl⟩ := hform
      have HB := Lib.hid hb
      clear hb hd hst
      go_wp2_with fail
      go_ret
      exact ⟨rfl, HB.out⟩
    · rw [List.concat_eq_append] at hd hst HD HST HK hkc
      obtain ⟨p, xf, xbs, xop⟩ := x
      have ho := hd.own
      rw [List.length_append, List.length_singleton, List.map_append] at ho
      obtain ⟨g, gcap, rfl, hgb, hgl⟩ := ho.form (by omega)
      have hgm : g ≠ w.heap.size := fun e => hd.ne (by simp [Value.ownBlock, e])
      have hcell : wr.cell? ⟨g, l0.length, none⟩ = some (.pointer (some p)) := by
        rw [ho.cellAt l0.length (by omega), List.getElem?_append_right (by simp)]; simp
      obtain ⟨_, _, _, hgc, hgcm⟩ := ownsRow_at ho
      unfold maxLen at hgcm
      have HCUT := Lib.hid (ownsRow_cut ho (by simp))
      have hplains := hst.plainsAt hd.below
      have hlen := length_restE l0
      have hre := restE_append l0 [⟨p, xf, xbs, xop⟩]
      have HRE := Lib.hid hre
      clear hre
      obtain ⟨hpb, hppl⟩ := (hst.node ⟨p, xf, xbs, xop⟩ (by simp)).2
      have hpp : Plain wr p.block := hppl.same (hd.below.block _ hpb)
      cases hvb : getM m p with
      | some vb =>
        have hlk := (lookup_ptr wr w.heap.size m p hd.map hplains hpp (some vb) hvb).1
        obtain ⟨W, hup, hsto⟩ := update_ptr wr w.heap.size m p false hd.map hplains hpp
        have HSTO := Lib.hid hsto
        have HCL := Lib.hid hst.close
        have hpos := pos_restE ⟨p, xf, xbs, xop⟩
        have HPOS := Lib.hid hpos
        clear hplains ho hd hst hsto hvb hpp hpos hppl
        go_wp2_with fail
        go_roundg (restE l0)
        case measure =>
          have h1 := HK.out
          have h2 := HRE.out
          have h3 := HPOS.out
          omega
        case rel =>
          have h2 := HRE.out
          refine ⟨putM m p false, l0, ⟨HSTO.out.1, HSTO.out.row (by simpa using HCUT.out) hgm, by simp [Value.ownBlock, hgm], HD.out.below.trans (HSTO.out.below HD.out.mbge), by rw [HSTO.out.2.1]; exact HD.out.size, HD.out.mbge⟩, HCL.out, rfl, by omega⟩
      | none =>
        have hnone := hvb
        obtain rfl : xop = false := by
          cases xop with
          | false => rfl
          | true =>
            obtain ⟨y, hy⟩ := hst.opens ⟨p, xf, xbs, true⟩ (by simp) rfl
            exact absurd rfl (getM_none.1 hvb (p, y) hy)
        clear hvb
        have hlk := (lookup_ptr wr w.heap.size m p hd.map hplains hpp none hnone).1
        obtain ⟨W, hup, hsto⟩ := update_ptr wr w.heap.size m p true hd.map hplains hpp
        obtain ⟨b, o, sb, sbcap, ka, kcap, es, hpe, hk4, hkl, hkm, hef, hnew, heo, hfre, hadr⟩ := hst.open
        simp only at hpe
        subst hpe
        have hb1 : b < w.heap.size := hpb
        have hbW : Below (w.heap.size) w W := hd.below.trans (hsto.below hd.mbge)
        have hc4 : W.cell? ⟨b, o + 4, none⟩ = some (.slice ka xf.kids.length kcap) := (hbW.cell (p := ⟨b, o + 4, none⟩) hb1).trans hk4
        have HSTO := Lib.hid hsto
        have HNEW := Lib.hid hnew
        have HADR := Lib.hid hadr
        have HEF := Lib.hid hef
        have HEO := Lib.hid heo
        have HFRE := Lib.hid hfre
        have HBW := Lib.hid hbW
        have HK4 := Lib.hid hk4
        unfold maxLen at hkm
        have hcx := count_eq xf
        have HCX := Lib.hid hcx
        have HKC := Lib.hid hkc
        have hlk2 := length_countAll xf.kids
        have hbnd : l0.length + xf.kids.length ≤ 17179869184 := by
          have h2 := HRE.out
          simp only [restE] at h2
          simp at h2
          omega
        have hlen1 : es.length = xf.kids.length := by rw [← HEF.out, List.length_map]
        have HL1 : Hid (es.length = xf.kids.length) := hlen1
        have hle1 : es.length ≤ xf.kids.length := by omega
        have hle2 : xf.kids.length ≤ es.length := by omega
        have HDYN : Hid (EndDyn (w.heap.size) w W w.heap.size (putM m ⟨b, o, none⟩ true) (.slice (some ⟨g, 0, none⟩) (l0.length + 1) gcap) ((l0 ++ [⟨⟨b, o, none⟩, xf, xbs, true⟩]) ++ es.take 0)) := by
          refine ⟨hsto.1, ?_, by simp [Value.ownBlock, hgm], hbW, by rw [hsto.2.1]; exact hd.size, hd.mbge⟩
          have := hsto.row ho hgm
          simpa using this
        clear hplains ho hd hst hsto hnone hpp hppl hnew hadr hef heo hfre hbW hk4 hkc hcx hlk2 hlen1
        go_wp2_with fail
        refine (kidsOf_any b o _ W hc4).mono ?_
        rintro e w1 ⟨rfl, rfl⟩
        go_wp2_with fail
        go_loopw [6, 46] (fun t i wr2 => EndIn (w.heap.size) w wr2 w.heap.size (putM m ⟨b, o, none⟩ true) (l0 ++ [⟨⟨b, o, none⟩, xf, xbs, true⟩]) es xf.kids.length t i) (fun _ i _ => xf.kids.length - (intOf i).toNat)
        case atStart => exact ⟨0, Nat.zero_le _, rfl, HDYN.out⟩
        case round =>
          obtain ⟨j, hj, rfl, hd2⟩ := hrel
          have HD2 := Lib.hid hd2
          by_cases hlt : j < xf.kids.length
          · obtain ⟨kb, ko, rfl, hkb, hkp, hmp⟩ := HADR.out (by intro e; rw [e] at hlt; simp at hlt)
            have hje : j < es.length := by omega
            have hpj : es[j].p = ⟨kb, ko + j * 5, none⟩ := by
              have h1 := adrsOf_get kb xf.kids.length ko j hlt
              rw [← hmp, List.getElem?_map, List.getElem?_eq_getElem hje] at h1
              simpa using h1
            obtain ⟨gv, hno2, hgv⟩ : ∃ gv, getM (putM m ⟨b, o, none⟩ true) ⟨kb, ko + j * 5, none⟩ = gv ∧ gv.getD false = false := by
              have := HFRE.out es[j] (List.getElem_mem hje)
              rw [hpj] at this
              refine ⟨_, rfl, ?_⟩
              cases hq : getM (putM m ⟨b, o, none⟩ true) ⟨kb, ko + j * 5, none⟩ with
              | none => rfl
              | some c => cases c with
                | false => rfl
                | true => exact absurd hq this
            have hpw : Plain wr kb := hkp.same (hd2.below.block _ hkb)
            have hlk3 := (lookup_ptr wr w.heap.size _ ⟨kb, ko + j * 5, none⟩ hd2.map (HNEW.out.plainsAt hd2.below) hpw gv hno2).2
            rw [hgv] at hlk3
            have hown := hd2.own
            have hbz := hd2.size
            have hmb := hd2.map.lt
            have hln : ((l0 ++ [⟨⟨b, o, none⟩, xf, xbs, true⟩]) ++ es.take j : List Ent).length = l0.length + 1 + j := by
              rw [List.length_append, List.length_append, List.length_take, List.length_singleton]; omega
            have HLN := Lib.hid hln
            rw [hln] at hown
            have hL1 : (l0.length + 1 + j) + 1 ≤ maxLen := by unfold maxLen; omega
            have hL2 : ((l0.length + 1 + j) + 1) * 8 ≤ 140737488355328 := by omega
            have hlw := hown.lt
            have HLW := Lib.hid hlw
            have hnem := HD2.out.ne
            have HNEM := Lib.hid hnem
            have HPJ := Lib.hid hpj
            have hj0 : (0 : Int) ≤ (j : Int) := by omega
            have hj1 : (j : Int) < (xf.kids.length : Int) := by omega
            clear hd2 hno2 hgv hpw hln hpj hmp hlw hnem
            go_wp2_with (at_builtin; refine wpList_append_lies _ rfl _ _ 250 rfl w.heap.size 218 i0 _ 1 8 Try.underlying250 hi0 hz0 hz1 hz2 rfl (by decide) _ _ _ rfl (hown.alloc _) ⟨wr.heap.size, 0, none⟩ 1 1 [.pointer (some ⟨kb, ko + j * 5, none⟩)] rfl rfl (World.news_of_block (cs := #[.pointer (some ⟨kb, ko + j * 5, none⟩)]) (t := 218) (fr := (0, 0)) (heap_alloc_new wr _)) (by simp [Value.oneCell']) (by omega) hL1 hL2 (by simp; omega) (wr.heap.size + 1) (by simp) ?_; intro gg qcap w4 hown1 hgrow hat hlt4; have HOWN1 := Lib.hid hown1; have HGROW := Lib.hid hgrow; have HAT := Lib.hid hat; clear hown1 hgrow hat)
            have HNEXT : Hid (EndDyn (w.heap.size) w w4 w.heap.size (putM m ⟨b, o, none⟩ true) (.slice (some ⟨gg, 0, none⟩) (l0.length + 1 + j + 1) qcap) ((l0 ++ [⟨⟨b, o, none⟩, xf, xbs, true⟩]) ++ es.take (j + 1))) := by
              have hA : Below w.heap.size wr (wr.alloc (.cells #[.pointer (some ⟨kb, ko + j * 5, none⟩)] 218)) := (Below.refl _ wr).alloc hbz _
              have hgs := HGROW.out.size
              rw [size_alloc'] at hgs
              refine ⟨?_, ?_, ?_, ?_, by omega, HD2.out.mbge⟩
              · refine HD2.out.map.same ?_
                rw [HGROW.out.block w.heap.size (by rw [size_alloc']; omega) (fun e => HNEM.out e.symm)]
                exact (below_alloc wr _).block _ hmb
              · rw [List.take_succ_eq_append_getElem hje, ← List.append_assoc, List.length_append, HLN.out, List.map_append, List.length_singleton, List.map_singleton, HPJ.out]
                exact HOWN1.out
              · intro e
                have e : gg = w.heap.size := by simpa [Value.ownBlock] using e
                rcases HAT.out with h | h
                · exact HNEM.out (by rw [← e]; exact h)
                · omega
              · exact HD2.out.below.trans (hA.grown HGROW.out (by rw [size_alloc']; omega) (fun k hk => (HLW.out k hk).1))
            clear HOWN1 HGROW HAT
            go_wp2_with fail
            go_roundw
            case rel =>
              refine ⟨j + 1, by omega, by go_num, HNEXT.out⟩
            case measure => simp [intOf]; omega
          · obtain rfl : j = xf.kids.length := by omega
            have HEND : Hid (DagRel f (w.heap.size) w w.heap.size (restE ((l0 ++ [⟨⟨b, o, none⟩, xf, xbs, true⟩]) ++ es)) u6 wr ∧ restE ((l0 ++ [⟨⟨b, o, none⟩, xf, xbs, true⟩]) ++ es) < gk) := by
              have h0 : es.take xf.kids.length = es := List.take_of_length_le hle1
              have h1 := HRE.out
              have h2 := HK.out
              have h3 := HKC.out
              have h4 := restE_append (l0 ++ [⟨⟨b, o, none⟩, xf, xbs, true⟩]) es
              have h5 := restE_append l0 [⟨⟨b, o, none⟩, xf, xbs, true⟩]
              have h6 := restE_kids es HEO.out
              have h7 := HCX.out
              rw [HEF.out] at h6
              simp only [restE] at h1 h5
              simp at h1 h5
              refine ⟨⟨_, _, by rw [← h0]; exact HD2.out, HNEW.out, rfl, by omega⟩, by omega⟩
            clear hd2
            go_wp2_with fail
            go_roundg (restE ((l0 ++ [⟨⟨b, o, none⟩, xf, xbs, true⟩]) ++ es))
            case measure => exact HEND.out.2
            case rel => exact HEND.out.1
set_option maxRecDepth 100000 in
set_option maxHeartbeats 1000000 in
theorem endless_in (f : Fm) (v : Value) (w : World) (hv : InV (Pl w.heap.size w) w f v) (hc : f.count ≤ 4294967296) :
    Calls Try.prog 177 #[v] w fun e w' => e = .returned (.bool false) ∧ Below w.heap.size w w' := by
  have HV := Lib.hid hv
  have HIN := Lib.hid (InV.mono (ψ := (· < w.heap.size)) (fun k hk => hk.1) _ _ hv)
  obtain ⟨sa, scap, a, cap, rfl⟩ := hv.form
  clear hv
  go_enter Try.func177, Try.ntmps177
  go_wp2_with fail
  refine (implFormValid_any w.heap.size f _ _ (by simp) (InV.later (same_below (below_alloc _ _)) _ _ HIN.out)).mono ?_
  rintro e w1 ⟨rfl, hb1⟩
  have HBX := Lib.hid ((FormBox.fresh w f sa a scap cap 33).later hb1)
  have HPX : Hid (Plain w1 w.heap.size) := (Plain.fresh w _ _).later hb1
  have hs1 : w.heap.size + 1 ≤ w1.heap.size := by have := hb1.size; simpa using this
  have HB1 : Hid (Below w.heap.size w w1) := (below_alloc _ _).trans (hb1.mono (by simp))
  clear hb1
  cases hfv : formB f with
  | true =>
    go_wp2_with fail
    go_ret
    exact ⟨rfl, HB1.out⟩
  | false =>
    go_wp2_with fail
    refine (holdsItself_in f w.heap.size sa a scap cap w1 HBX.out HPX.out (by omega) (InV.pl HB1.out HV.out) hc).mono ?_
    rintro e w2 ⟨rfl, hb2⟩
    have HB2 : Hid (Below w.heap.size w w2) := HB1.out.trans (hb2.mono (by omega))
    clear hb2
    go_wp2_with fail
    go_ret
    exact ⟨rfl, HB2.out⟩
theorem endlessAt_in {f : Fm} {v : Value} {w : World} (hv : InV (Pl w.heap.size w) w f v) (hc : f.count ≤ 4294967296) : EndlessAt v w :=
  fun w' hb => endless_in f v w' (InV.pl hb hv) hc
end Go.Proofs.Ytbclgmabidjegaa
