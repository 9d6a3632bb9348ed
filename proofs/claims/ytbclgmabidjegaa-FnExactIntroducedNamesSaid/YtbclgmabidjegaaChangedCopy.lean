/- The contract of the change of all nodes of a form: scopes copied. -/
import Derived.Test.YtbclgmabidjegaaChangeC
import Derived.Test.YtbclgmabidjegaaData
import Derived.Deep.LoopGhost
namespace Go.Proofs.Ytbclgmabidjegaa.chgCopy
open Go.RowKit
set_option linter.unusedVariables false
set_option linter.unusedSimpArgs false
theorem info_ptr : (Try.prog.info? 218).map (fun i => (i.zero, i.size, i.bytes)) = some (some (.pointer none), 1, 8) := by kernel_rfl
/-- the change of a node -/
def chF : Int → List Int → List Int := fun _ sc => sc
/-- between two rounds -/
def ChgRel (f : Fm) (w w1 : World) (k : Nat) (t : Value) (wr : World) : Prop :=
  ∃ pb v l D E, t = .pointer (some ⟨pb, 0, none⟩) ∧ ChgMid chF w.heap.size w wr (⟨w.heap.size, 0, none⟩, f) l D E ∧ wr.cell? ⟨pb, 0, none⟩ = some v ∧ wr.frozen? ⟨pb, 0, none⟩ = false ∧ w.heap.size ≤ pb ∧
    wr.ownsRow w.heap.size 218 1 v l.length (l.map fun x => .pointer (some x.1)) ∧ Sep l D E (w.heap.size + 1) pb v ∧ v.ownBlock ≠ some pb ∧ (∀ k, RelB l D E k → k ≠ w.heap.size + 1) ∧ wr.heap[w.heap.size + 1]? = w1.heap[w.heap.size + 1]? ∧ w.heap.size + 1 < wr.heap.size ∧
    k = countI l ∧ countI l ≤ f.count ∧ (∀ x ∈ l, x.2.sz ≤ 1048576)
/-- between two rounds of the inner loop -/
def ChgIn (f : Fm) (w w1 : World) (pb b o gg qcap : Nat) (kids : List Fm) (l0 : List (Addr × Fm)) (D : Nat → Nat → Prop) (E : List Nat) (i : Value) (wr : World) : Prop :=
  ∃ (j qg qc : Nat), j ≤ kids.length ∧ i = .int .i64 j ∧ ChgMid chF w.heap.size w wr (⟨w.heap.size, 0, none⟩, f) (l0 ++ itemsOf gg 0 kids) D E ∧ wr.cell? ⟨pb, 0, none⟩ = some (.slice (some ⟨qg, 0, none⟩) (l0.length + j) qc) ∧
    wr.frozen? ⟨pb, 0, none⟩ = false ∧ wr.ownsRow w.heap.size 218 1 (.slice (some ⟨qg, 0, none⟩) (l0.length + j) qc) (l0.length + j) ((l0 ++ (itemsOf gg 0 kids).take j).map fun x => .pointer (some x.1)) ∧ qg ≠ pb ∧
    (∀ k, RelB (l0 ++ itemsOf gg 0 kids) D E k ∨ k = w.heap.size + 1 → qg ≠ k) ∧ wr.heap[w.heap.size + 1]? = w1.heap[w.heap.size + 1]? ∧ w.heap.size + 1 < wr.heap.size ∧
    wr.cell? ⟨b, o + 4, none⟩ = some (.slice (some ⟨gg, 0, none⟩) kids.length qcap)
/-- what the loads of the inner loop's region read -/
def ChgHeld (pb b o gg m qcap qg n qc : Nat) (w' : World) : Prop := w'.cell? ⟨pb, 0, none⟩ = some (.slice (some ⟨qg, 0, none⟩) n qc) ∧ w'.cell? ⟨b, o + 4, none⟩ = some (.slice (some ⟨gg, 0, none⟩) m qcap)
theorem ChgRel.next {f : Fm} {w w1 wr : World} {v : Value} {l : List (Addr × Fm)} {D : Nat → Nat → Prop} {E : List Nat} {t : TypeId} (h : ChgMid chF w.heap.size w wr (⟨w.heap.size, 0, none⟩, f) l D E)
    (hown : wr.ownsRow w.heap.size 218 1 v l.length (l.map fun x => .pointer (some x.1))) (hsep : ∀ k, RelB l D E k ∨ k = w.heap.size + 1 → v.ownBlock ≠ some k) (hrb : ∀ k, RelB l D E k → k ≠ w.heap.size + 1)
    (hro : wr.heap[w.heap.size + 1]? = w1.heap[w.heap.size + 1]?) (hrs : w.heap.size + 1 < wr.heap.size) (hc : countI l ≤ f.count) (hsz : ∀ x ∈ l, x.2.sz ≤ 1048576) :
    ChgRel f w w1 (countI l) (.pointer (some ⟨wr.heap.size, 0, none⟩)) (wr.alloc (.cells #[v] t)) := by
  have hb := below_alloc wr (.cells #[v] t)
  refine ⟨wr.heap.size, v, l, D, E, rfl, h.later (hb.mono h.size) (by simp) (fun k hk => hb.block k (h.relLt hk)), World.cell?_alloc_at _ _ _ _ rfl, World.frozen?_alloc_at _ _ _ _ rfl, h.size, hown.alloc _, fun k hk => ⟨?_, hsep k hk⟩, fun e => ?_, hrb, (hb.block _ hrs).trans hro, by simp; omega, rfl, hc, hsz⟩
  · rcases hk with hk | rfl
    · have := h.relLt hk; omega
    · omega
  · have := (hown.lt _ e).2; omega
set_option maxRecDepth 100000 in
set_option maxHeartbeats 4000000 in
theorem changed_any (f : Fm) (v : Value) (w : World) (hv : InV (· < w.heap.size) w f v) (hsz : f.sz ≤ 1048576) :
    Calls Try.prog 184 #[v, .func (.func 185) #[] #[]] w (ToPost (f.chg chF) w) := by
  have HV := Lib.hid hv
  obtain ⟨sa, scap, a, cap, rfl⟩ := hv.form
  obtain ⟨i0, hi0, hz0, hz1, hz2⟩ := info_parts info_ptr
  obtain ⟨j0, hj0, hjz0, hjz1, hjz2⟩ := info_parts Try.infoFm
  have hcf := f.count_le
  clear hv
  go_enter Try.func184, Try.ntmps184
  go_wp2_with fail
  generalize hW : ((((w.alloc (Obj.cells #[.int .i64 f.kind, .string f.name, .int .i64 f.n, .slice sa f.scopes.length scap, .slice a f.kids.length cap] 33)).alloc
    (Obj.cells #[.int .i64 0, .string { data := #[] }, .int .i64 0, .slice none 0 0, .slice none 0 0] 33)).alloc
    (Obj.cells #[.pointer (some ⟨w.heap.size, 0, none⟩)] 218)).alloc (Obj.cells #[.slice (some ⟨w.heap.size + 1 + 1, 0, none⟩) 1 1] 250)) = w1
  have hs1 : w1.heap.size = w.heap.size + 4 := by rw [← hW]; simp
  have hb01 : Below w.heap.size w w1 := by rw [← hW]; exact ((((Below.refl _ w).alloc (Nat.le_refl _) _).alloc (by simp) _).alloc (by simp; omega) _).alloc (by simp; omega) _
  have g0 : w1.heap[w.heap.size]? = some (.cells #[.int .i64 f.kind, .string f.name, .int .i64 f.n, .slice sa f.scopes.length scap, .slice a f.kids.length cap] 33 (0, 0)) := by
    rw [← hW, (below_alloc _ _).block _ (by simp; omega), (below_alloc _ _).block _ (by simp; omega), (below_alloc _ _).block _ (by simp), heap_alloc_new]
  have g1 : w1.heap[w.heap.size + 1]? = some (.cells #[.int .i64 0, .string { data := #[] }, .int .i64 0, .slice none 0 0, .slice none 0 0] 33 (0, 0)) := by
    have := heap_alloc_new (w.alloc (Obj.cells #[.int .i64 f.kind, .string f.name, .int .i64 f.n, .slice sa f.scopes.length scap, .slice a f.kids.length cap] 33)) (Obj.cells #[.int .i64 0, .string { data := #[] }, .int .i64 0, .slice none 0 0, .slice none 0 0] 33)
    rw [size_alloc'] at this
    rw [← hW, (below_alloc _ _).block _ (by simp), (below_alloc _ _).block _ (by simp), this]
  have g2 : w1.ownsRow w.heap.size 218 1 (.slice (some ⟨w.heap.size + 1 + 1, 0, none⟩) 1 1) 1 [.pointer (some ⟨w.heap.size, 0, none⟩)] := by
    have := World.ownsRow_lit (base := w.heap.size) (e := 218) (size := 1) ((w.alloc (Obj.cells #[.int .i64 f.kind, .string f.name, .int .i64 f.n, .slice sa f.scopes.length scap, .slice a f.kids.length cap] 33)).alloc
      (Obj.cells #[.int .i64 0, .string { data := #[] }, .int .i64 0, .slice none 0 0, .slice none 0 0] 33)) #[.pointer (some ⟨w.heap.size, 0, none⟩)] 1 (by simp; omega) (by unfold maxLen; omega) (by simp)
    rw [size_alloc', size_alloc'] at this
    rw [← hW]
    exact this.alloc _
  have g3 : w1.cell? ⟨w.heap.size + 1 + 1 + 1, 0, none⟩ = some (.slice (some ⟨w.heap.size + 1 + 1, 0, none⟩) 1 1) := by
    rw [← hW]; exact World.cell?_alloc_at _ _ _ _ (by simp)
  have g4 : w1.frozen? ⟨w.heap.size + 1 + 1 + 1, 0, none⟩ = false := by
    rw [← hW]; exact World.frozen?_alloc_at _ _ _ _ (by simp)
  have HG0 := Lib.hid g0
  have HG1 := Lib.hid g1
  have HB01 := Lib.hid hb01
  have HREL : Hid (ChgRel f w w1 f.count (.pointer (some ⟨w.heap.size + 1 + 1 + 1, 0, none⟩)) w1) := by
    have hpl : Plain w1 w.heap.size := ⟨_, _, g0⟩
    refine ⟨_, _, [(⟨w.heap.size, 0, none⟩, f)], fun _ _ => False, [], rfl, ChgMid.start hb01 (by omega) ⟨w.heap.size, 0, rfl, sa, scap, a, cap, ?_, ?_, ?_, ?_, ?_, fun j _ => hpl.frozen _, HV.out⟩ (Nat.le_refl _) (by show w.heap.size < _; omega), g3, g4, by omega, g2, ?_, by simp [Value.ownBlock], ?_, rfl, by omega, by simp [countI], by simp [countI], ?_⟩
    · rw [cell_of_row w1 w.heap.size 0 _ _ _ g0]; rfl
    · rw [cell_of_row w1 w.heap.size (0 + 1) _ _ _ g0]; rfl
    · rw [cell_of_row w1 w.heap.size (0 + 2) _ _ _ g0]; rfl
    · rw [cell_of_row w1 w.heap.size (0 + 3) _ _ _ g0]; rfl
    · rw [cell_of_row w1 w.heap.size (0 + 4) _ _ _ g0]; rfl
    · intro k hk
      have hk' : k = w.heap.size ∨ k = w.heap.size + 1 := by
        rcases hk with (⟨x, hx, rfl⟩ | ⟨o, h⟩ | h) | h
        · rw [List.mem_singleton] at hx; subst hx; exact .inl rfl
        · exact h.elim
        · cases h
        · exact .inr h
      simp only [Value.ownBlock, ne_eq, Option.some.injEq]
      omega
    · intro k hk
      rcases hk with ⟨x, hx, rfl⟩ | ⟨o, h⟩ | h
      · rw [List.mem_singleton] at hx; subst hx; exact Nat.ne_of_lt (Nat.lt_succ_self _)
      · exact h.elim
      · cases h
    · intro x hx
      rw [List.mem_singleton] at hx
      subst hx
      exact hsz
  clear hW g0 g1 g2 g3 g4 hb01
  go_loopg [5] f.count (fun k t wr => ChgRel f w w1 k t wr)
  case atStart => exact HREL.out
  case round =>
    obtain ⟨pb, v, l, D, E, rfl, hmid, hcell, hfree, hpb, hown, hsep, hvp, hrb, hro, hrs, hk, hkc, hszs⟩ := hrel
    have HMID := Lib.hid hmid
    have HSEP := Lib.hid hsep
    have HK := Lib.hid hk
    have HRO := Lib.hid hro
    have HSZ := Lib.hid hszs
    have HRB := Lib.hid hrb
    clear hk hro hszs hsep hrb
    rcases List.eq_nil_or_concat l with rfl | ⟨l0, x, rfl⟩
    · obtain ⟨bs, hfin, hnew, hpln, hbsE⟩ := hmid.ends
      have hnro : ∀ c ∈ bs, c ≠ w.heap.size + 1 := fun c hc => HRB.out c (.inr (.inr (hbsE c hc)))
      have HNRO := Lib.hid hnro
      obtain ⟨rb, ro, e, fsa, fscap, fa, fcap, q0, q1, q2, q3, q4, qf, qown⟩ := hfin
      injection e with e1 e2
      subst e1 e2
      simp only [Nat.zero_add] at q0 q1 q2 q3 q4 qown
      have hform : ∃ a cap, v = .slice a 0 cap := by
        rcases hown.2 with ⟨h, _⟩ | ⟨g, cap, _, h, _⟩
        · exact ⟨none, 0, h⟩
        · exact ⟨_, cap, h⟩
      obtain ⟨va, vc, rfl⟩ := hform
      have hro1 := HRO.out.trans HG1.out
      have r0 : wr.cell? ⟨w.heap.size + 1, 0, none⟩ = some (.int .i64 0) := by rw [cell_of_row wr _ 0 _ _ _ hro1]; rfl
      have r1 : wr.cell? ⟨w.heap.size + 1, 1, none⟩ = some (.string { data := #[] }) := by rw [cell_of_row wr _ 1 _ _ _ hro1]; rfl
      have r2 : wr.cell? ⟨w.heap.size + 1, 2, none⟩ = some (.int .i64 0) := by rw [cell_of_row wr _ 2 _ _ _ hro1]; rfl
      have r3 : wr.cell? ⟨w.heap.size + 1, 3, none⟩ = some (.slice none 0 0) := by rw [cell_of_row wr _ 3 _ _ _ hro1]; rfl
      have r4 : wr.cell? ⟨w.heap.size + 1, 4, none⟩ = some (.slice none 0 0) := by rw [cell_of_row wr _ 4 _ _ _ hro1]; rfl
      have hplr : Plain wr (w.heap.size + 1) := ⟨_, _, hro1⟩
      have t0 := hplr.frozen 0
      have t1 := hplr.frozen 1
      have t2 := hplr.frozen 2
      have t3 := hplr.frozen 3
      have t4 := hplr.frozen 4
      have hrbl : w.heap.size < wr.heap.size := by omega
      have HNEW := Lib.hid hnew
      have HPLN := Lib.hid hpln
      have HQO := Lib.hid qown
      have HBE := Lib.hid hmid.below
      clear hnew hpln qown hmid hro1 hplr qf hown hnro hbsE
      go_wp2_with fail
      have hth : ∀ j, j < 5 → ∃ v, wr.cell? ⟨w.heap.size + 1, 0 + j, none⟩ = some v := fun j hj => by
        rw [Nat.zero_add]
        match j, hj with
        | 0, _ => exact ⟨_, r0⟩
        | 1, _ => exact ⟨_, r1⟩
        | 2, _ => exact ⟨_, r2⟩
        | 3, _ => exact ⟨_, r3⟩
        | 4, _ => exact ⟨_, r4⟩
      obtain ⟨z0, z1, z2, z3, z4⟩ := set5_in wr (w.heap.size + 1) 0 (.int .i64 f.kind) (.string f.name) (.int .i64 f.n) (.slice fsa (chF f.kind f.scopes).length fscap) (.slice fa f.kids.length fcap) hth
      have hss : SameOn bs wr (set5 wr (w.heap.size + 1) 0 (.int .i64 f.kind) (.string f.name) (.int .i64 f.n) (.slice fsa (chF f.kind f.scopes).length fscap) (.slice fa f.kids.length fcap)) :=
        fun c hc => set5_block _ _ _ _ _ _ _ _ (HNRO.out c hc)
      have hown5 := OwnV.later _ _ _ hss HQO.out
      have hpl5 := HPLN.out.same hss
      have hz5 := set5_size wr (w.heap.size + 1) 0 (.int .i64 f.kind) (.string f.name) (.int .i64 f.n) (.slice fsa (chF f.kind f.scopes).length fscap) (.slice fa f.kids.length fcap)
      have hbe5 := set5_below HBE.out (b := w.heap.size + 1) (by omega) 0 (.int .i64 f.kind) (.string f.name) (.int .i64 f.n) (.slice fsa (chF f.kind f.scopes).length fscap) (.slice fa f.kids.length fcap)
      have hnew5 : NewBs bs w.heap.size (set5 wr (w.heap.size + 1) 0 (.int .i64 f.kind) (.string f.name) (.int .i64 f.n) (.slice fsa (chF f.kind f.scopes).length fscap) (.slice fa f.kids.length fcap)).heap.size := by rw [hz5]; exact HNEW.out
      unfold set5 at z0 z1 z2 z3 z4 hown5 hpl5 hbe5 hnew5
      simp only [Nat.zero_add] at z0 z1 z2 z3 z4 hown5 hpl5 hbe5 hnew5
      refine bodyPost_ret (v := .agg #[.int .i64 f.kind, .string f.name, .int .i64 f.n, .slice fsa (chF f.kind f.scopes).length fscap, .slice fa f.kids.length fcap]) (by simp [results, Try.results184, go_sem, z0, z1, z2, z3, z4]) rfl ?_
      refine ⟨fsa, fscap, fa, fcap, bs, ?_, ?_, hnew5, hpl5, hbe5⟩
      · rw [chg_eq]
        simp only [Fm.kind, Fm.name, Fm.n, Fm.scopes, Fm.kids, chgAll_length]
      · have := hown5
        rw [chg_eq] at this ⊢
        simp only [Fm.kind, Fm.name, Fm.n, Fm.scopes, Fm.kids, chgAll_length] at this ⊢
        exact this
    · rw [List.concat_eq_append] at HMID HSEP HK HSZ HRB hown hkc hmid
      obtain ⟨p, xf⟩ := x
      rw [List.length_append, List.length_singleton, List.map_append] at hown
      obtain ⟨g, gcap, rfl, hgb, hgl⟩ := hown.form (by omega)
      have hgp : g ≠ pb := fun e => hvp (by simp [Value.ownBlock, e])
      have hlen := length_countI l0
      have hca := countI_append l0 [(p, xf)]
      have HCA := Lib.hid hca
      have hsp : ∀ k, RelB (l0 ++ [(p, xf)]) D E k ∨ k = w.heap.size + 1 → k ≠ pb ∧ g ≠ k := fun k hk => ⟨(HSEP.out k hk).1, fun e => (HSEP.out k hk).2 (by simp [Value.ownBlock, e])⟩
      have HSP := Lib.hid hsp
      have HOWN := Lib.hid hown
      have hbsz : w.heap.size ≤ wr.heap.size := hmid.size
      clear hsp hown hmid hca hvp HSEP
      obtain ⟨⟨b, o, e, _⟩, _⟩ := HMID.out.todo (p, xf) (by simp)
      simp only at e
      subst e
      go_wp2_with fail
      refine (popPtr_any w.heap.size pb g gcap l0.length (l0.map fun x => .pointer (some x.1)) (.pointer (some ⟨b, o, none⟩)) _ hcell hfree HOWN.out (by simp) hgp hpb hbsz).mono ?_
      rintro e w2 ⟨rfl, hpop⟩
      have hm2 : ChgMid chF w.heap.size w w2 (⟨w.heap.size, 0, none⟩, f) (l0 ++ [(⟨b, o, none⟩, xf)]) D E :=
        HMID.out.later hpop.2.2.2.2.2 hpop.2.2.2.1 (fun k hk => hpop.2.2.2.2.1 k (HMID.out.relLt hk) (HSP.out k (.inl hk)).1)
      obtain ⟨⟨b', o', e, xsa, xscap, xa, xcap, x0, x1, x2, hx3, hx4, xfr, xin⟩, hbb, hbl⟩ := hm2.todo (⟨b, o, none⟩, xf) (by simp)
      injection e with e1 e2
      subst e1 e2
      simp only at hx3 hx4 hbb hbl xin
      have hxf3 := xfr 3 (by omega)
      have hsr : IntRow (· < w.heap.size) w2 (.slice xsa xf.scopes.length xscap) xf.scopes := by
        have h := InV.later (same_below hm2.below) _ _ xin
        cases xf with
        | mk k nm n sc ks =>
          unfold InV at h
          obtain ⟨vs, a', cap', e, _, _, _, hsc, _⟩ := h
          injection e with e
          injection e with e
          simp only [List.cons.injEq, and_true] at e
          obtain ⟨_, _, _, rfl, _⟩ := e
          exact hsc
      have hxs := HSZ.out (⟨b, o, none⟩, xf) (by simp)
      simp only at hxs
      have hxl : xf.scopes.length ≤ 1048576 := Nat.le_trans (sz_scopes xf).1 hxs
      have HM2 := Lib.hid hm2
      have HPOP := Lib.hid hpop
      have HXIN := Lib.hid xin
      have HXFR := Lib.hid xfr
      clear hpop hm2 xin xfr hcell hfree x0 x1 x2
      go_wp2_with fail
      refine (copyScopes_any (· < w.heap.size) b o xf.scopes xsa xscap _ hx3 hxf3 hsr hxl).mono ?_
      rintro e w3 ⟨rfl, hch⟩
      have HCH : Hid (Changed (chF xf.kind xf.scopes) b o w2 w3) := hch
      have hy4 := (hch.cell (o + 4) (by omega)).trans hx4
      have hyf4 := (hch.frozen (o + 4)).trans (HXFR.out 4 (by omega))
      clear hch hx3 hx4 hxf3 hsr hxl
      have hpo := HPOP.out.2.2.1
      obtain ⟨_, hg2, _, _, _⟩ := ownsRow_at hpo
      have hbx : b ≠ pb ∧ g ≠ b := HSP.out b (.inl (.inl ⟨_, List.mem_append_right _ (List.mem_singleton.2 rfl), rfl⟩))
      have hbro : b ≠ w.heap.size + 1 := HRB.out b (.inl ⟨_, List.mem_append_right _ (List.mem_singleton.2 rfl), rfl⟩)
      have hpr : w.heap.size + 1 ≠ pb ∧ g ≠ w.heap.size + 1 := HSP.out _ (.inr rfl)
      have hz23 : w2.heap.size ≤ w3.heap.size := HCH.out.only.size
      have hzr2 : wr.heap.size ≤ w2.heap.size := HPOP.out.2.2.2.1
      have hpl : pb < w2.heap.size := cell_lt HPOP.out.1
      have hs23 : ∀ k, k < w2.heap.size → k ≠ b → w3.heap[k]? = w2.heap[k]? := fun k hk hn => HCH.out.only.block k hk (by simpa using hn)
      have hc3 : w3.cell? ⟨pb, 0, none⟩ = some (.slice (some ⟨g, 0, none⟩) l0.length gcap) := (World.cell?_of_block (a := ⟨pb, 0, none⟩) (hs23 pb hpl (Ne.symm hbx.1))).trans HPOP.out.1
      have hf3 : w3.frozen? ⟨pb, 0, none⟩ = false := (World.frozen?_of_block (a := ⟨pb, 0, none⟩) (hs23 pb hpl (Ne.symm hbx.1))).trans HPOP.out.2.1
      have ho3 : w3.ownsRow w.heap.size 218 1 (.slice (some ⟨g, 0, none⟩) l0.length gcap) l0.length (l0.map fun x => .pointer (some x.1)) :=
        hpo.kept (row := some b) ⟨HCH.out.only.os, HCH.out.only.tape, HCH.out.only.output, HCH.out.only.size, fun k hk hn => hs23 k hk (fun e => hn (by rw [e]))⟩ (.inr (by simp [Value.ownBlock, hbx.2]))
      have hr3 : w3.heap[w.heap.size + 1]? = w1.heap[w.heap.size + 1]? := (hs23 _ (by omega) (Ne.symm hbro)).trans ((HPOP.out.2.2.2.2.1 _ hrs hpr.1).trans HRO.out)
      have HO3 := Lib.hid ho3
      have HR3 := Lib.hid hr3
      have hcount : countI l0 + xf.count ≤ f.count := by
        have := HCA.out
        simp only [countI] at this
        omega
      have HKE : Hid (gk = countI l0 + xf.count) := by
        have h1 := HK.out
        have h2 := HCA.out
        simp only [countI] at h2
        unfold Hid
        omega
      have hxc := count_eq xf
      have HXC := Lib.hid hxc
      clear hpo hs23 ho3 hr3 hxc
      by_cases hk0 : xf.kids = []
      · have hy4' : w3.cell? ⟨b, o + 4, none⟩ = some (.slice xa 0 xcap) := by rw [hk0] at hy4; exact hy4
        obtain ⟨D', E', hm5, hgr⟩ := chgStep_nil HM2.out HCH.out hy4 hk0
        have hsel : ∀ k, RelB l0 D' E' k → RelB (l0 ++ [(⟨b, o, none⟩, xf)]) D E k ∨ w2.heap.size ≤ k := hgr
        have HNX : Hid (ChgRel f w w1 (countI l0) (.pointer (some ⟨(w3.setCell ⟨b, o + 4, none⟩ (.slice none 0 0)).heap.size, 0, none⟩)) ((w3.setCell ⟨b, o + 4, none⟩ (.slice none 0 0)).alloc (.cells #[.slice (some ⟨g, 0, none⟩) l0.length gcap] 250)) ∧ countI l0 < gk) := by
          refine ⟨ChgRel.next hm5 (ownsRow_setFar HO3.out hbx.2) (fun k hk => ?_) (fun k hk => ?_) ?_ (by simp [World.setCell]; omega) (by omega) (fun x hx => HSZ.out x (List.mem_append_left _ hx)), by have := HKE.out; have := HXC.out; omega⟩
          · simp only [Value.ownBlock, ne_eq, Option.some.injEq]
            rcases hk with hk | rfl
            · rcases hsel k hk with h | h
              · exact (HSP.out k (.inl h)).2
              · omega
            · exact hpr.2
          · rcases hsel k hk with h | h
            · exact HRB.out k h
            · omega
          · rw [Below.heap_setCell _ _ _ _ (Ne.symm hbro)]; exact HR3.out
        have hcn : (w3.setCell ⟨b, o + 4, none⟩ (.slice none 0 0)).cell? ⟨pb, 0, none⟩ = some (.slice (some ⟨g, 0, none⟩) l0.length gcap) := by
          rw [World.cell?_setCell_other _ _ _ _ (by intro e; injection e with e1 _; exact hbx.1 e1)]; exact hc3
        have hsn : (w3.setCell ⟨b, o + 4, none⟩ (.slice none 0 0)).heap.size = w3.heap.size := by simp [World.setCell]
        have HSN := Lib.hid hsn
        clear hm5 hgr hsel hy4 hk0 hsn
        go_wp2_with (at_builtin; refine wpList_append_empty rfl _ _ 31 rfl 33 j0 Try.underlying31 hj0 rfl _ _ rfl ?_)
        go_loopw [29] (fun i wr2 => i = .int .i64 0 ∧ wr2 = w3.setCell ⟨b, o + 4, none⟩ (.slice none 0 0)) (fun _ _ => 0)
        case atStart => exact ⟨rfl, rfl⟩
        case round =>
          obtain ⟨rfl, rfl⟩ := hrel
          go_wp2_with fail
          go_roundg (countI l0)
          case measure => exact HNX.out.2
          case rel => have := HNX.out.1; rw [HSN.out] at this; exact this
      · obtain ⟨hkl, hkc1, hkm1, hkr⟩ := HXIN.out.kids
        obtain ⟨xb, xo, rfl, hxb, hrow⟩ : ∃ xb xo, xa = some ⟨xb, xo, none⟩ ∧ xb < w.heap.size ∧ RowIn (· < w.heap.size) w xb xo xf.kids := by
          rcases hkr with h | h
          · exact absurd h hk0
          · exact h
        have hmpos : 0 < xf.kids.length := by
          cases hh : xf.kids with
          | nil => exact absurd hh hk0
          | cons _ _ => simp
        have hkids := (sz_scopes xf).2
        have hm1 : 0 + xf.kids.length ≤ maxLen := by unfold maxLen; omega
        have hm2 : (0 + xf.kids.length) * 80 ≤ 140737488355328 := by omega
        have hb03 : Below w.heap.size w w3 := HM2.out.below.trans (HCH.out.only.below (fun c hm => by rw [List.mem_singleton] at hm; subst hm; exact hbb) HM2.out.size)
        have HNW : Hid (∀ j u, (rowCells w3 xb xo (xf.kids.length * 5))[j]? = some u → w3.cell? ((⟨xb, xo, none⟩ : Addr).add j) = some u) := by
          intro j u hj
          have hjl : j < xf.kids.length * 5 := by have := (List.getElem?_eq_some_iff.1 hj).1; rw [rowCells_length] at this; exact this
          rw [rowCells_get _ _ _ _ _ hjl] at hj
          obtain ⟨v, hv, _⟩ := hrow.there j hjl
          have hv3 := (hb03.cell (p := ⟨xb, xo + j, none⟩) hxb).trans hv
          rw [hv3] at hj
          have e : (⟨xb, xo, none⟩ : Addr).add j = ⟨xb, xo + j, none⟩ := by unfold Addr.add; split <;> simp_all
          rw [e, hv3]
          simpa using hj
        have HN1 : Hid (∀ u ∈ rowCells w3 xb xo (xf.kids.length * 5), u.oneCell' = true) := by
          intro u hu
          obtain ⟨j, hj, rfl⟩ := List.mem_map.1 hu
          rw [List.mem_range] at hj
          obtain ⟨v, hv, h1⟩ := hrow.there j hj
          rw [(hb03.cell (p := ⟨xb, xo + j, none⟩) hxb).trans hv]
          exact h1
        have HRW := Lib.hid hrow
        have hbl3 : b < w3.heap.size := by omega
        have hbase3 : w.heap.size ≤ w3.heap.size := by omega
        clear hkr hrow hb03 hk0
        go_wp2_with (at_builtin; refine wpList_append_lies _ rfl _ _ 31 rfl w.heap.size 33 j0 _ 5 80 Try.underlying31 hj0 hjz0 hjz1 hjz2 rfl (by decide) _ 0 [] rfl (World.ownsRow_nil _ _ _ _) ⟨xb, xo, none⟩ xf.kids.length xcap (rowCells w3 xb xo (xf.kids.length * 5)) rfl (rowCells_length _ _ _ _) HNW.out HN1.out hmpos hm1 hm2 hbase3 w3.heap.size rfl ?_; intro gg qcap w4 hown1 hgrow hat hlt4; have HOWN1 := Lib.hid hown1; have HGROW : Hid (w3.grownBy w4 none) := hgrow; have hc4 := (hgrow.cell_far ⟨b, o + 4, none⟩ hbl3 (show some b ≠ none from by simp)).trans hy4; have hf4 := (hgrow.frozen_far ⟨b, o + 4, none⟩ hbl3 (show some b ≠ none from by simp)).trans hyf4; have HAT : Hid ((none : Option Nat) = some gg ∨ gg = w3.heap.size) := hat; clear hown1 hgrow hat)
        have hgg : gg = w3.heap.size := by
          rcases HAT.out with h | h
          · cases h
          · exact h
        subst hgg
        obtain ⟨D', E', hm5, hgr, hrbb⟩ := chgStep_kids HM2.out HCH.out hy4 HRW.out hxb HGROW.out (by have := HOWN1.out; rw [Nat.zero_add, List.nil_append] at this; exact this)
        have hs34 : ∀ k, k < w3.heap.size → w4.heap[k]? = w3.heap[k]? := fun k hk => HGROW.out.block k hk (by simp)
        have hpl3 : pb < w3.heap.size := by omega
        have HST : Hid (ChgIn f w w1 pb b o w3.heap.size qcap xf.kids l0 D' E' (.int .i64 0) (w4.setCell ⟨b, o + 4, none⟩ (.slice (some ⟨w3.heap.size, 0, none⟩) xf.kids.length qcap))) := by
          have hne : ∀ k, k ≠ b → k < w3.heap.size → (w4.setCell ⟨b, o + 4, none⟩ (.slice (some ⟨w3.heap.size, 0, none⟩) xf.kids.length qcap)).heap[k]? = w3.heap[k]? := fun k h1 h2 => by
            rw [Below.heap_setCell _ _ _ _ h1]; exact hs34 k h2
          refine ⟨0, g, gcap, Nat.zero_le _, rfl, hm5, ?_, ?_, ?_, hgp, fun k hk => ?_, ?_, ?_, World.cell?_setCell_same _ _ _ hc4⟩
          · rw [World.cell?_of_block (a := ⟨pb, 0, none⟩) (hne pb (Ne.symm hbx.1) hpl3)]; exact hc3
          · rw [World.frozen?_of_block (a := ⟨pb, 0, none⟩) (hne pb (Ne.symm hbx.1) hpl3)]; exact hf3
          · have := ownsRow_setFar (o := o + 4) (u := .slice (some ⟨w3.heap.size, 0, none⟩) xf.kids.length qcap) (HO3.out.kept (row := none) HGROW.out (.inr (by simp [Value.ownBlock]))) hbx.2
            simpa using this
          · rcases hk with hk | rfl
            · rcases hgr k hk with h | h
              · exact (HSP.out k (.inl h)).2
              · omega
            · exact hpr.2
          · exact (hne _ (Ne.symm hbro) (by omega)).trans HR3.out
          · have := HGROW.out.size; simp [World.setCell] at this ⊢; omega
        have HG2 : Hid (∀ k, RelB (l0 ++ itemsOf w3.heap.size 0 xf.kids) D' E' k → k ≠ pb ∧ k ≠ w.heap.size + 1) := fun k hk => by
          rcases hgr k hk with h | h
          · exact ⟨(HSP.out k (.inl h)).1, HRB.out k h⟩
          · exact ⟨by omega, by omega⟩
        have HRBB := Lib.hid hrbb
        generalize hW5 : w4.setCell ⟨b, o + 4, none⟩ (.slice (some ⟨w3.heap.size, 0, none⟩) xf.kids.length qcap) = W5 at HST
        generalize hgz : w3.heap.size = gz at HST HG2 HRBB
        have hszk : ∀ y ∈ l0 ++ itemsOf gz 0 xf.kids, y.2.sz ≤ 1048576 := fun y hy => by
          rcases List.mem_append.1 hy with hy | hy
          · exact HSZ.out y (List.mem_append_left _ hy)
          · exact Nat.le_trans (sz_kid (itemsOf_snd _ _ _ _ hy)) hxs
        have HSZK := Lib.hid hszk
        have hlb : l0.length + xf.kids.length ≤ 4294967296 := by omega
        clear hm5 hgr hrbb hs34 hW5 hc4 hf4 hc3 hf3 hy4 hyf4 HGROW HOWN1 hlt4 hgz hszk
        go_loopw [29] (fun i wr2 => ChgIn f w w1 pb b o gz qcap xf.kids l0 D' E' i wr2) (fun i _ => xf.kids.length - (intOf i).toNat)
        case atStart => exact HST.out
        case round =>
          obtain ⟨j, qg, qc, hj, rfl, hm6, k0, kf, ko, kqp, kq, kro, krs, kc⟩ := hrel
          have HM6 := Lib.hid hm6
          have HKO := Lib.hid ko
          have HKQ := Lib.hid kq
          have HKRO := Lib.hid kro
          clear hm6 kq kro
          by_cases hlt : j < xf.kids.length
          · have hpbl : pb < wr.heap.size := cell_lt k0
            have hbl6 : b < wr.heap.size := cell_lt kc
            have hqb : qg ≠ b := HKQ.out b (.inl HRBB.out)
            have hj0 : (0 : Int) ≤ (j : Int) := by omega
            have hj1 : (j : Int) < (xf.kids.length : Int) := by omega
            have ap : (Value.slice (some ⟨qg, 0, none⟩) (l0.length + j) qc).ownBlock ≠ some pb := by simp [Value.ownBlock, kqp]
            have ab : (Value.slice (some ⟨qg, 0, none⟩) (l0.length + j) qc).ownBlock ≠ some b := by simp [Value.ownBlock, hqb]
            have hL1 : l0.length + j + 1 ≤ maxLen := by unfold maxLen; omega
            have hL2 : (l0.length + j + 1) * 8 ≤ 140737488355328 := by omega
            have hbz : w.heap.size ≤ wr.heap.size := HM6.out.size
            have hown := HKO.out
            clear ko
            go_wp2_with fail
            have hS0 : ChgHeld pb b o gz xf.kids.length qcap qg (l0.length + j) qc wr.drew := ⟨k0, kc⟩
            refine upto_begin (ChgHeld pb b o gz xf.kids.length qcap qg (l0.length + j) qc) 9 (by kernel_rfl) ?_
            refine upto_take (i := 0) (d := some 32) (v := ?_) rfl rfl (by kernel_rfl) (by kernel_rfl) (by kernel_rfl) (by kernel_rfl) (fun _ _ _ h => h) (Or.inl ⟨by rfl, ?_⟩) hS0 ?_
            rotate_left
            · (intro wS hSw; obtain ⟨_, _⟩ := hSw; go_simp; try with_reducible rfl)
            try simp only [Act.put, List.setIfInBounds_toArray, List.set_cons_zero, List.set_cons_succ]
            refine upto_take (i := 1) (d := some 33) (v := ?_) rfl rfl (by kernel_rfl) (by kernel_rfl) (by kernel_rfl) (by kernel_rfl) (fun _ _ _ h => h) (Or.inl ⟨by rfl, ?_⟩) hS0 ?_
            rotate_left
            · (intro wS hSw; obtain ⟨_, _⟩ := hSw; go_simp; try with_reducible rfl)
            try simp only [Act.put, List.setIfInBounds_toArray, List.set_cons_zero, List.set_cons_succ]
            refine upto_take (i := 2) (d := some 34) (v := ?_) rfl rfl (by kernel_rfl) (by kernel_rfl) (by kernel_rfl) (by kernel_rfl) (fun _ _ _ h => h) (Or.inl ⟨by rfl, ?_⟩) hS0 ?_
            rotate_left
            · (intro wS hSw; obtain ⟨_, _⟩ := hSw; go_simp; try with_reducible rfl)
            try simp only [Act.put, List.setIfInBounds_toArray, List.set_cons_zero, List.set_cons_succ]
            refine upto_take (i := 3) (d := some 35) (v := ?_) rfl rfl (by kernel_rfl) (by kernel_rfl) (by kernel_rfl) (by kernel_rfl) (fun _ _ _ h => h) (Or.inl ⟨by rfl, ?_⟩) hS0 ?_
            rotate_left
            · (intro wS hSw; obtain ⟨_, _⟩ := hSw; go_simp; try with_reducible rfl)
            try simp only [Act.put, List.setIfInBounds_toArray, List.set_cons_zero, List.set_cons_succ]
            refine upto_take (i := 4) (d := some 36) (v := ?_) rfl rfl (by kernel_rfl) (by kernel_rfl) (by kernel_rfl) (by kernel_rfl) (fun _ _ _ h => h) (Or.inl ⟨by rfl, ?_⟩) hS0 ?_
            rotate_left
            · (intro wS hSw; obtain ⟨_, _⟩ := hSw; go_simp; try with_reducible rfl)
            try simp only [Act.put, List.setIfInBounds_toArray, List.set_cons_zero, List.set_cons_succ]
            refine upto_take (i := 5) (d := some 37) (v := ?_) rfl rfl (by kernel_rfl) (by kernel_rfl) (by kernel_rfl) (by kernel_rfl) (fun _ _ _ h => h) (Or.inl ⟨by rfl, ?_⟩) hS0 ?_
            rotate_left
            · (intro wS hSw; obtain ⟨_, _⟩ := hSw; go_simp; try with_reducible rfl)
            try simp only [Act.put, List.setIfInBounds_toArray, List.set_cons_zero, List.set_cons_succ]
            refine upto_take (i := 6) (d := some 38) (v := ?_) rfl rfl (by kernel_rfl) (by kernel_rfl) (by kernel_rfl) (by kernel_rfl) (fun _ _ _ h => h) (Or.inl ⟨by rfl, ?_⟩) hS0 ?_
            rotate_left
            · (intro wS hSw; obtain ⟨_, _⟩ := hSw; go_simp; try with_reducible rfl)
            try simp only [Act.put, List.setIfInBounds_toArray, List.set_cons_zero, List.set_cons_succ]
            refine upto_one (i := 7) (by kernel_rfl) rfl (fun K hK => ?_)
            go_simp
            have hbA : Below wr.heap.size wr (wr.alloc (Obj.cells #[.pointer (some ⟨gz, j * 5, none⟩)] 218)).drew := ((Below.refl _ wr).alloc (Nat.le_refl _) _).drew
            have a0 := cell_later' hbA k0
            have a1 := cell_later' hbA kc
            have af := (hbA.frozen (p := ⟨pb, 0, none⟩) hpbl).trans kf
            refine hK.out _ _ (.inr ⟨a0, a1⟩) ?_
            clear hK K
            refine upto_oper (i := 8) ⟨some 40, .call { callee := .builtin .append, args := #[.tmp 32, .tmp 39], argTypes := #[250, 250] }, 250, _, _, _⟩ (by kernel_rfl) rfl rfl (fun K hK => ?_)
            refine wp_append_lies _ (.tmp 32) (.tmp 39) 250 rfl w.heap.size 218 i0 _ 1 8 Try.underlying250 hi0 hz0 hz1 hz2 rfl (by omega) _ (l0.length + j) _ (by rfl) ((hown.alloc _).drew)
                  ⟨wr.heap.size, 0, none⟩ 1 1 [.pointer (some ⟨gz, j * 5, none⟩)] (by rfl) (by rfl) (World.news_of_block (cs := #[.pointer (some ⟨gz, j * 5, none⟩)]) (t := 218) (fr := (0, 0)) (heap_alloc_new wr _)) (by simp [Value.oneCell'])
                  (by omega) hL1 hL2 (by simp; omega) (wr.heap.size + 1) (by simp) ?_
            intro gq qd w6 hown1 hgrow hat hlt4
            have hc4 := (hgrow.cell_far ⟨pb, 0, none⟩ (by simp; omega) (Ne.symm ap)).trans a0
            have hf4 := (hgrow.frozen_far ⟨pb, 0, none⟩ (by simp; omega) (Ne.symm ap)).trans af
            have e1 := (hgrow.cell_far ⟨b, o + 4, none⟩ (by simp; omega) (Ne.symm ab)).trans a1
            refine hK.out _ _ (.inr ⟨hc4, e1⟩) ?_
            clear hK K
            refine upto_one (i := 9) (by kernel_rfl) rfl (fun K hK => ?_)
            go_simp
            refine hK.out _ _ (.inl rfl) ?_
            clear hK K
            refine upto_done (by kernel_rfl) ?_ _
            have hgq : gq = qg ∨ gq = wr.heap.size + 1 := by
              rcases hat with h | h
              · simp [Value.ownBlock] at h; exact .inl h.symm
              · exact .inr h
            have hgp2 : gq ≠ pb := by rcases hgq with h | h <;> omega
            have hsame : ∀ k, k < wr.heap.size → k ≠ pb → k ≠ qg → (w6.setCell ⟨pb, 0, none⟩ (.slice (some ⟨gq, 0, none⟩) (l0.length + j + 1) qd)).heap[k]? = wr.heap[k]? := fun k h1 h2 h3 => by
              rw [Below.heap_setCell _ _ _ _ h2, hgrow.block k (by simp; omega) (by simp [Value.ownBlock, h3])]
              exact hbA.block k h1
            have hsz6 : wr.heap.size ≤ w6.heap.size := by have := hgrow.size; simp at this; omega
            have hset : (w6.setCell ⟨pb, 0, none⟩ (.slice (some ⟨gq, 0, none⟩) (l0.length + j + 1) qd)).heap.size = w6.heap.size := by simp [World.setCell]
            have hqw : w.heap.size ≤ qg := (ownsRow_at hown).1
            have hbel : Below w.heap.size wr (w6.setCell ⟨pb, 0, none⟩ (.slice (some ⟨gq, 0, none⟩) (l0.length + j + 1) qd)) :=
              ((hbA.mono hbz).grown hgrow (by simp; omega) (fun k hk => by simp [Value.ownBlock] at hk; omega)).setCell (p := ⟨pb, 0, none⟩) hpb _
            have hlen2 : (itemsOf gz 0 xf.kids).take (j + 1) = (itemsOf gz 0 xf.kids).take j ++ [(⟨gz, j * 5, none⟩, xf.kids[j])] := by
              have h1 : ∀ n, (itemsOf gz 0 xf.kids).take n = itemsOf gz 0 (xf.kids.take n) := fun n => by
                have : ∀ (ks : List Fm) (off n : Nat), (itemsOf gz off ks).take n = itemsOf gz off (ks.take n) := fun ks => by
                  induction ks with
                  | nil => intro off n; simp [itemsOf]
                  | cons x r ih => intro off n; cases n with
                    | zero => simp [itemsOf]
                    | succ n => simp [itemsOf, ih]
                exact this _ _ _
              rw [h1, h1, itemsOf_take_succ _ _ _ j hlt, Nat.zero_add]
            have HNEXT : Hid (ChgIn f w w1 pb b o gz qcap xf.kids l0 D' E' (.int .i64 (j + 1 : Nat)) (w6.setCell ⟨pb, 0, none⟩ (.slice (some ⟨gq, 0, none⟩) (l0.length + j + 1) qd))) := by
              refine ⟨j + 1, gq, qd, by omega, rfl, HM6.out.later hbel (by rw [hset]; exact hsz6) (fun k hk => hsame k (HM6.out.relLt hk) (HG2.out k hk).1 (fun e => HKQ.out k (.inl hk) e.symm)), ?_, ?_, ?_, hgp2, fun k hk => ?_, ?_, by rw [hset]; omega, ?_⟩
              · exact World.cell?_setCell_same _ _ _ hc4
              · rw [World.frozen?_setCell]; exact hf4
              · have := ownsRow_setFar (o := 0) (u := .slice (some ⟨gq, 0, none⟩) (l0.length + j + 1) qd) hown1 hgp2
                rw [hlen2, ← List.append_assoc, List.map_append]
                exact this
              · rcases hgq with h | h
                · rw [h]; exact HKQ.out k hk
                · rcases hk with hk | hk
                  · have := HM6.out.relLt hk; omega
                  · omega
              · exact (hsame _ krs hpr.1 (fun e => HKQ.out _ (.inr rfl) e.symm)).trans HKRO.out
              · rw [World.cell?_of_block (a := ⟨b, o + 4, none⟩) (hsame b hbl6 hbx.1 (Ne.symm hqb))]; exact kc
            clear hown1 hgrow hat hsame hbel hlen2 hbA
            go_wp2_with fail
            go_roundw
            case rel =>
              have e := HNEXT.out
              rw [show ((j + 1 : Nat) : Int) = (j : Int) + 1 from by omega] at e
              exact e
            case measure => simp [intOf]; omega
          · obtain rfl : j = xf.kids.length := by omega
            have HNX : Hid (ChgRel f w w1 (countI (l0 ++ itemsOf gz 0 xf.kids)) (.pointer (some ⟨wr.heap.size, 0, none⟩)) (wr.alloc (.cells #[.slice (some ⟨qg, 0, none⟩) (l0.length + xf.kids.length) qc] 250)) ∧ countI (l0 ++ itemsOf gz 0 xf.kids) < gk) := by
              have h1 := countI_append l0 (itemsOf gz 0 xf.kids)
              rw [countI_items] at h1
              have h2 := HKE.out
              have h3 := HXC.out
              have h4 := itemsOf_length gz xf.kids 0
              refine ⟨ChgRel.next HM6.out ?_ (fun k hk => ?_) (fun k hk => (HG2.out k hk).2) HKRO.out krs (by omega) HSZK.out, by omega⟩
              · have := HKO.out
                rw [show (itemsOf gz 0 xf.kids).take xf.kids.length = itemsOf gz 0 xf.kids from List.take_of_length_le (by omega)] at this
                rw [List.length_append, h4]
                exact this
              · simp only [Value.ownBlock, ne_eq, Option.some.injEq]
                exact HKQ.out k hk
            clear ko
            go_wp2_with fail
            go_roundg (countI (l0 ++ itemsOf gz 0 xf.kids))
            case measure => exact HNX.out.2
            case rel => exact HNX.out.1
end Go.Proofs.Ytbclgmabidjegaa.chgCopy
