/- The contract of the visit of a form and the forms in it, for any function that visits. -/
import Derived.Test.YtbclgmabidjegaaChecked
import Derived.Test.YtbclgmabidjegaaData
import Derived.Deep.LoopGhost
import Derived.Shelf.Abstract
import Derived.Test.YtbclgmabidjegaaPop
import Derived.Test.YtbclgmabidjegaaEndAt
import Derived.Test.YtbclgmabidjegaaMids
namespace Go.Proofs.Ytbclgmabidjegaa
section
open Go.RowKit
set_option linter.unusedVariables false
set_option linter.unusedSimpArgs false
/-- the world turns only in the blocks 'E', and in new ones -/
structure OnlyE (E : Nat → Prop) (w w' : World) : Prop where
  os : w'.os = w.os
  tape : w'.tape = w.tape
  output : w'.output = w.output
  size : w.heap.size ≤ w'.heap.size
  block : ∀ k, k < w.heap.size → ¬ E k → w'.heap[k]? = w.heap[k]?
/-- what is asked of the function that visits: 'I pre E' holds behind the forms 'pre', 'E' being the blocks that it minds -/
structure Visitor (okF : Fm → Prop) (B gf : Nat) (lb : Array Value) (I : List Fm → (Nat → Prop) → World → Prop) : Prop where
  eg : ∀ args w, (callFunc gf args).run Try.prog w = .ok (.enter gf args) w
  still : ∀ (pre : List Fm) (E : Nat → Prop) (W W' : World), I pre E W → W'.os = W.os → W'.tape = W.tape → W'.output = W.output → W.heap.size ≤ W'.heap.size → (∀ k, E k → W'.heap[k]? = W.heap[k]?) → (∀ k, k < B → W'.heap[k]? = W.heap[k]?) → I pre E W'
  calls : ∀ (pre : List Fm) (E : Nat → Prop) (x : Item) (W : World), I pre E W → pre.length ≤ 1048577 → okF x.f → (∀ k, E k → B ≤ k ∧ k < W.heap.size) → InV (· < B) W x.f x.val → Calls Try.prog gf (#[x.val] ++ lb) W fun e W' => e = .returned (.tuple #[]) ∧
    ∃ E', I (pre ++ [x.f]) E' W' ∧ OnlyE E W W' ∧ (∀ k, E' k → (E k ∨ W.heap.size ≤ k) ∧ k < W'.heap.size)
/-- a form at a place: of memory that came in, or the root -/
def PtAt (B rb : Nat) (w : World) (x : Addr × Fm) : Prop :=
  ∃ b o, x.1 = ⟨b, o, none⟩ ∧ (b < B ∨ b = rb) ∧ ∃ sa scap a cap, w.cell? ⟨b, o, none⟩ = some (.int .i64 x.2.kind) ∧ w.cell? ⟨b, o + 1, none⟩ = some (.string x.2.name) ∧
      w.cell? ⟨b, o + 2, none⟩ = some (.int .i64 x.2.n) ∧ w.cell? ⟨b, o + 3, none⟩ = some (.slice sa x.2.scopes.length scap) ∧
      w.cell? ⟨b, o + 4, none⟩ = some (.slice a x.2.kids.length cap) ∧
      InV (· < B) w x.2 (.agg #[.int .i64 x.2.kind, .string x.2.name, .int .i64 x.2.n, .slice sa x.2.scopes.length scap, .slice a x.2.kids.length cap])
theorem PtAt.later {B rb : Nat} {w w' : World} {x : Addr × Fm} (h : PtAt B rb w x) (hs : ∀ k, (k < B ∨ k = rb) → w'.heap[k]? = w.heap[k]?) : PtAt B rb w' x := by
  obtain ⟨b, o, e, hb, sa, scap, a, cap, c0, c1, c2, c3, c4, hin⟩ := h
  have hc : ∀ i, w'.cell? ⟨b, i, none⟩ = w.cell? ⟨b, i, none⟩ := fun i => World.cell?_of_block (a := ⟨b, i, none⟩) (hs b hb)
  exact ⟨b, o, e, hb, sa, scap, a, cap, by rw [hc]; exact c0, by rw [hc]; exact c1, by rw [hc]; exact c2, by rw [hc]; exact c3, by rw [hc]; exact c4, InV.later (fun k hk => hs k (.inl hk)) _ _ hin⟩
/-- the forms still to be visited, the next one at the end -/
def preP (st : List (Addr × Fm)) : List Fm := st.reverse.flatMap fun x => x.2.pre
theorem preP_snoc (st : List (Addr × Fm)) (x : Addr × Fm) : preP (st ++ [x]) = x.2.pre ++ preP st := by simp [preP]
theorem preP_kids (st its : List (Addr × Fm)) : preP (st ++ its.reverse) = its.flatMap (fun x => x.2.pre) ++ preP st := by simp [preP]
theorem preAll_itemsOf (b : Nat) : ∀ (ks : List Fm) (off : Nat), (itemsOf b off ks).flatMap (fun x => x.2.pre) = preAll ks
  | [], _ => rfl
  | f :: r, off => by simp only [itemsOf, List.flatMap_cons, preAll, preAll_itemsOf b r]
theorem itemsOf_get (b : Nat) : ∀ (ks : List Fm) (off j : Nat) (h : j < ks.length), (itemsOf b off ks)[j]? = some (⟨b, off + j * 5, none⟩, ks[j])
  | f :: r, off, 0, h => by simp [itemsOf]
  | f :: r, off, j + 1, h => by
    have := itemsOf_get b r (off + 5) j (by simpa using h)
    simp only [itemsOf, List.getElem?_cons_succ, List.getElem_cons_succ]
    rw [this, show off + 5 + j * 5 = off + (j + 1) * 5 from by omega]
theorem revTake (its : List (Addr × Fm)) (n j : Nat) (x : Addr × Fm) (hn : its.length = n) (hj : j < n) (hx : its[n - 1 - j]? = some x) : its.reverse.take (j + 1) = its.reverse.take j ++ [x] := by
  have h1 : its.reverse[j]? = some x := by rw [List.getElem?_reverse (by omega), hn]; exact hx
  obtain ⟨h2, h3⟩ := List.getElem?_eq_some_iff.1 h1
  rw [List.take_succ_eq_append_getElem h2, h3]
/-- between two rounds -/
structure VMid (okF : Fm → Prop) (B rb : Nat) (I : List Fm → (Nat → Prop) → World → Prop) (E0 : Nat → Prop) (f : Fm) (w : World) (pb : Nat) (v : Value) (st : List (Addr × Fm)) (V : List Fm) (E : Nat → Prop) (W : World) : Prop where
  box : W.cell? ⟨pb, 0, none⟩ = some v
  free : W.frozen? ⟨pb, 0, none⟩ = false
  own : W.ownsRow w.heap.size 218 1 v st.length (st.map fun x => .pointer (some x.1))
  ne : v.ownBlock ≠ some pb
  le : w.heap.size ≤ pb
  seen : V ++ preP st = f.pre
  inv : I V E W
  only : OnlyE E0 w W
  minds : ∀ k, E k → (E0 k ∨ w.heap.size ≤ k) ∧ k < W.heap.size
  apart : ¬ E pb ∧ ∀ g, v.ownBlock = some g → ¬ E g
  reads : ∀ x ∈ st, PtAt B rb W x ∧ okF x.2
def VRel (okF : Fm → Prop) (B rb : Nat) (I : List Fm → (Nat → Prop) → World → Prop) (E0 : Nat → Prop) (f : Fm) (w : World) (k : Nat) (t : Value) (W : World) : Prop :=
  ∃ pb v st V E, t = .pointer (some ⟨pb, 0, none⟩) ∧ VMid okF B rb I E0 f w pb v st V E W ∧ k = countI st ∧ countI st ≤ f.count
/-- between two rounds of the inner loop -/
def VIn (B rb : Nat) (w w3 : World) (E : Nat → Prop) (pb n : Nat) (its st0 : List (Addr × Fm)) (i : Value) (W : World) : Prop :=
  ∃ (j qg qc : Nat) (i' : Int), j ≤ n ∧ i = .int .i64 i' ∧ i' = (n : Int) - 1 - j ∧ W.cell? ⟨pb, 0, none⟩ = some (.slice (some ⟨qg, 0, none⟩) (st0.length + j) qc) ∧ W.frozen? ⟨pb, 0, none⟩ = false ∧
    W.ownsRow w.heap.size 218 1 (.slice (some ⟨qg, 0, none⟩) (st0.length + j) qc) (st0.length + j) ((st0 ++ its.reverse.take j).map fun x => .pointer (some x.1)) ∧ qg ≠ pb ∧ ¬ E qg ∧ w3.heap.size ≤ W.heap.size ∧
    W.os = w3.os ∧ W.tape = w3.tape ∧ W.output = w3.output ∧ ∀ k, k < w3.heap.size → (k < w.heap.size ∨ E k) → W.heap[k]? = w3.heap[k]?
/-- what the load of the inner region reads -/
def VHeld (pb : Nat) (sv : Value) (w' : World) : Prop := w'.cell? ⟨pb, 0, none⟩ = some sv
theorem info_ptrV : (Try.prog.info? 218).map (fun i => (i.zero, i.size, i.bytes)) = some (some (.pointer none), 1, 8) := by kernel_rfl
set_option maxRecDepth 100000 in
set_option maxHeartbeats 4000000 in
theorem visitTree_any (okF : Fm → Prop) (hkid : ∀ z, okF z → ∀ c ∈ z.kids, okF c) (B gf : Nat) (lb : Array Value) (I : List Fm → (Nat → Prop) → World → Prop) (hvis : Visitor okF B gf lb I) (rb : Nat) (f : Fm) (E0 : Nat → Prop) (w : World) (hB : B ≤ rb) (hrb : rb < w.heap.size)
    (hE : ∀ k, E0 k → B ≤ k ∧ k < w.heap.size ∧ k ≠ rb) (h0 : I [] E0 w) (hv : PtAt B rb w (⟨rb, 0, none⟩, f)) (hc : f.count ≤ 1048577) (hok : okF f) :
    Calls Try.prog 178 #[.pointer (some ⟨rb, 0, none⟩), .func (.func 179) #[] #[], .func (.func gf) #[] lb] w fun e w' => e = .returned (.tuple #[]) ∧
      ∃ E', I f.pre E' w' ∧ OnlyE E0 w w' ∧ (∀ k, E' k → (E0 k ∨ w.heap.size ≤ k) ∧ k < w'.heap.size) := by
  have HVIS := Lib.hid hvis
  have HE := Lib.hid hE
  have H0 := Lib.hid h0
  have HV := Lib.hid hv
  have HKID := Lib.hid hkid
  have HOKX := Lib.hid hok
  have heg := hvis.eg
  obtain ⟨i0, hi0, hz0, hz1, hz2⟩ := info_parts info_ptrV
  clear hvis hE h0 hv hkid hok
  go_enter Try.func178, Try.ntmps178
  go_wp2_with fail
  have HREL : Hid (VRel okF B rb I E0 f w f.count (.pointer (some ⟨w.heap.size + 1, 0, none⟩)) ((w.alloc (.cells #[.pointer (some ⟨rb, 0, none⟩)] 218)).alloc (.cells #[.slice (some ⟨w.heap.size, 0, none⟩) 1 1] 250))) := by
    have hbW : Below w.heap.size w ((w.alloc (.cells #[.pointer (some ⟨rb, 0, none⟩)] 218)).alloc (.cells #[.slice (some ⟨w.heap.size, 0, none⟩) 1 1] 250)) := ((Below.refl _ w).alloc (Nat.le_refl _) _).alloc (by simp) _
    refine ⟨_, _, [(⟨rb, 0, none⟩, f)], [], E0, rfl, ⟨World.cell?_alloc_at _ _ _ _ (by simp), World.frozen?_alloc_at _ _ _ _ (by simp), ?_, by simp [Value.ownBlock], by omega, by simp [preP], ?_, ⟨hbW.os, hbW.tape, hbW.output, hbW.size, fun k hk _ => hbW.block k hk⟩, ?_, ⟨?_, ?_⟩, ?_⟩, by simp [countI], by simp [countI]⟩
    · have := World.ownsRow_lit (base := w.heap.size) (e := 218) (size := 1) w #[.pointer (some ⟨rb, 0, none⟩)] 1 (by omega) (by unfold maxLen; omega) (by simp)
      exact this.alloc _
    · exact HVIS.out.still _ _ _ _ H0.out hbW.os hbW.tape hbW.output hbW.size (fun k hk => hbW.block k (HE.out k hk).2.1) (fun k hk => hbW.block k (by omega))
    · intro k hk
      have := HE.out k hk
      exact ⟨.inl hk, by simp; omega⟩
    · intro h
      have := HE.out _ h
      omega
    · intro g hg h
      simp [Value.ownBlock] at hg
      have := HE.out _ h
      omega
    · intro y hy
      rw [List.mem_singleton] at hy
      subst hy
      exact ⟨HV.out.later (fun k hk => hbW.block k (by omega)), HOKX.out⟩
  go_loopg [6] f.count (fun k t wr => VRel okF B rb I E0 f w k t wr)
  case atStart => exact HREL.out
  case round =>
    obtain ⟨pb, v, st, V, E, rfl, hm, hk, hkc⟩ := hrel
    have HM := Lib.hid hm
    have HK := Lib.hid hk
    have hbox := hm.box
    have hfree := hm.free
    have hown := hm.own
    have hpb := hm.le
    have hws := hm.only.size
    clear hm hk HREL
    rcases List.eq_nil_or_concat st with rfl | ⟨st0, x, rfl⟩
    · have hform : ∃ a cap, v = .slice a 0 cap := by
        rcases hown.2 with ⟨h, _⟩ | ⟨g, cap, _, h, _⟩
        · exact ⟨none, 0, h⟩
        · exact ⟨_, cap, h⟩
      obtain ⟨va, vc, rfl⟩ := hform
      clear hown
      go_wp2_with fail
      go_end0
      have hm := HM.out
      refine ⟨rfl, E, ?_, hm.only, hm.minds⟩
      have hV : V = f.pre := by have := hm.seen; simpa [preP] using this
      rw [← hV]
      exact hm.inv
    · rw [List.concat_eq_append] at HM HK hown hkc
      obtain ⟨p, xf⟩ := x
      rw [List.length_append, List.length_singleton, List.map_append] at hown
      obtain ⟨g, gcap, rfl, hgb, hgl⟩ := hown.form (by omega)
      have hgp : g ≠ pb := fun e => HM.out.ne (by simp [Value.ownBlock, e])
      have hca := countI_append st0 [(p, xf)]
      simp only [countI, Nat.add_zero] at hca
      have hcst := length_countI st0
      have hxc := count_eq xf
      have hkl := length_countAll xf.kids
      have HOWN := Lib.hid hown
      clear hown
      go_wp2_with fail
      refine (popPtr_any w.heap.size pb g gcap st0.length (st0.map fun x => .pointer (some x.1)) (.pointer (some p)) _ hbox hfree HOWN.out (by simp) hgp hpb hws).mono ?_
      rintro e w2 ⟨rfl, hpop⟩
      obtain ⟨p1, p2, p3, p4, p5, p6⟩ := hpop
      have hm := HM.out
      have hEl : ∀ k, E k → B ≤ k ∧ k < wr.heap.size ∧ k ≠ pb ∧ k ≠ g ∧ k ≠ rb := fun k hk => by
        have h1 := hm.minds k hk
        refine ⟨?_, h1.2, fun e => hm.apart.1 (by rw [← e]; exact hk), fun e => hm.apart.2 g (by simp [Value.ownBlock]) (by rw [← e]; exact hk), ?_⟩
        · rcases h1.1 with h | h
          · exact (HE.out k h).1
          · omega
        · rcases h1.1 with h | h
          · exact (HE.out k h).2.2
          · omega
      have hI2 : I V E w2 := HVIS.out.still _ _ _ _ hm.inv p6.os p6.tape p6.output p4 (fun k hk => p5 k (hEl k hk).2.1 (hEl k hk).2.2.1) (fun k hk => p5 k (by omega) (by omega))
      have hlow2 : ∀ k, k < w.heap.size → w2.heap[k]? = wr.heap[k]? := fun k hk => p5 k (by omega) (by omega)
      have hrd : ∀ z ∈ st0 ++ [(p, xf)], PtAt B rb w2 z := fun z hz => (hm.reads z hz).1.later (fun k hk => hlow2 k (by omega))
      obtain ⟨b, o, e, hbB, sa, scap, a, cap, x0, x1, x2, x3, x4, hin⟩ := hrd (p, xf) (by simp)
      simp only at e x0 x1 x2 x3 x4 hin
      subst e
      have hVl : V.length ≤ 1048577 := by
        have h1 := congrArg List.length hm.seen
        rw [List.length_append, pre_length] at h1
        omega
      have hok := (hm.reads (⟨b, o, none⟩, xf) (by simp)).2
      have HEL := Lib.hid hEl
      have HRD := Lib.hid hrd
      have HI2 := Lib.hid hI2
      have HP1 := Lib.hid p1
      have HP2 := Lib.hid p2
      have HP3 := Lib.hid p3
      have HP6 := Lib.hid p6
      have HLOW2 := Lib.hid hlow2
      have HIN := Lib.hid hin
      have HX4 := Lib.hid x4
      have HOK := Lib.hid hok
      clear p1 p2 p3 p5 p6 hEl hI2 hrd hm hbox hfree hlow2 hin hok
      go_wp2_with fail
      refine (HVIS.out.calls V E ⟨xf, sa, scap, a, cap⟩ w2 HI2.out hVl HOK.out (fun k hk => by have := HEL.out k hk; exact ⟨this.1, by omega⟩) HIN.out).mono ?_
      rintro e w3 ⟨rfl, E', hI3, ho3, hE3⟩
      have hs3 := ho3.size
      have hns : ∀ k, k < w2.heap.size → ¬ E k → w3.heap[k]? = w2.heap[k]? := ho3.block
      have hnp : ¬ E pb := HM.out.apart.1
      have hng : ¬ E g := HM.out.apart.2 g (by simp [Value.ownBlock])
      have hpbl : pb < w2.heap.size := cell_lt HP1.out
      have hlow3 : ∀ k, (k < B ∨ k = rb) → w3.heap[k]? = w2.heap[k]? := fun k hk => hns k (by omega) (fun h => by have := HEL.out k h; omega)
      have hy4 : w3.cell? ⟨b, o + 4, none⟩ = some (.slice a xf.kids.length cap) := (World.cell?_of_block (a := ⟨b, o + 4, none⟩) (hlow3 b hbB)).trans HX4.out
      have HI3 := Lib.hid hI3
      have HO3 := Lib.hid ho3
      have HE3 := Lib.hid hE3
      have HRD3 : Hid (∀ z ∈ st0 ++ [((⟨b, o, none⟩ : Addr), xf)], PtAt B rb w3 z) := fun z hz => (HRD.out z hz).later hlow3
      have HIN3 : Hid (InV (· < B) w3 xf (.agg #[.int .i64 xf.kind, .string xf.name, .int .i64 xf.n, .slice sa xf.scopes.length scap, .slice a xf.kids.length cap])) := InV.later (fun k (hk : k < B) => hlow3 k (.inl hk)) _ _ HIN.out
      have hq1 : w3.cell? ⟨pb, 0, none⟩ = some (.slice (some ⟨g, 0, none⟩) st0.length gcap) := (World.cell?_of_block (a := ⟨pb, 0, none⟩) (hns pb hpbl hnp)).trans HP1.out
      have hq2 : w3.frozen? ⟨pb, 0, none⟩ = false := (World.frozen?_of_block (a := ⟨pb, 0, none⟩) (hns pb hpbl hnp)).trans HP2.out
      have hq3 : w3.ownsRow w.heap.size 218 1 (.slice (some ⟨g, 0, none⟩) st0.length gcap) st0.length (st0.map fun x => .pointer (some x.1)) :=
        ownsRow_same' HP3.out (fun k hk => by simp [Value.ownBlock] at hk; subst hk; exact hns _ (by omega) hng)
      have hnEp : ¬ E' pb := fun h => by rcases (HE3.out pb h).1 with h1 | h1; exact hnp h1; omega
      have hnEg : ¬ E' g := fun h => by rcases (HE3.out g h).1 with h1 | h1; exact hng h1; omega
      have hE3l : ∀ k, E' k → k < w3.heap.size := fun k hk => (HE3.out k hk).2
      have HE3L := Lib.hid hE3l
      have HQ1 := Lib.hid hq1
      have HQ2 := Lib.hid hq2
      have HQ3 := Lib.hid hq3
      clear hI3 ho3 hE3 hns hlow3 hq1 hq2 hq3 x0 x1 x2 x3 x4 hE3l
      go_wp2_with fail
      refine (kidsOf_any b o _ w3 hy4).mono ?_
      rintro e w4 ⟨rfl, rfl⟩
      obtain ⟨_, hkcap, hkmax, hkrow⟩ := HIN3.out.kids
      obtain ⟨its, hitl, hitp, hitr, hita⟩ : ∃ its : List (Addr × Fm), its.length = xf.kids.length ∧ its.flatMap (fun x => x.2.pre) = preAll xf.kids ∧ (∀ z ∈ its, PtAt B rb w3 z ∧ okF z.2) ∧
          (∀ j, j < xf.kids.length → ∃ kb off, a = some ⟨kb, off, none⟩ ∧ ∃ z, its[j]? = some (⟨kb, off + j * 5, none⟩, z)) := by
        rcases hkrow with h | ⟨kb, off, h1, h2, h3⟩
        · refine ⟨[], by simp [h], by simp [h, preAll], by simp, fun j hj => by rw [h] at hj; simp at hj⟩
        · refine ⟨itemsOf kb off xf.kids, itemsOf_length _ _ _, preAll_itemsOf _ _ _, fun z hz => ?_, fun j hj => ⟨kb, off, h1, _, itemsOf_get kb _ off j hj⟩⟩
          obtain ⟨i, hzi⟩ := List.getElem?_of_mem hz
          have hi := (List.getElem?_eq_some_iff.1 hzi).1
          rw [itemsOf_length] at hi
          rw [itemsOf_get _ _ _ _ hi] at hzi
          injection hzi with hzi
          subst hzi
          obtain ⟨sa', scap', a', cap', c0, c1, c2, c3, c4, hin'⟩ := h3.at' i hi
          exact ⟨⟨kb, _, rfl, .inl h2, sa', scap', a', cap', c0, c1, c2, c3, c4, hin'⟩, HKID.out xf HOK.out _ (List.getElem_mem hi)⟩
      have HITP := Lib.hid hitp
      have HITR := Lib.hid hitr
      have HITA := Lib.hid hita
      have hcl : countI its = countAll xf.kids := by
        have h1 : ∀ l : List (Addr × Fm), countI l = (l.flatMap fun x => x.2.pre).length := fun l => by
          induction l with
          | nil => rfl
          | cons x r ih => simp only [countI, List.flatMap_cons, List.length_append, pre_length, ih]
        rw [h1, hitp, preAll_length]
      have HCL := Lib.hid hcl
      have HST : Hid (VIn B rb w w3 E' pb xf.kids.length its st0 (.int .i64 ((xf.kids.length : Int) - 1)) w3) :=
        ⟨0, g, gcap, _, Nat.zero_le _, rfl, by omega, HQ1.out, HQ2.out, by simpa using HQ3.out, hgp, hnEg, Nat.le_refl _, rfl, rfl, rfl, fun _ _ _ => rfl⟩
      unfold maxLen at hkmax
      clear hitp hitr hita hcl hkrow hy4
      go_wp2_with fail
      go_loopw [9] (fun i wr2 => VIn B rb w w3 E' pb xf.kids.length its st0 i wr2) (fun i _ => (intOf i + 1).toNat)
      case atStart => exact HST.out
      case round =>
        obtain ⟨j, qg, qc, i', hj, rfl, hij, k0, kf, ko, kqp, kqe, kz, k1, k2, k3, k4⟩ := hrel
        have HKO := Lib.hid ko
        have HK4 := Lib.hid k4
        have HK13 : Hid (wr.os = w3.os ∧ wr.tape = w3.tape ∧ wr.output = w3.output) := ⟨k1, k2, k3⟩
        have HIJ := Lib.hid hij
        clear k1 k2 k3 k4
        have hpb2 : pb < wr.heap.size := cell_lt k0
        by_cases hlt : j < xf.kids.length
        · obtain ⟨kb, off, rfl, z, hz⟩ := HITA.out (xf.kids.length - 1 - j) (by omega)
          have hii0 : 0 ≤ i' := by omega
          have hii1 : i' < (xf.kids.length : Int) := by omega
          have hiz : i' = ((xf.kids.length - 1 - j : Nat) : Int) := by omega
          have hzm := List.mem_of_getElem? hz
          have HTK := Lib.hid (revTake its xf.kids.length j _ hitl hlt hz)
          have ap : (Value.slice (some ⟨qg, 0, none⟩) (st0.length + j) qc).ownBlock ≠ some pb := by simp [Value.ownBlock, kqp]
          have hL1 : st0.length + j + 1 ≤ maxLen := by unfold maxLen; omega
          have hL2 : (st0.length + j + 1) * 8 ≤ 140737488355328 := by omega
          have hown := HKO.out
          subst hiz
          clear ko HIJ hij hz
          go_wp2_with fail
          have hS0 : VHeld pb (.slice (some ⟨qg, 0, none⟩) (st0.length + j) qc) wr.drew := k0
          refine upto_begin (VHeld pb (.slice (some ⟨qg, 0, none⟩) (st0.length + j) qc)) 6 (by kernel_rfl) ?_
          refine upto_take (i := 0) (d := some 31) (v := ?_) rfl rfl (by kernel_rfl) (by kernel_rfl) (by kernel_rfl) (by kernel_rfl) (fun _ _ _ h => h) (Or.inl ⟨by rfl, ?_⟩) hS0 ?_
          rotate_left
          · (intro wS hSw; have hSw' := hSw; unfold VHeld at hSw'; go_simp; try with_reducible rfl)
          try simp only [Act.put, List.setIfInBounds_toArray, List.set_cons_zero, List.set_cons_succ]
          refine upto_take (i := 1) (d := some 32) (v := ?_) rfl rfl (by kernel_rfl) (by kernel_rfl) (by kernel_rfl) (by kernel_rfl) (fun _ _ _ h => h) (Or.inl ⟨by rfl, ?_⟩) hS0 ?_
          rotate_left
          · (intro wS hSw; have hSw' := hSw; unfold VHeld at hSw'; go_simp; try with_reducible rfl)
          try simp only [Act.put, List.setIfInBounds_toArray, List.set_cons_zero, List.set_cons_succ]
          refine upto_take (i := 2) (d := some 33) (v := ?_) rfl rfl (by kernel_rfl) (by kernel_rfl) (by kernel_rfl) (by kernel_rfl) (fun _ _ _ h => h) (Or.inl ⟨by rfl, ?_⟩) hS0 ?_
          rotate_left
          · (intro wS hSw; have hSw' := hSw; unfold VHeld at hSw'; go_simp; try with_reducible rfl)
          try simp only [Act.put, List.setIfInBounds_toArray, List.set_cons_zero, List.set_cons_succ]
          refine upto_take (i := 3) (d := some 34) (v := ?_) rfl rfl (by kernel_rfl) (by kernel_rfl) (by kernel_rfl) (by kernel_rfl) (fun _ _ _ h => h) (Or.inl ⟨by rfl, ?_⟩) hS0 ?_
          rotate_left
          · (intro wS hSw; have hSw' := hSw; unfold VHeld at hSw'; go_simp; try with_reducible rfl)
          try simp only [Act.put, List.setIfInBounds_toArray, List.set_cons_zero, List.set_cons_succ]
          refine upto_one (i := 4) (by kernel_rfl) rfl (fun K hK => ?_)
          go_simp
          have hbA : Below wr.heap.size wr (wr.alloc (Obj.cells #[.pointer (some ⟨kb, off + (xf.kids.length - 1 - j) * 5, none⟩)] 218)).drew := ((Below.refl _ wr).alloc (Nat.le_refl _) _).drew
          have a0 := cell_later' hbA k0
          have af := (hbA.frozen (p := ⟨pb, 0, none⟩) hpb2).trans kf
          refine hK.out _ _ (.inr a0) ?_
          clear hK K
          refine upto_oper (i := 5) ⟨some 36, .call { callee := .builtin .append, args := #[.tmp 31, .tmp 35], argTypes := #[250, 250] }, 250, _, _, _⟩ (by kernel_rfl) rfl rfl (fun K hK => ?_)
          refine wp_append_lies _ (.tmp 31) (.tmp 35) 250 rfl w.heap.size 218 i0 _ 1 8 Try.underlying250 hi0 hz0 hz1 hz2 rfl (by omega) _ (st0.length + j) _ (by rfl) ((hown.alloc _).drew)
                ⟨wr.heap.size, 0, none⟩ 1 1 [.pointer (some ⟨kb, off + (xf.kids.length - 1 - j) * 5, none⟩)] (by rfl) (by rfl) (World.news_of_block (cs := #[.pointer (some ⟨kb, off + (xf.kids.length - 1 - j) * 5, none⟩)]) (t := 218) (fr := (0, 0)) (heap_alloc_new wr _)) (by simp [Value.oneCell'])
                (by omega) hL1 hL2 (by simp; omega) (wr.heap.size + 1) (by simp) ?_
          intro gq qd w6 hown1 hgrow hat hlt4
          have hc4 := (hgrow.cell_far ⟨pb, 0, none⟩ (by simp; omega) (Ne.symm ap)).trans a0
          have hf4 := (hgrow.frozen_far ⟨pb, 0, none⟩ (by simp; omega) (Ne.symm ap)).trans af
          refine hK.out _ _ (.inr hc4) ?_
          clear hK K
          refine upto_one (i := 6) (by kernel_rfl) rfl (fun K hK => ?_)
          go_simp
          refine hK.out _ _ (.inl rfl) ?_
          clear hK K
          refine upto_done (by kernel_rfl) ?_ _
          have hgq : gq = qg ∨ gq = wr.heap.size + 1 := by
            rcases hat with h | h
            · simp [Value.ownBlock] at h; exact .inl h.symm
            · exact .inr h
          have hgp2 : gq ≠ pb := by rcases hgq with h | h <;> omega
          have hgE : ¬ E' gq := by
            rcases hgq with h | h
            · rw [h]; exact kqe
            · intro h2; have := HE3L.out gq h2; omega
          have hsame : ∀ k, k < wr.heap.size → k ≠ pb → k ≠ qg → (w6.setCell ⟨pb, 0, none⟩ (.slice (some ⟨gq, 0, none⟩) (st0.length + j + 1) qd)).heap[k]? = wr.heap[k]? := fun k h1 h2 h3 => by
            rw [Below.heap_setCell _ _ _ _ h2, hgrow.block k (by simp; omega) (by simp [Value.ownBlock, h3])]
            exact hbA.block k h1
          have hsz6 : wr.heap.size ≤ w6.heap.size := by have := hgrow.size; simp at this; omega
          have hset : (w6.setCell ⟨pb, 0, none⟩ (.slice (some ⟨gq, 0, none⟩) (st0.length + j + 1) qd)).heap.size = w6.heap.size := by simp [World.setCell]
          have hqw : w.heap.size ≤ qg := (ownsRow_at hown).1
          have HNEXT : Hid (VIn B rb w w3 E' pb xf.kids.length its st0 (.int .i64 (((xf.kids.length - 1 - j : Nat) : Int) - 1)) (w6.setCell ⟨pb, 0, none⟩ (.slice (some ⟨gq, 0, none⟩) (st0.length + j + 1) qd))) := by
            refine ⟨j + 1, gq, qd, _, by omega, rfl, by omega, ?_, ?_, ?_, hgp2, hgE, by rw [hset]; omega, ?_, ?_, ?_, fun k hk hkE => ?_⟩
            · exact World.cell?_setCell_same _ _ _ hc4
            · rw [World.frozen?_setCell]; exact hf4
            · have := ownsRow_setFar (o := 0) (u := .slice (some ⟨gq, 0, none⟩) (st0.length + j + 1) qd) hown1 hgp2
              rw [HTK.out, ← List.append_assoc, List.map_append]
              exact this
            · exact (hgrow.os.trans hbA.os).trans HK13.out.1
            · exact (hgrow.tape.trans hbA.tape).trans HK13.out.2.1
            · exact (hgrow.output.trans hbA.output).trans HK13.out.2.2
            · refine (hsame k (by omega) ?_ ?_).trans (HK4.out k hk hkE)
              · rcases hkE with h | h
                · omega
                · intro e; subst e; exact hnEp h
              · rcases hkE with h | h
                · omega
                · intro e; subst e; exact kqe h
          clear hown1 hgrow hat hsame hbA
          go_wp2_with fail
          go_roundw
          case rel => exact HNEXT.out
          case measure => simp [intOf]
        · obtain rfl : j = xf.kids.length := by omega
          have hii0 : i' = -1 := by omega
          subst hii0
          have HNX : Hid (VRel okF B rb I E0 f w (countI (st0 ++ its.reverse)) (.pointer (some ⟨wr.heap.size, 0, none⟩)) (wr.alloc (.cells #[.slice (some ⟨qg, 0, none⟩) (st0.length + xf.kids.length) qc] 250)) ∧ countI (st0 ++ its.reverse) < gk) := by
            have hm := HM.out
            have hb := below_alloc wr (.cells #[.slice (some ⟨qg, 0, none⟩) (st0.length + xf.kids.length) qc] 250)
            have hrl : its.reverse.length = xf.kids.length := by rw [List.length_reverse]; exact hitl
            have hcr : countI (st0 ++ its.reverse) = countI st0 + countAll xf.kids := by
              rw [countI_append, ← HCL.out]
              have h1 : ∀ l : List (Addr × Fm), countI l = (l.map fun x => x.2.count).sum := fun l => by
                induction l with
                | nil => rfl
                | cons x r ih => simp only [countI, List.map_cons, List.sum_cons, ih]
              rw [h1 its.reverse, h1 its, List.map_reverse, List.sum_reverse]
            have how := HKO.out
            rw [List.take_of_length_le (by omega)] at how
            have hkeep : ∀ k, k < w3.heap.size → (k < w.heap.size ∨ E' k) → (wr.alloc (.cells #[.slice (some ⟨qg, 0, none⟩) (st0.length + xf.kids.length) qc] 250)).heap[k]? = w3.heap[k]? := fun k h1 h2 => (hb.block k (by omega)).trans (HK4.out k h1 h2)
            have h23 : w2.heap.size ≤ w3.heap.size := HO3.out.size
            have h42 : wr.heap.size ≤ (wr.alloc (.cells #[.slice (some ⟨qg, 0, none⟩) (st0.length + xf.kids.length) qc] 250)).heap.size := by simp
            have h012 : w.heap.size ≤ w2.heap.size := by omega
            refine ⟨⟨wr.heap.size, _, st0 ++ its.reverse, V ++ [xf], E', rfl, ⟨World.cell?_alloc_at _ _ _ _ rfl, World.frozen?_alloc_at _ _ _ _ rfl, ?_, ?_, by omega, ?_, ?_, ?_, ?_, ⟨?_, ?_⟩, ?_⟩, rfl, ?_⟩, ?_⟩
            · rw [List.length_append, hrl]
              exact how.alloc _
            · intro e
              have := (how.lt _ e).2
              omega
            · rw [preP_kids, HITP.out, List.append_assoc, ← List.append_assoc [xf]]
              have h1 := hm.seen
              rw [preP_snoc] at h1
              simp only [pre_eq xf] at h1
              exact h1
            · exact HVIS.out.still _ _ _ _ HI3.out (hb.os.trans HK13.out.1) (hb.tape.trans HK13.out.2.1) (hb.output.trans HK13.out.2.2) (by omega) (fun k hk => hkeep k (HE3L.out k hk) (.inr hk)) (fun k hk => hkeep k (by omega) (.inl (by omega)))
            · refine ⟨hb.os.trans (HK13.out.1.trans (HO3.out.os.trans (HP6.out.os.trans hm.only.os))), hb.tape.trans (HK13.out.2.1.trans (HO3.out.tape.trans (HP6.out.tape.trans hm.only.tape))), hb.output.trans (HK13.out.2.2.trans (HO3.out.output.trans (HP6.out.output.trans hm.only.output))), by omega, fun k hk hn => ?_⟩
              have hnE : ¬ E k := fun h => by
                rcases (hm.minds k h).1 with h1 | h1
                · exact hn h1
                · omega
              exact (hkeep k (by omega) (.inl hk)).trans ((HO3.out.block k (by omega) hnE).trans ((HLOW2.out k hk).trans (hm.only.block k hk hn)))
            · intro k hk
              have h1 := HE3.out k hk
              refine ⟨?_, by have := HE3L.out k hk; omega⟩
              rcases h1.1 with h2 | h2
              · exact (hm.minds k h2).1
              · exact .inr (by omega)
            · intro h
              have := HE3L.out _ h
              omega
            · intro g' hg' h
              simp [Value.ownBlock] at hg'
              subst hg'
              exact kqe h
            · intro y hy
              have hlow : ∀ k, (k < B ∨ k = rb) → (wr.alloc (.cells #[.slice (some ⟨qg, 0, none⟩) (st0.length + xf.kids.length) qc] 250)).heap[k]? = w3.heap[k]? := fun k hk => hkeep k (by omega) (.inl (by omega))
              rcases List.mem_append.1 hy with hy | hy
              · exact ⟨(HRD3.out y (List.mem_append_left _ hy)).later hlow, (hm.reads y (List.mem_append_left _ hy)).2⟩
              · rw [List.mem_reverse] at hy
                exact ⟨(HITR.out y hy).1.later hlow, (HITR.out y hy).2⟩
            · omega
            · have := HK.out
              rw [this, hcr]
              omega
          clear ko
          go_wp2_with fail
          go_roundg (countI (st0 ++ its.reverse))
          case measure => exact HNX.out.2
          case rel => exact HNX.out.1
set_option maxRecDepth 100000 in
set_option maxHeartbeats 1000000 in
theorem visit_any (okF : Fm → Prop) (hkid : ∀ z, okF z → ∀ c ∈ z.kids, okF c) (B gf : Nat) (lb : Array Value) (I : List Fm → (Nat → Prop) → World → Prop) (hvis : Visitor okF B gf lb I) (x : Item) (E0 : Nat → Prop) (w : World) (hB : B ≤ w.heap.size) (hE : ∀ k, E0 k → B ≤ k ∧ k < w.heap.size) (h0 : I [] E0 w)
    (hv : InV (· < B) w x.f x.val) (hc : x.f.count ≤ 1048577) (hend : EndlessAt x.val w) (hok : okF x.f) :
    Calls Try.prog 123 #[x.val, .func (.func gf) #[] lb] w fun e w' => e = .returned (.tuple #[]) ∧
      ∃ E', I x.f.pre E' w' ∧ OnlyE E0 w w' ∧ (∀ k, E' k → (E0 k ∨ w.heap.size ≤ k) ∧ k < w'.heap.size) := by
  have HVIS := Lib.hid hvis
  have HE := Lib.hid hE
  have H0 := Lib.hid h0
  have HV := Lib.hid hv
  have HEND := Lib.hid hend
  have HKID := Lib.hid hkid
  have HOKX := Lib.hid hok
  clear hvis hE h0 hv hend hkid hok
  unfold Item.val
  go_enter Try.func123, Try.ntmps123
  go_wp2_with fail
  refine (HEND.out _ (below_alloc w _)).mono ?_
  rintro e w1 ⟨rfl, hb1⟩
  have hX := (FormBox.fresh w x.f x.sa x.a x.scap x.cap 33).later hb1
  have hs1 : w.heap.size + 1 ≤ w1.heap.size := by have := hb1.size; simpa using this
  have HB1 : Hid (Below w.heap.size w w1) := (below_alloc w _).trans (hb1.mono (by simp))
  have HX := Lib.hid hX
  clear hb1 hX
  go_wp2_with fail
  refine (visitTree_any okF HKID.out B gf lb I HVIS.out w.heap.size x.f E0 w1 hB (by omega) (fun k hk => by have := HE.out k hk; exact ⟨this.1, by omega, by omega⟩)
    (HVIS.out.still _ _ _ _ H0.out HB1.out.os HB1.out.tape HB1.out.output HB1.out.size (fun k hk => HB1.out.block k (HE.out k hk).2) (fun k hk => HB1.out.block k (by omega))) ?_ hc HOKX.out).mono ?_
  · obtain ⟨x0, x1, x2, x3, x4⟩ := HX.out
    exact ⟨w.heap.size, 0, rfl, .inr rfl, x.sa, x.scap, x.a, x.cap, x0, x1, x2, x3, x4, InV.later (same_below (HB1.out.mono hB)) _ _ HV.out⟩
  · rintro e w2 ⟨rfl, E', h1, h2, h3⟩
    have HF : Hid (∃ E', I x.f.pre E' w2 ∧ OnlyE E0 w w2 ∧ (∀ k, E' k → (E0 k ∨ w.heap.size ≤ k) ∧ k < w2.heap.size)) := by
      refine ⟨E', h1, ⟨h2.os.trans HB1.out.os, h2.tape.trans HB1.out.tape, h2.output.trans HB1.out.output, by have := h2.size; omega, fun k hk hn => (h2.block k (by omega) hn).trans (HB1.out.block k hk)⟩, fun k hk => ?_⟩
      have := h3 k hk
      refine ⟨?_, this.2⟩
      rcases this.1 with h | h
      · exact .inl h
      · exact .inr (by omega)
    clear h1 h2 h3
    go_wp2_with fail
    go_end0
    exact ⟨rfl, HF.out⟩
end
end Go.Proofs.Ytbclgmabidjegaa
