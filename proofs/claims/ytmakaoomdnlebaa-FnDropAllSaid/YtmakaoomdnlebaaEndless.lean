/- The contract of the check for forms that hold themselves, at forms whose memory is their own. -/
import Derived.Test.YtmakaoomdnlebaaMaEnd
import Derived.Test.YtmakaoomdnlebaaData
import Derived.Test.YtmakaoomdnlebaaPop
import Derived.Test.YtmakaoomdnlebaaValid
import Derived.Test.YtmakaoomdnlebaaEndAt
import Derived.Deep.LoopGhost
import Derived.OwnWalk
namespace Go.Proofs.Ytmakaoomdnlebaa
open Go.RowKit
set_option linter.unusedVariables false
theorem info_ptr : (Try.prog.info? 53).map (fun i => (i.zero, i.size, i.bytes)) = some (some (.pointer none), 1, 8) := by kernel_rfl
/-- what turns in the rounds -/
structure EndDyn (base : Nat) (w0 wr : World) (mb : Nat) (m : List (Addr × Bool)) (v : Value) (l : List Ent) : Prop where
  map : MapAt wr mb m
  own : wr.ownsRow base 53 1 v l.length (l.map fun x => .pointer (some x.p))
  ne : v.ownBlock ≠ some mb
  below : Below base w0 wr
  size : base ≤ wr.heap.size
  mbge : base ≤ mb
def EndRel (f : Fm) (base : Nat) (w0 : World) (mb k : Nat) (t : Value) (wr : World) : Prop :=
  ∃ m l, EndDyn base w0 wr mb m t l ∧ EndStat w0 base m l ∧ k = restE l ∧ restE l ≤ 2 * f.count
/-- between two rounds of the inner loop -/
def EndIn (base : Nat) (w1 wr : World) (mb : Nat) (m : List (Addr × Bool)) (l1 es : List Ent) (n : Nat) (t i : Value) : Prop :=
  ∃ j : Nat, j ≤ n ∧ i = .int .i64 j ∧ EndDyn base w1 wr mb m t (l1 ++ es.take j)
theorem EndStat.plainsAt {w0 wr : World} {base : Nat} {m : List (Addr × Bool)} {l : List Ent} (h : EndStat w0 base m l) (hb : Below base w0 wr) : ∀ q ∈ m, Plain wr q.1.block :=
  fun q hq => ((h.plains q hq).2).same (hb.block _ (h.plains q hq).1)
theorem Stored.below {mb base : Nat} {m : List (Addr × Bool)} {w w' : World} (h : Stored mb m w w') (hb : base ≤ mb) : Below base w w' :=
  ⟨h.2.2.2.1, h.2.2.2.2.1, h.2.2.2.2.2, by rw [h.2.1]; exact Nat.le_refl _, fun k hk => h.2.2.1 k (by omega)⟩
theorem Stored.row {mb base n g cap : Nat} {e : TypeId} {size : Nat} {m : List (Addr × Bool)} {w w' : World} {xs : List Value} (h : Stored mb m w w')
    (ho : w.ownsRow base e size (.slice (some ⟨g, 0, none⟩) n cap) n xs) (hne : g ≠ mb) : w'.ownsRow base e size (.slice (some ⟨g, 0, none⟩) n cap) n xs :=
  ho.kept (row := some mb) ⟨h.2.2.2.1, h.2.2.2.2.1, h.2.2.2.2.2, by rw [h.2.1]; exact Nat.le_refl _, fun k _ hk => h.2.2.1 k (fun e => hk (by rw [e]))⟩ (.inr (by simp [Value.ownBlock, hne]))
theorem MapAt.same {w w' : World} {mb : Nat} {m : List (Addr × Bool)} (h : MapAt w mb m) (hs : w'.heap[mb]? = w.heap[mb]?) : MapAt w' mb m := by
  obtain ⟨es, clock, h1, h2⟩ := h
  exact ⟨es, clock, hs.trans h1, h2⟩
theorem MapAt.lt {w : World} {mb : Nat} {m : List (Addr × Bool)} (h : MapAt w mb m) : mb < w.heap.size := by
  obtain ⟨es, clock, h1, h2⟩ := h
  exact (Array.getElem?_eq_some_iff.1 h1).1
theorem make_ptrs (w : World) : (Instr.makeMap 109 none).run Try.prog w = .ok (.map (some w.heap.size)) (w.alloc (.map #[] 0)) := by
  simp [Instr.makeMap, Result.andThen]
set_option maxRecDepth 100000 in
set_option maxHeartbeats 2000000 in
theorem holdsItself_own (f : Fm) (tb : Nat) (sa a : Option Addr) (scap cap : Nat) (bs : List Nat) (w : World) (hbox : FormBox w tb f sa scap a cap) (hpb : Plain w tb) (htb : tb < w.heap.size) (hnb : tb ∉ bs)
    (hv : OwnV w f (.agg #[.int .i64 f.kind, .string f.name, .int .i64 f.n, .slice sa f.scopes.length scap, .slice a f.kids.length cap]) bs) (hnd : bs.Nodup) (hlt : ∀ c ∈ bs, c < w.heap.size) (hp : AllPlain w bs) (hc : f.count ≤ 4294967296) :
    Calls Try.prog 77 #[.pointer (some ⟨tb, 0, none⟩), .func (.func 53) #[] #[]] w fun e w' => e = .returned (.bool false) ∧ Below w.heap.size w w' := by
  have HV := Lib.hid hv
  have HND := Lib.hid hnd
  have HLT := Lib.hid hlt
  have HPL := Lib.hid hp
  have HBX := Lib.hid hbox
  have HPX := Lib.hid hpb
  have HNB := Lib.hid hnb
  have hbox2 := HBX.out
  obtain ⟨i0, hi0, hz0, hz1, hz2⟩ := info_parts info_ptr
  clear hv hnd hlt hp hbox hpb hnb hbox2
  have hmk := make_ptrs w
  go_enter Try.func77, Try.ntmps77
  go_wp2_with fail
  clear hmk
  go_loopg [6] (2 * f.count) (fun k t wr => EndRel f w.heap.size w w.heap.size k t wr)
  case atStart =>
    obtain ⟨c0, c1, c2, c3, c4⟩ := HBX.out
    refine ⟨[], [⟨⟨tb, 0, none⟩, f, bs, false⟩], ⟨?_, ?_, ?_, ?_, ?_, ?_⟩, ⟨fun x hx => ?_, fun q hq => (by cases hq), fun x hx ho => ?_, ?_⟩, by simp [restE], by simp [restE]⟩
    · exact ⟨#[], 0, (by rw [((below_alloc (w.alloc (Obj.map #[] 0)) _).block w.heap.size (by simp)), heap_alloc_new]), rfl⟩
    · have := World.ownsRow_lit (base := w.heap.size) (e := 53) (size := 1) (w.alloc (Obj.map #[] 0)) #[.pointer (some ⟨tb, 0, none⟩)] 1 (by simp) (by unfold maxLen; omega) (by simp)
      rw [size_alloc'] at this
      exact this
    · simp [Value.ownBlock]
    · exact ((Below.refl _ w).alloc (Nat.le_refl _) _).alloc (by simp) _
    · simp; omega
    · exact Nat.le_refl _
    · rw [List.mem_singleton] at hx
      subst hx
      intro h; cases h
    · rw [List.mem_singleton] at hx
      subst hx
      refine ⟨⟨tb, 0, rfl, sa, scap, a, cap, c0, c1, c2, c3, c4, HV.out⟩, ⟨htb, HPX.out⟩, fun c hc => ⟨HLT.out c hc, HPL.out c hc⟩, HND.out, HNB.out, fun q hq => (by cases hq)⟩
    · simp
  case round =>
    obtain ⟨m, l, hd, hst, hk, hkc⟩ := hrel
    have HD := Lib.hid hd
    have HST := Lib.hid hst
    have HK := Lib.hid hk
    clear hk
    have hmlt := hd.map.lt
    rcases List.eq_nil_or_concat l with rfl | ⟨l0, x, rfl⟩
    · have hb : Below w.heap.size w wr := hd.below
      have hform : ∃ a cap, u6 = .slice a 0 cap := by
        rcases hd.own.2 with ⟨h, _⟩ | ⟨g, cap, _, h, _⟩
        · exact ⟨none, 0, h⟩
        · exact ⟨_, cap, h⟩
      obtain ⟨va, vc, rfl⟩ := hform
      have HB := Lib.hid hb
      clear hb hd hst
      go_wp2_with fail
      go_ret
      exact ⟨rfl, HB.out⟩
    · rw [List.concat_eq_append] at hd hst HD HST HK hkc
      obtain ⟨p, xf, xbs, xop⟩ := x
      have ho := hd.own
      rw [List.length_append, List.length_singleton, List.map_append] at ho
      obtain ⟨g, gcap, rfl, hgb, hgl⟩ := ho.form (by omega)
      have hgm : g ≠ w.heap.size := fun e => hd.ne (by simp [Value.ownBlock, e])
      have hcell : wr.cell? ⟨g, l0.length, none⟩ = some (.pointer (some p)) := by
        rw [ho.cellAt l0.length (by omega), List.getElem?_append_right (by simp)]; simp
      obtain ⟨_, _, _, hgc, hgcm⟩ := ownsRow_at ho
      unfold maxLen at hgcm
      have HCUT := Lib.hid (ownsRow_cut ho (by simp))
      have hplains := hst.plainsAt hd.below
      have hlen := length_restE l0
      have hre := restE_append l0 [⟨p, xf, xbs, xop⟩]
      have HRE := Lib.hid hre
      clear hre
      cases xop with
      | true =>
        obtain ⟨y, hy⟩ := hst.opens ⟨p, xf, xbs, true⟩ (by simp) rfl
        obtain ⟨vb, hvb⟩ := getM_some ⟨y, hy⟩
        have hpp : Plain wr p.block := hplains (p, y) hy
        have hlk := (lookup_ptr wr w.heap.size m p hd.map hplains hpp (some vb) hvb).1
        obtain ⟨W, hup, hsto⟩ := update_ptr wr w.heap.size m p false hd.map hplains hpp
        have HSTO := Lib.hid hsto
        have HCL := Lib.hid (hst.close rfl false)
        clear hplains ho hd hst hsto hvb hy hpp
        go_wp2_with fail
        go_roundg (restE l0)
        case measure =>
          have h1 := HK.out
          have h2 := HRE.out
          simp only [restE] at h2
          simp at h2
          omega
        case rel =>
          have h2 := HRE.out
          refine ⟨putM m p false, l0, ⟨HSTO.out.1, HSTO.out.row (by simpa using HCUT.out) hgm, by simp [Value.ownBlock, hgm], HD.out.below.trans (HSTO.out.below HD.out.mbge), by rw [HSTO.out.2.1]; exact HD.out.size, HD.out.mbge⟩, HCL.out, rfl, by omega⟩
      | false =>
        obtain ⟨_, ⟨hpb, hppl⟩, _, _, _, hkeys⟩ := hst.node ⟨p, xf, xbs, false⟩ (by simp) rfl
        have hnone : getM m p = none := getM_none.2 fun q hq => (hkeys q hq).1
        have hpp : Plain wr p.block := hppl.same (hd.below.block _ hpb)
        have hlk := (lookup_ptr wr w.heap.size m p hd.map hplains hpp none hnone).1
        obtain ⟨W, hup, hsto⟩ := update_ptr wr w.heap.size m p true hd.map hplains hpp
        obtain ⟨b, o, sb, sbcap, ka, kcap, es, hpe, hk4, hkl, hkm, hef, hnew, heo, hadr⟩ := hst.open rfl true
        simp only at hpe
        subst hpe
        have hb1 : b < w.heap.size := hpb
        have hbW : Below (w.heap.size) w W := hd.below.trans (hsto.below hd.mbge)
        have hc4 : W.cell? ⟨b, o + 4, none⟩ = some (.slice ka xf.kids.length kcap) := (hbW.cell (p := ⟨b, o + 4, none⟩) hb1).trans hk4
        have HSTO := Lib.hid hsto
        have HNEW := Lib.hid hnew
        have HADR := Lib.hid hadr
        have HEF := Lib.hid hef
        have HEO := Lib.hid heo
        have HBW := Lib.hid hbW
        have HK4 := Lib.hid hk4
        unfold maxLen at hkm
        have hcx := count_eq xf
        have HCX := Lib.hid hcx
        have HKC := Lib.hid hkc
        have hlk2 := length_countAll xf.kids
        have hbnd : l0.length + xf.kids.length ≤ 17179869184 := by
          have h2 := HRE.out
          simp only [restE] at h2
          simp at h2
          omega
        have hlen1 : es.length = xf.kids.length := by rw [← HEF.out, List.length_map]
        have HL1 : Hid (es.length = xf.kids.length) := hlen1
        have hle1 : es.length ≤ xf.kids.length := by omega
        have hle2 : xf.kids.length ≤ es.length := by omega
        have HDYN : Hid (EndDyn (w.heap.size) w W w.heap.size (putM m ⟨b, o, none⟩ true) (.slice (some ⟨g, 0, none⟩) (l0.length + 1) gcap) ((l0 ++ [⟨⟨b, o, none⟩, xf, xbs, true⟩]) ++ es.take 0)) := by
          refine ⟨hsto.1, ?_, by simp [Value.ownBlock, hgm], hbW, by rw [hsto.2.1]; exact hd.size, hd.mbge⟩
          have := hsto.row ho hgm
          simpa using this
        clear hplains ho hd hst hsto hnone hpp hkeys hppl hnew hadr hef heo hbW hk4 hkc hcx hlk2 hlen1
        go_wp2_with fail
        refine (kidsOf_any b o _ W hc4).mono ?_
        rintro e w1 ⟨rfl, rfl⟩
        go_wp2_with fail
        go_loopw [6, 46] (fun t i wr2 => EndIn (w.heap.size) w wr2 w.heap.size (putM m ⟨b, o, none⟩ true) (l0 ++ [⟨⟨b, o, none⟩, xf, xbs, true⟩]) es xf.kids.length t i) (fun _ i _ => xf.kids.length - (intOf i).toNat)
        case atStart => exact ⟨0, Nat.zero_le _, rfl, HDYN.out⟩
        case round =>
          obtain ⟨j, hj, rfl, hd2⟩ := hrel
          have HD2 := Lib.hid hd2
          by_cases hlt : j < xf.kids.length
          · obtain ⟨kb, ko, rfl, hkb, hkp, hmp⟩ := HADR.out (by intro e; rw [e] at hlt; simp at hlt)
            have hje : j < es.length := by omega
            have hpj : es[j].p = ⟨kb, ko + j * 5, none⟩ := by
              have h1 := adrsOf_get kb xf.kids.length ko j hlt
              rw [← hmp, List.getElem?_map, List.getElem?_eq_getElem hje] at h1
              simpa using h1
            obtain ⟨_, ⟨_, hpl2⟩, _, _, _, hkeys2⟩ := HNEW.out.node es[j] (by simp) (HEO.out _ (List.getElem_mem hje))
            have hno2 : getM (putM m ⟨b, o, none⟩ true) ⟨kb, ko + j * 5, none⟩ = none := getM_none.2 fun q hq => by rw [← hpj]; exact (hkeys2 q hq).1
            have hpw : Plain wr kb := hkp.same (hd2.below.block _ hkb)
            have hlk3 := (lookup_ptr wr w.heap.size _ ⟨kb, ko + j * 5, none⟩ hd2.map (HNEW.out.plainsAt hd2.below) hpw none hno2).2
            have hown := hd2.own
            have hbz := hd2.size
            have hmb := hd2.map.lt
            have hln : ((l0 ++ [⟨⟨b, o, none⟩, xf, xbs, true⟩]) ++ es.take j : List Ent).length = l0.length + 1 + j := by
              rw [List.length_append, List.length_append, List.length_take, List.length_singleton]; omega
            have HLN := Lib.hid hln
            rw [hln] at hown
            have hL1 : (l0.length + 1 + j) + 1 ≤ maxLen := by unfold maxLen; omega
            have hL2 : ((l0.length + 1 + j) + 1) * 8 ≤ 140737488355328 := by omega
            have hlw := hown.lt
            have HLW := Lib.hid hlw
            have hnem := HD2.out.ne
            have HNEM := Lib.hid hnem
            have HPJ := Lib.hid hpj
            have hj0 : (0 : Int) ≤ (j : Int) := by omega
            have hj1 : (j : Int) < (xf.kids.length : Int) := by omega
            clear hd2 hpl2 hkeys2 hno2 hpw hln hpj hmp hlw hnem
            go_wp2_with (at_builtin; refine wpList_append_lies _ rfl _ _ 93 rfl w.heap.size 53 i0 _ 1 8 Try.underlying93 hi0 hz0 hz1 hz2 rfl (by decide) _ _ _ rfl (hown.alloc _) ⟨wr.heap.size, 0, none⟩ 1 1 [.pointer (some ⟨kb, ko + j * 5, none⟩)] rfl rfl (World.news_of_block (cs := #[.pointer (some ⟨kb, ko + j * 5, none⟩)]) (t := 53) (fr := (0, 0)) (heap_alloc_new wr _)) (by simp [Value.oneCell']) (by omega) hL1 hL2 (by simp; omega) (wr.heap.size + 1) (by simp) ?_; intro gg qcap w4 hown1 hgrow hat hlt4; have HOWN1 := Lib.hid hown1; have HGROW := Lib.hid hgrow; have HAT := Lib.hid hat; clear hown1 hgrow hat)
            have HNEXT : Hid (EndDyn (w.heap.size) w w4 w.heap.size (putM m ⟨b, o, none⟩ true) (.slice (some ⟨gg, 0, none⟩) (l0.length + 1 + j + 1) qcap) ((l0 ++ [⟨⟨b, o, none⟩, xf, xbs, true⟩]) ++ es.take (j + 1))) := by
              have hA : Below w.heap.size wr (wr.alloc (.cells #[.pointer (some ⟨kb, ko + j * 5, none⟩)] 53)) := (Below.refl _ wr).alloc hbz _
              have hgs := HGROW.out.size
              rw [size_alloc'] at hgs
              refine ⟨?_, ?_, ?_, ?_, by omega, HD2.out.mbge⟩
              · refine HD2.out.map.same ?_
                rw [HGROW.out.block w.heap.size (by rw [size_alloc']; omega) (fun e => HNEM.out e.symm)]
                exact (below_alloc wr _).block _ hmb
              · rw [List.take_succ_eq_append_getElem hje, ← List.append_assoc, List.length_append, HLN.out, List.map_append, List.length_singleton, List.map_singleton, HPJ.out]
                exact HOWN1.out
              · intro e
                have e : gg = w.heap.size := by simpa [Value.ownBlock] using e
                rcases HAT.out with h | h
                · exact HNEM.out (by rw [← e]; exact h)
                · omega
              · exact HD2.out.below.trans (hA.grown HGROW.out (by rw [size_alloc']; omega) (fun k hk => (HLW.out k hk).1))
            clear HOWN1 HGROW HAT
            go_wp2_with fail
            go_roundw
            case rel =>
              refine ⟨j + 1, by omega, by go_num, HNEXT.out⟩
            case measure => simp [intOf]; omega
          · obtain rfl : j = xf.kids.length := by omega
            have HEND : Hid (EndRel f (w.heap.size) w w.heap.size (restE ((l0 ++ [⟨⟨b, o, none⟩, xf, xbs, true⟩]) ++ es)) u6 wr ∧ restE ((l0 ++ [⟨⟨b, o, none⟩, xf, xbs, true⟩]) ++ es) < gk) := by
              have h0 : es.take xf.kids.length = es := List.take_of_length_le hle1
              have h1 := HRE.out
              have h2 := HK.out
              have h3 := HKC.out
              have h4 := restE_append (l0 ++ [⟨⟨b, o, none⟩, xf, xbs, true⟩]) es
              have h5 := restE_append l0 [⟨⟨b, o, none⟩, xf, xbs, true⟩]
              have h6 := restE_kids es HEO.out
              have h7 := HCX.out
              rw [HEF.out] at h6
              simp only [restE] at h1 h5
              simp at h1 h5
              refine ⟨⟨_, _, by rw [← h0]; exact HD2.out, HNEW.out, rfl, by omega⟩, by omega⟩
            clear hd2
            go_wp2_with fail
            go_roundg (restE ((l0 ++ [⟨⟨b, o, none⟩, xf, xbs, true⟩]) ++ es))
            case measure => exact HEND.out.2
            case rel => exact HEND.out.1
set_option maxRecDepth 100000 in
set_option maxHeartbeats 1000000 in
theorem endless_own (f : Fm) (v : Value) (bs : List Nat) (w : World) (hv : OwnV w f v bs) (hnd : bs.Nodup) (hlt : ∀ c ∈ bs, c < w.heap.size) (hp : AllPlain w bs) (hc : f.count ≤ 4294967296) :
    Calls Try.prog 51 #[v] w fun e w' => e = .returned (.bool false) ∧ Below w.heap.size w w' := by
  have HV := Lib.hid hv
  have HIN := Lib.hid (OwnV.inV (φ := (· < w.heap.size)) f v bs hlt hv)
  obtain ⟨sa, scap, a, cap, _, _, rfl, _⟩ := hv.form
  have HND := Lib.hid hnd
  have HLT := Lib.hid hlt
  have HPL := Lib.hid hp
  clear hv hnd hlt hp
  go_enter Try.func51, Try.ntmps51
  go_wp2_with fail
  refine (implFormValid_any w.heap.size f _ _ (by simp) (InV.later (same_below (below_alloc _ _)) _ _ HIN.out)).mono ?_
  rintro e w1 ⟨rfl, hb1⟩
  have HBX := Lib.hid ((FormBox.fresh w f sa a scap cap 27).later hb1)
  have HPX : Hid (Plain w1 w.heap.size) := (Plain.fresh w _ _).later hb1
  have hs1 : w.heap.size + 1 ≤ w1.heap.size := by have := hb1.size; simpa using this
  have HB1 : Hid (Below w.heap.size w w1) := (below_alloc _ _).trans (hb1.mono (by simp))
  clear hb1
  cases hfv : formB f with
  | true =>
    go_wp2_with fail
    go_ret
    exact ⟨rfl, HB1.out⟩
  | false =>
    go_wp2_with fail
    refine (holdsItself_own f w.heap.size sa a scap cap bs w1 HBX.out HPX.out (by omega) (fun hm => Nat.lt_irrefl _ (HLT.out _ hm)) (HV.out.later _ _ _ (SameOn.of_below HB1.out HLT.out)) HND.out (fun c hc => by have := HLT.out c hc; omega) (fun c hc => (HPL.out c hc).later HB1.out) hc).mono ?_
    rintro e w2 ⟨rfl, hb2⟩
    have HB2 : Hid (Below w.heap.size w w2) := HB1.out.trans (hb2.mono (by omega))
    clear hb2
    go_wp2_with fail
    go_ret
    exact ⟨rfl, HB2.out⟩
theorem endlessAt_own (f : Fm) (v : Value) (bs : List Nat) (w : World) (hv : OwnV w f v bs) (hnd : bs.Nodup) (hlt : ∀ c ∈ bs, c < w.heap.size) (hp : AllPlain w bs) (hc : f.count ≤ 4294967296) : EndlessAt v w :=
  fun w' hb => endless_own f v bs w' (hv.later _ _ _ (SameOn.of_below hb hlt)) hnd (fun c hm => Nat.lt_of_lt_of_le (hlt c hm) hb.size) (hp.later hb) hc
end Go.Proofs.Ytmakaoomdnlebaa
