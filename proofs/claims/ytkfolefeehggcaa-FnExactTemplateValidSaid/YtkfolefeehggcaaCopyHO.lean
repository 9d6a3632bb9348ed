/- The contract of the program's copy of a hit. -/
import Derived.Test.YtkfolefeehggcaaMadeHO
import Derived.Test.YtkfolefeehggcaaCopyForm
import Derived.Test.YtkfolefeehggcaaMids
namespace Go.Proofs.Ytkfolefeehggcaa.HO
open Go.RowKit
set_option linter.unusedVariables false
set_option linter.unusedSimpArgs false
section
variable {P : Program} {ops : Array Oper} {Q : Exit → Act → World → Prop} {md : Region.Mode} {S : World → Prop} {L : Nat}
/-- one of three may come up -/
theorem upto_three {i j k : Nat} {o p q : Oper} {fuel : Nat} {listed : Array Bool} {a : Act} {w : World} (hr : Region.ready md ops listed = [i, j, k]) (ho : ops[i]? = some o) (hp : ops[j]? = some p) (hq : ops[k]? = some q)
    (h : ∀ K' : Act → World → Prop, Shut (∀ a w, (i = L ∨ S w) → anyUpto P md ops Q S L fuel (listed.setIfInBounds i true) a w → K' a w) → if Region.wanted o (yielded ops a.tmps) = true then Oper.wp P o a w K' Q else K' (a.put o.dst undef) w)
    (h' : ∀ K' : Act → World → Prop, Shut (∀ a w, (j = L ∨ S w) → anyUpto P md ops Q S L fuel (listed.setIfInBounds j true) a w → K' a w) → if Region.wanted p (yielded ops a.tmps) = true then Oper.wp P p a w K' Q else K' (a.put p.dst undef) w)
    (h'' : ∀ K' : Act → World → Prop, Shut (∀ a w, (k = L ∨ S w) → anyUpto P md ops Q S L fuel (listed.setIfInBounds k true) a w → K' a w) → if Region.wanted q (yielded ops a.tmps) = true then Oper.wp P q a w K' Q else K' (a.put q.dst undef) w) :
    anyUpto P md ops Q S L (fuel + 1) listed a w :=
  ⟨fun h0 => (by rw [hr] at h0; cases h0), fun n hn => by
    rw [hr] at hn
    simp only [List.mem_cons, List.not_mem_nil, or_false] at hn
    rcases hn with rfl | rfl | rfl
    · exact wpOp_step ho (fun K' hK => h K' (fun a w h1 h2 => hK a w ⟨h1, h2⟩))
    · exact wpOp_step hp (fun K' hK => h' K' (fun a w h1 h2 => hK a w ⟨h1, h2⟩))
    · exact wpOp_step hq (fun K' hK => h'' K' (fun a w h1 h2 => hK a w ⟨h1, h2⟩))⟩
end
theorem szHs_mem : ∀ (l : List Ht) (g : Ht), g ∈ l → g.sz ≤ szHs l
  | x :: r, g, h => by
    rcases List.mem_cons.1 h with rfl | h
    · simp only [szHs]; omega
    · have := szHs_mem r g h; simp only [szHs]; omega
/-- a form, copied -/
theorem copyQ (f : Fm) (v : Value) (w : World) (hv : InV (· < w.heap.size) w f v) (hsz : f.sz ≤ 1048576) :
    Calls Try.prog 148 #[v] w fun e w' => ∃ sa scap a cap bs, e = .returned (.agg #[.int .i64 f.kind, .string f.name, .int .i64 f.n, .slice sa f.scopes.length scap, .slice a f.kids.length cap]) ∧
      QV w' f (.agg #[.int .i64 f.kind, .string f.name, .int .i64 f.n, .slice sa f.scopes.length scap, .slice a f.kids.length cap]) bs ∧ NewBs bs w.heap.size w'.heap.size ∧ Below w.heap.size w w' := by
  refine (copyForm_any f v w hv hsz).mono ?_
  rintro e w' ⟨sa, scap, a, cap, bs, rfl, h1, h2, h3, h4⟩
  exact ⟨sa, scap, a, cap, bs, rfl, ⟨h1, h3⟩, h2, h4⟩
def CopyPostH (h : Ht) (w : World) (e : Ending) (w' : World) : Prop := ∃ s1 t1 k1 l1 s2 t2 k2 l2 a cap bs, e = .returned (.agg #[.int .i64 h.name.kind, .string h.name.name, .int .i64 h.name.n, .slice s1 h.name.scopes.length t1, .slice k1 h.name.kids.length l1, .int .i64 h.depth, .int .i64 h.one.kind, .string h.one.name, .int .i64 h.one.n, .slice s2 h.one.scopes.length t2, .slice k2 h.one.kids.length l2, .slice a h.many.length cap]) ∧ QH w' h (.agg #[.int .i64 h.name.kind, .string h.name.name, .int .i64 h.name.n, .slice s1 h.name.scopes.length t1, .slice k1 h.name.kids.length l1, .int .i64 h.depth, .int .i64 h.one.kind, .string h.one.name, .int .i64 h.one.n, .slice s2 h.one.scopes.length t2, .slice k2 h.one.kids.length l2, .slice a h.many.length cap]) bs ∧ NewBs bs w.heap.size w'.heap.size ∧ Below w.heap.size w w'
/-- between two rounds -/
def LoopQ (w : World) (ob base : Nat) (a : Option Addr) (cap : Nat) (nm : Fm) (d : Int) (one : Fm) (p0 : Option Addr) (p1 : Nat) (p2 : Option Addr) (p3 : Nat) (p4 : Option Addr) (p5 : Nat) (p6 : Option Addr) (p7 : Nat) (bA bC : List Nat) (many : List Ht) (i : Value) (wr : World) : Prop :=
  ∃ (j : Nat) (gs : List Ht) (v : Value) (xs : List Value) (bs : List Nat), j ≤ many.length ∧ i = .int .i64 j ∧ gs = many.take j ∧ MadeH w wr w.heap.size (w.heap.size + 1) ob base a cap many.length nm d one p0 p1 p2 p3 p4 p5 p6 p7 bA bC gs v xs bs
/-- what the loads of the loop's region read -/
def SIn (ob q : Nat) (v c0 c1 c2 c3 c4 c5 c6 c7 c8 c9 c10 c11 : Value) (W : World) : Prop := W.cell? ⟨ob, 11, none⟩ = some v ∧ PBox W q c0 c1 c2 c3 c4 c5 c6 c7 c8 c9 c10 c11
theorem SIn.keep {ob q : Nat} {v c0 c1 c2 c3 c4 c5 c6 c7 c8 c9 c10 c11 : Value} {w w' : World} (h : SIn ob q v c0 c1 c2 c3 c4 c5 c6 c7 c8 c9 c10 c11 w) (hs : ∀ k, k = ob ∨ k = q → w'.heap[k]? = w.heap[k]?) : SIn ob q v c0 c1 c2 c3 c4 c5 c6 c7 c8 c9 c10 c11 w' :=
  ⟨(World.cell?_of_block (a := ⟨ob, 11, none⟩) (hs ob (.inl rfl))).trans h.1, h.2.keep (hs q (.inr rfl))⟩
set_option maxRecDepth 100000 in
set_option maxHeartbeats 8000000 in
theorem copyHit_any (h : Ht) : ∀ (v : Value) (w : World), InH (· < w.heap.size) w h v → h.sz ≤ 1048576 → Calls Try.prog 82 #[v] w (CopyPostH h w) := by
  induction h using Ht.ind with
  | h nm d one many ih =>
    intro v w hv hsz
    have hsz1 : nm.sz + one.sz + szHs many ≤ 1048576 := by have := hsz; unfold Ht.sz at this; exact this
    have hlen : many.length ≤ 1048576 := by have := szHs_length many; omega
    have hszn : nm.sz ≤ 1048576 := by omega
    have hszo : one.sz ≤ 1048576 := by omega
    have HSK : Hid (∀ g ∈ many, g.sz ≤ 1048576) := fun g hg => by have := szHs_mem many g hg; omega
    unfold InH at hv
    obtain ⟨s1, t1, k1, l1, s2, t2, k2, l2, a, cap, rfl, hd, hn, ho, hcap, hmax, hks⟩ := hv
    unfold maxLen at hmax
    have HIH := Lib.hid ih
    have HKS := Lib.hid hks
    have HD := Lib.hid hd
    have HN := Lib.hid hn
    have HO := Lib.hid ho
    obtain ⟨i0, hi0, hz0, hz1, hz2⟩ := info_parts Try.infoHt
    clear ih hks hd hn ho hsz hsz1
    go_enter Try.func82, Try.ntmps82
    go_wp2_with fail
    rename_i K hK0
    have HCONT : ∀ (ob base : Nat) (p0 : Option Addr) (p1 : Nat) (p2 : Option Addr) (p3 : Nat) (p4 : Option Addr) (p5 : Nat) (p6 : Option Addr) (p7 : Nat) (bA bC : List Nat) (W : World), MadeH w W w.heap.size (w.heap.size + 1) ob base a cap many.length nm d one p0 p1 p2 p3 p4 p5 p6 p7 bA bC [] (.slice none 0 0) [] [] →
        K { tmps := #[.agg #[.int .i64 nm.kind, .string nm.name, .int .i64 nm.n, .slice s1 nm.scopes.length t1, .slice k1 nm.kids.length l1, .int .i64 d, .int .i64 one.kind, .string one.name, .int .i64 one.n, .slice s2 one.scopes.length t2, .slice k2 one.kids.length l2, .slice a many.length cap], .pointer (some ⟨w.heap.size, 0, none⟩), .pointer (some ⟨w.heap.size + 1, 0, none⟩), .pointer (some ⟨ob, 0, none⟩), undef, undef, .pointer (some ⟨w.heap.size, 0, none⟩), .agg #[.int .i64 nm.kind, .string nm.name, .int .i64 nm.n, .slice s1 nm.scopes.length t1, .slice k1 nm.kids.length l1], .agg #[.int .i64 nm.kind, .string nm.name, .int .i64 nm.n, .slice p0 nm.scopes.length p1, .slice p2 nm.kids.length p3], .pointer (some ⟨w.heap.size, 5, none⟩), .int .i64 d, .pointer (some ⟨w.heap.size, 6, none⟩), .agg #[.int .i64 one.kind, .string one.name, .int .i64 one.n, .slice s2 one.scopes.length t2, .slice k2 one.kids.length l2], .agg #[.int .i64 one.kind, .string one.name, .int .i64 one.n, .slice p4 one.scopes.length p5, .slice p6 one.kids.length p7], .agg #[.int .i64 nm.kind, .string nm.name, .int .i64 nm.n, .slice p0 nm.scopes.length p1, .slice p2 nm.kids.length p3, .int .i64 d, .int .i64 one.kind, .string one.name, .int .i64 one.n, .slice p4 one.scopes.length p5, .slice p6 one.kids.length p7, .slice none 0 0], undef, undef, undef, undef, undef, undef, undef, undef, undef, undef, undef, undef, undef, undef, undef, undef], defers := [] } W := by
      intro ob base p0 p1 p2 p3 p4 p5 p6 p7 bA bC W hst
      apply hK0
      clear hK0
      obtain ⟨f1, f2, f3, f4, f5, f6, f7, f8⟩ := hst.fix
      have hpar := hst.par
      go_wp2_with fail
      go_loopw [18, 5] (fun i u wr => LoopQ w ob base a cap nm d one p0 p1 p2 p3 p4 p5 p6 p7 bA bC many i wr) (fun i _ _ => many.length - (intOf i).toNat)
      case atStart => exact ⟨0, [], .slice none 0 0, [], [], Nat.zero_le _, rfl, by simp, hst⟩
      case round =>
        obtain ⟨j, gs, v, xs, bs, hj, rfl, hgs, hm⟩ := hrel
        have HM := Lib.hid hm
        have HGS := Lib.hid hgs
        have hgl : gs.length = j := by rw [hgs, List.length_take]; omega
        obtain ⟨f1, f2, f3, f4, f5, f6, f7, f8⟩ := hm.fix
        have hpar := hm.par
        have hlast := hm.last
        have hof := hm.free 11
        have hbw := hm.size
        have hfar : ∀ k, v.ownBlock = some k → base ≤ k ∧ k < wr.heap.size := fun k e => hm.own.lt k e
        have HFAR := Lib.hid hfar
        clear hm hgs hfar
        by_cases hlt : j < many.length
        · obtain ⟨b, off, rfl, hbB, hrow⟩ : ∃ b off, a = some ⟨b, off, none⟩ ∧ b < w.heap.size ∧ RowH (· < w.heap.size) w b off many := by
            rcases HKS.out with h | h
            · subst h; simp at hlt
            · exact h
          have hrow1 := hrow.later (same_below HM.out.below) b hbB
          obtain ⟨e0, e1, e2, e3, e4, e5, e6, e7, e8, e9, q0, q1, q2, q3, q4, q5, q6, q7, q8, q9, q10, q11, hin⟩ := hrow1.at' j hlt
          have HIN := Lib.hid (InH.mono (ψ := (· < wr.heap.size)) (fun k (hk : k < w.heap.size) => by show k < wr.heap.size; omega) _ _ hin)
          clear hrow hrow1 hin
          have hj0 : (0 : Int) ≤ (j : Int) := by omega
          have hj1 : (j : Int) < (many.length : Int) := by omega
          have hL1 : gs.length + 1 ≤ maxLen := by unfold maxLen; omega
          have hL2 : (gs.length + 1) * 192 ≤ 140737488355328 := by omega
          go_wp2_with fail
          obtain ⟨w5, hw5⟩ : ∃ w5, w5 = wr.alloc (.cells #[.int .i64 many[j].name.kind, .string many[j].name.name, .int .i64 many[j].name.n, .slice e0 many[j].name.scopes.length e1, .slice e2 many[j].name.kids.length e3, .int .i64 many[j].depth, .int .i64 many[j].one.kind, .string many[j].one.name, .int .i64 many[j].one.n, .slice e4 many[j].one.scopes.length e5, .slice e6 many[j].one.kids.length e7, .slice e8 many[j].many.length e9] 38) := ⟨_, rfl⟩
          have hb5 : Below wr.heap.size wr w5 := by rw [hw5]; exact below_alloc wr _
          have hs5 : w5.heap.size = wr.heap.size + 1 := by rw [hw5]; simp
          have hpx : PBox w5 wr.heap.size (.int .i64 many[j].name.kind) (.string many[j].name.name) (.int .i64 many[j].name.n) (.slice e0 many[j].name.scopes.length e1) (.slice e2 many[j].name.kids.length e3) (.int .i64 many[j].depth) (.int .i64 many[j].one.kind) (.string many[j].one.name) (.int .i64 many[j].one.n) (.slice e4 many[j].one.scopes.length e5) (.slice e6 many[j].one.kids.length e7) (.slice e8 many[j].many.length e9) := by rw [hw5]; exact ⟨World.cell?_alloc_at _ _ _ _ rfl, World.cell?_alloc_at _ _ _ _ rfl, World.cell?_alloc_at _ _ _ _ rfl, World.cell?_alloc_at _ _ _ _ rfl, World.cell?_alloc_at _ _ _ _ rfl, World.cell?_alloc_at _ _ _ _ rfl, World.cell?_alloc_at _ _ _ _ rfl, World.cell?_alloc_at _ _ _ _ rfl, World.cell?_alloc_at _ _ _ _ rfl, World.cell?_alloc_at _ _ _ _ rfl, World.cell?_alloc_at _ _ _ _ rfl, World.cell?_alloc_at _ _ _ _ rfl⟩
          have hlast5 := cell_later' hb5 hlast
          rw [← hw5]
          clear hw5 q0 q1 q2 q3 q4 q5 q6 q7 q8 q9 q10 q11
          refine upto_begin (SIn ob wr.heap.size v (.int .i64 many[j].name.kind) (.string many[j].name.name) (.int .i64 many[j].name.n) (.slice e0 many[j].name.scopes.length e1) (.slice e2 many[j].name.kids.length e3) (.int .i64 many[j].depth) (.int .i64 many[j].one.kind) (.string many[j].one.name) (.int .i64 many[j].one.n) (.slice e4 many[j].one.scopes.length e5) (.slice e6 many[j].one.kids.length e7) (.slice e8 many[j].many.length e9)) 7 (by kernel_rfl) ?_
          obtain ⟨u, hu⟩ : ∃ u, u = w5.drew := ⟨_, rfl⟩
          rw [← hu]
          have hb : Below w5.heap.size w5 u := by rw [hu]; exact (Below.refl _ _).drew
          have hbU : Below wr.heap.size wr u := hb5.trans (hb.mono (by omega))
          have hsu : w5.heap.size ≤ u.heap.size := hb.size
          have hS0 : (SIn ob wr.heap.size v (.int .i64 many[j].name.kind) (.string many[j].name.name) (.int .i64 many[j].name.n) (.slice e0 many[j].name.scopes.length e1) (.slice e2 many[j].name.kids.length e3) (.int .i64 many[j].depth) (.int .i64 many[j].one.kind) (.string many[j].one.name) (.int .i64 many[j].one.n) (.slice e4 many[j].one.scopes.length e5) (.slice e6 many[j].one.kids.length e7) (.slice e8 many[j].many.length e9)) u := ⟨cell_later' hb hlast5, hpx.later hb⟩
          clear hb hu
          refine upto_take (i := 0) (d := some 22) (v := ?_) rfl rfl (by kernel_rfl) (by kernel_rfl) (by kernel_rfl) (by kernel_rfl) (fun _ _ _ h => h) (Or.inl ⟨by rfl, ?_⟩) hS0 ?_
          rotate_left
          · (intro wS hSw; obtain ⟨_, ⟨_, _, _, _, _, _, _, _, _, _, _, _⟩⟩ := hSw; go_simp; try with_reducible rfl)
          try simp only [Act.put, List.setIfInBounds_toArray, List.set_cons_zero, List.set_cons_succ]
          refine upto_take (i := 1) (d := some 23) (v := ?_) rfl rfl (by kernel_rfl) (by kernel_rfl) (by kernel_rfl) (by kernel_rfl) (fun _ _ _ h => h) (Or.inl ⟨by rfl, ?_⟩) hS0 ?_
          rotate_left
          · (intro wS hSw; obtain ⟨_, ⟨_, _, _, _, _, _, _, _, _, _, _, _⟩⟩ := hSw; go_simp; try with_reducible rfl)
          try simp only [Act.put, List.setIfInBounds_toArray, List.set_cons_zero, List.set_cons_succ]
          refine upto_take (i := 2) (d := some 24) (v := ?_) rfl rfl (by kernel_rfl) (by kernel_rfl) (by kernel_rfl) (by kernel_rfl) (fun _ _ _ h => h) (Or.inl ⟨by rfl, ?_⟩) hS0 ?_
          rotate_left
          · (intro wS hSw; obtain ⟨_, ⟨_, _, _, _, _, _, _, _, _, _, _, _⟩⟩ := hSw; go_simp; try with_reducible rfl)
          try simp only [Act.put, List.setIfInBounds_toArray, List.set_cons_zero, List.set_cons_succ]
          refine upto_one (i := 3) (by kernel_rfl) rfl (fun K hK => ?_)
          go_simp
          refine (HIH.out _ (List.getElem_mem hlt) _ u (InH.mono (fun k (hk : k < wr.heap.size) => by show k < u.heap.size; have := hbU.size; omega) _ _ (InH.later (same_below hbU) _ _ HIN.out)) (HSK.out _ (List.getElem_mem hlt))).mono ?_
          rintro e w1 ⟨g0, g1, g2, g3, g4, g5, g6, g7, g8, g9, bx, rfl, hkv, hnx, hb1⟩
          have hsw1 := hb1.size
          have hb1' : Below wr.heap.size wr w1 := hbU.trans (hb1.mono (by omega))
          have HKV := Lib.hid hkv
          have HNX : Hid (NewBs bx wr.heap.size w1.heap.size) := hnx.mono (by omega) (Nat.le_refl _)
          have hS1 := SIn.keep (w := u) (w' := w1) hS0 (fun k hk => hb1.block k (by rcases hk with rfl | rfl <;> omega))
          refine hK.out _ _ (.inr hS1) ?_
          have HB1 := Lib.hid hb1'
          have hs1 := hb1'.size
          have hown2 : w1.ownsRow base 38 12 v gs.length xs := HM.out.own.kept (row := none) ⟨hb1'.os, hb1'.tape, hb1'.output, hb1'.size, fun k hk _ => hb1'.block k hk⟩ (by cases v.ownBlock <;> simp)
          clear hK K hkv hnx hb1 hb1' hS0
          obtain ⟨G, hG⟩ : ∃ G, many[j] = G := ⟨_, rfl⟩
          rw [hG] at HKV hS1 ⊢
          refine upto_one (i := 4) (by kernel_rfl) rfl (fun K hK => ?_)
          go_simp
          have hbA := below_alloc w1 (Obj.cells #[.int .i64 G.name.kind, .string G.name.name, .int .i64 G.name.n, .slice g0 G.name.scopes.length g1, .slice g2 G.name.kids.length g3, .int .i64 G.depth, .int .i64 G.one.kind, .string G.one.name, .int .i64 G.one.n, .slice g4 G.one.scopes.length g5, .slice g6 G.one.kids.length g7, .slice g8 G.many.length g9] 38)
          have hS2 := hS1.keep (fun k hk => hbA.block k (by rcases hk with rfl | rfl <;> omega))
          refine hK.out _ _ (.inr hS2) ?_
          clear hK K
          refine upto_oper (i := 5) ⟨some 27, .call { callee := .builtin .append, args := #[.tmp 23, .tmp 26], argTypes := #[25, 25] }, 25, _, _, _⟩ (by kernel_rfl) rfl rfl (fun K hK => ?_)
          refine wp_append_lies _ (.tmp 23) (.tmp 26) 25 rfl base 38 i0 _ 12 192 Try.underlying25 hi0 hz0 hz1 hz2 rfl (by omega) _ gs.length xs (by rfl) (hown2.alloc _)
                    ⟨w1.heap.size, 0, none⟩ 1 1 [.int .i64 G.name.kind, .string G.name.name, .int .i64 G.name.n, .slice g0 G.name.scopes.length g1, .slice g2 G.name.kids.length g3, .int .i64 G.depth, .int .i64 G.one.kind, .string G.one.name, .int .i64 G.one.n, .slice g4 G.one.scopes.length g5, .slice g6 G.one.kids.length g7, .slice g8 G.many.length g9] (by rfl) (by rfl) (World.news_of_block (cs := #[.int .i64 G.name.kind, .string G.name.name, .int .i64 G.name.n, .slice g0 G.name.scopes.length g1, .slice g2 G.name.kids.length g3, .int .i64 G.depth, .int .i64 G.one.kind, .string G.one.name, .int .i64 G.one.n, .slice g4 G.one.scopes.length g5, .slice g6 G.one.kids.length g7, .slice g8 G.many.length g9]) (t := 38) (fr := (0, 0)) (heap_alloc_new w1 _)) (by simp [Value.oneCell'])
                    (by omega) hL1 hL2 (by simp; omega) (w1.heap.size + 1) (by simp) ?_
          intro gq qd w3 hown3 hgrow hat hlt4
          have hS3 := hS2.keep (w' := w3) (fun k hk => hgrow.block k (by rcases hk with rfl | rfl <;> simp <;> omega) (fun e => by have := HFAR.out k e.symm; rcases hk with rfl | rfl <;> omega))
          refine hK.out _ _ (.inr hS3) ?_
          have hc4 := hS3.1
          have hf4 : w3.frozen? ⟨ob, 11, none⟩ = false := by
            rw [World.frozen?_of_block (a := ⟨ob, 11, none⟩) (hgrow.block (ob) (by simp; omega) (fun e => by have := HFAR.out _ e.symm; omega)), hbA.frozen (p := ⟨ob, 11, none⟩) (show ob < _ by omega),
              HB1.out.frozen (p := ⟨ob, 11, none⟩) (show ob < _ by omega)]
            exact hof
          clear hK K
          refine upto_one (i := 6) (by kernel_rfl) rfl (fun K hK => ?_)
          go_simp
          refine hK.out _ _ (.inr hS3) ?_
          clear hK K
          refine upto_one (i := 7) (by kernel_rfl) rfl (fun K hK => ?_)
          go_simp
          refine hK.out _ _ (.inl rfl) ?_
          clear hK K
          refine upto_done (by kernel_rfl) ?_ _
          have HNEXT : Hid (LoopQ w ob base (some ⟨b, off, none⟩) cap nm d one p0 p1 p2 p3 p4 p5 p6 p7 bA bC many (.int .i64 ((j : Int) + 1)) (w3.setCell ⟨ob, 11, none⟩ (.slice (some ⟨gq, 0, none⟩) (j + 1) qd))) := by
            rw [← hgl]
            refine ⟨gs.length + 1, gs ++ [G], _, _, _, by omega, by go_num, ?_, HM.out.step (HB1.out.trans (hbA.mono (by omega))) (HKV.out.later (fun c hc => hbA.block c (HNX.out.2 c hc).2)) (HNX.out.mono (Nat.le_refl _) (by simp)) hown3 hgrow (by simpa using hat)⟩
            rw [hgl, List.take_succ_eq_append_getElem hlt, hG, ← HGS.out]
          clear hown3 hgrow hat hlt4 hS3 hS2 hS1 hbA hown2 hc4 hf4
          go_wp2_with fail
          go_roundw
          case rel => exact HNEXT.out
          case measure => simp [intOf]; omega
        · have hjl : j = many.length := by omega
          subst hjl
          have HG : Hid (gs = many) := by have := HGS.out; rw [List.take_length] at this; exact this
          obtain ⟨va, vc, rfl⟩ : ∃ va vc, v = .slice va many.length vc := by
            rw [← hgl]
            rcases HM.out.own.2 with ⟨h, h0⟩ | ⟨g, cp, _, h, _⟩
            · exact ⟨none, 0, by rw [h, h0]⟩
            · exact ⟨_, cp, h⟩
          have hro1 := HM.out.zero
          have r0 : wr.cell? ⟨w.heap.size + 1, 0, none⟩ = some (.int .i64 0) := by rw [cell_of_row wr _ 0 _ _ _ hro1]; rfl
          have r1 : wr.cell? ⟨w.heap.size + 1, 1, none⟩ = some (.string { data := #[] }) := by rw [cell_of_row wr _ 1 _ _ _ hro1]; rfl
          have r2 : wr.cell? ⟨w.heap.size + 1, 2, none⟩ = some (.int .i64 0) := by rw [cell_of_row wr _ 2 _ _ _ hro1]; rfl
          have r3 : wr.cell? ⟨w.heap.size + 1, 3, none⟩ = some (.slice none 0 0) := by rw [cell_of_row wr _ 3 _ _ _ hro1]; rfl
          have r4 : wr.cell? ⟨w.heap.size + 1, 4, none⟩ = some (.slice none 0 0) := by rw [cell_of_row wr _ 4 _ _ _ hro1]; rfl
          have r5 : wr.cell? ⟨w.heap.size + 1, 5, none⟩ = some (.int .i64 0) := by rw [cell_of_row wr _ 5 _ _ _ hro1]; rfl
          have r6 : wr.cell? ⟨w.heap.size + 1, 6, none⟩ = some (.int .i64 0) := by rw [cell_of_row wr _ 6 _ _ _ hro1]; rfl
          have r7 : wr.cell? ⟨w.heap.size + 1, 7, none⟩ = some (.string { data := #[] }) := by rw [cell_of_row wr _ 7 _ _ _ hro1]; rfl
          have r8 : wr.cell? ⟨w.heap.size + 1, 8, none⟩ = some (.int .i64 0) := by rw [cell_of_row wr _ 8 _ _ _ hro1]; rfl
          have r9 : wr.cell? ⟨w.heap.size + 1, 9, none⟩ = some (.slice none 0 0) := by rw [cell_of_row wr _ 9 _ _ _ hro1]; rfl
          have r10 : wr.cell? ⟨w.heap.size + 1, 10, none⟩ = some (.slice none 0 0) := by rw [cell_of_row wr _ 10 _ _ _ hro1]; rfl
          have r11 : wr.cell? ⟨w.heap.size + 1, 11, none⟩ = some (.slice none 0 0) := by rw [cell_of_row wr _ 11 _ _ _ hro1]; rfl
          have hplr : Plain wr (w.heap.size + 1) := ⟨_, _, hro1⟩
          have t_0 := hplr.frozen 0
          have t_1 := hplr.frozen 1
          have t_2 := hplr.frozen 2
          have t_3 := hplr.frozen 3
          have t_4 := hplr.frozen 4
          have t_5 := hplr.frozen 5
          have t_6 := hplr.frozen 6
          have t_7 := hplr.frozen 7
          have t_8 := hplr.frozen 8
          have t_9 := hplr.frozen 9
          have t_10 := hplr.frozen 10
          have t_11 := hplr.frozen 11
          obtain ⟨o0, o1, o2, o3, o4, o5, o6, o7, o8, o9, o10⟩ := HM.out.head
          have HEND := Lib.hid (HM.out.ends HD.out)
          have hnb : ¬((many.length : Int) < (many.length : Int)) := by omega
          have HR : Hid (∀ i, i < 12 → ∃ v, wr.cell? ⟨w.heap.size + 1, 0 + i, none⟩ = some v) := fun i hi => by
            rw [Nat.zero_add]
            match i, hi with
            | 0, _ => exact ⟨_, r0⟩
            | 1, _ => exact ⟨_, r1⟩
            | 2, _ => exact ⟨_, r2⟩
            | 3, _ => exact ⟨_, r3⟩
            | 4, _ => exact ⟨_, r4⟩
            | 5, _ => exact ⟨_, r5⟩
            | 6, _ => exact ⟨_, r6⟩
            | 7, _ => exact ⟨_, r7⟩
            | 8, _ => exact ⟨_, r8⟩
            | 9, _ => exact ⟨_, r9⟩
            | 10, _ => exact ⟨_, r10⟩
            | 11, _ => exact ⟨_, r11⟩
          clear hro1 hplr
          go_wp2_with fail
          obtain ⟨V, hV⟩ : ∃ V, V = ((((((((((((wr.setCell ⟨w.heap.size + 1, 0, none⟩ (.int .i64 nm.kind)).setCell ⟨w.heap.size + 1, 1, none⟩ (.string nm.name)).setCell ⟨w.heap.size + 1, 2, none⟩ (.int .i64 nm.n)).setCell ⟨w.heap.size + 1, 3, none⟩ (.slice p0 nm.scopes.length p1)).setCell ⟨w.heap.size + 1, 4, none⟩ (.slice p2 nm.kids.length p3)).setCell ⟨w.heap.size + 1, 5, none⟩ (.int .i64 d)).setCell ⟨w.heap.size + 1, 6, none⟩ (.int .i64 one.kind)).setCell ⟨w.heap.size + 1, 7, none⟩ (.string one.name)).setCell ⟨w.heap.size + 1, 8, none⟩ (.int .i64 one.n)).setCell ⟨w.heap.size + 1, 9, none⟩ (.slice p4 one.scopes.length p5)).setCell ⟨w.heap.size + 1, 10, none⟩ (.slice p6 one.kids.length p7)).setCell ⟨w.heap.size + 1, 11, none⟩ (.slice va many.length vc)) := ⟨_, rfl⟩
          have E : V = sets wr (w.heap.size + 1) 0 [.int .i64 nm.kind, .string nm.name, .int .i64 nm.n, .slice p0 nm.scopes.length p1, .slice p2 nm.kids.length p3, .int .i64 d, .int .i64 one.kind, .string one.name, .int .i64 one.n, .slice p4 one.scopes.length p5, .slice p6 one.kids.length p7, .slice va many.length vc] := by rw [hV]; rfl
          have hin := sets_in (w.heap.size + 1) [Value.int .i64 nm.kind, Value.string nm.name, Value.int .i64 nm.n, Value.slice p0 nm.scopes.length p1, Value.slice p2 nm.kids.length p3, Value.int .i64 d, Value.int .i64 one.kind, Value.string one.name, Value.int .i64 one.n, Value.slice p4 one.scopes.length p5, Value.slice p6 one.kids.length p7, Value.slice va many.length vc] wr 0 HR.out
          rw [← E] at hin
          have z0 : V.cell? ⟨w.heap.size + 1, 0, none⟩ = some (.int .i64 nm.kind) := by have := hin 0 (by simp); simpa using this
          have z1 : V.cell? ⟨w.heap.size + 1, 1, none⟩ = some (.string nm.name) := by have := hin 1 (by simp); simpa using this
          have z2 : V.cell? ⟨w.heap.size + 1, 2, none⟩ = some (.int .i64 nm.n) := by have := hin 2 (by simp); simpa using this
          have z3 : V.cell? ⟨w.heap.size + 1, 3, none⟩ = some (.slice p0 nm.scopes.length p1) := by have := hin 3 (by simp); simpa using this
          have z4 : V.cell? ⟨w.heap.size + 1, 4, none⟩ = some (.slice p2 nm.kids.length p3) := by have := hin 4 (by simp); simpa using this
          have z5 : V.cell? ⟨w.heap.size + 1, 5, none⟩ = some (.int .i64 d) := by have := hin 5 (by simp); simpa using this
          have z6 : V.cell? ⟨w.heap.size + 1, 6, none⟩ = some (.int .i64 one.kind) := by have := hin 6 (by simp); simpa using this
          have z7 : V.cell? ⟨w.heap.size + 1, 7, none⟩ = some (.string one.name) := by have := hin 7 (by simp); simpa using this
          have z8 : V.cell? ⟨w.heap.size + 1, 8, none⟩ = some (.int .i64 one.n) := by have := hin 8 (by simp); simpa using this
          have z9 : V.cell? ⟨w.heap.size + 1, 9, none⟩ = some (.slice p4 one.scopes.length p5) := by have := hin 9 (by simp); simpa using this
          have z10 : V.cell? ⟨w.heap.size + 1, 10, none⟩ = some (.slice p6 one.kids.length p7) := by have := hin 10 (by simp); simpa using this
          have z11 : V.cell? ⟨w.heap.size + 1, 11, none⟩ = some (.slice va many.length vc) := by have := hin 11 (by simp); simpa using this
          obtain ⟨ba, hq, hnw, hnr⟩ := HEND.out
          have hq5 : QH V (.mk nm d one gs) (.agg #[.int .i64 nm.kind, .string nm.name, .int .i64 nm.n, .slice p0 nm.scopes.length p1, .slice p2 nm.kids.length p3, .int .i64 d, .int .i64 one.kind, .string one.name, .int .i64 one.n, .slice p4 one.scopes.length p5, .slice p6 one.kids.length p7, .slice va many.length vc]) ba := by rw [E]; exact hq.later (fun c hc => sets_block _ _ _ _ (fun e => hnr (e ▸ hc)))
          have hz5 : V.heap.size = wr.heap.size := by rw [E, sets_size]
          have hbe5 : Below w.heap.size w V := by rw [E]; exact sets_below (by omega) _ _ HM.out.below
          rw [HG.out] at hq5
          rw [← hV]
          refine bodyPost_ret (v := .agg #[.int .i64 nm.kind, .string nm.name, .int .i64 nm.n, .slice p0 nm.scopes.length p1, .slice p2 nm.kids.length p3, .int .i64 d, .int .i64 one.kind, .string one.name, .int .i64 one.n, .slice p4 one.scopes.length p5, .slice p6 one.kids.length p7, .slice va many.length vc]) (by simp [results, Try.results82, go_sem, z0, z1, z2, z3, z4, z5, z6, z7, z8, z9, z10, z11]) rfl ?_
          exact ⟨_, _, _, _, _, _, _, _, _, _, ba, rfl, hq5, by rw [hz5]; exact hnw, hbe5⟩
    have HC := Lib.hid HCONT
    clear HCONT hK0
    generalize hw0 : (w.alloc (.cells #[.int .i64 nm.kind, .string nm.name, .int .i64 nm.n, .slice s1 nm.scopes.length t1, .slice k1 nm.kids.length l1, .int .i64 d, .int .i64 one.kind, .string one.name, .int .i64 one.n, .slice s2 one.scopes.length t2, .slice k2 one.kids.length l2, .slice a many.length cap] 38)).alloc (.cells #[.int .i64 0, .string { data := #[] }, .int .i64 0, .slice none 0 0, .slice none 0 0, .int .i64 0, .int .i64 0, .string { data := #[] }, .int .i64 0, .slice none 0 0, .slice none 0 0, .slice none 0 0] 38) = w0
    have hb0 : Below w.heap.size w w0 := by rw [← hw0]; exact (below_alloc w _).alloc (by simp) _
    have hs0 : w0.heap.size = w.heap.size + 2 := by rw [← hw0]; simp
    have hp0 : PBox w0 w.heap.size (.int .i64 nm.kind) (.string nm.name) (.int .i64 nm.n) (.slice s1 nm.scopes.length t1) (.slice k1 nm.kids.length l1) (.int .i64 d) (.int .i64 one.kind) (.string one.name) (.int .i64 one.n) (.slice s2 one.scopes.length t2) (.slice k2 one.kids.length l2) (.slice a many.length cap) := by
      rw [← hw0]
      exact PBox.keep (w := w.alloc (.cells #[.int .i64 nm.kind, .string nm.name, .int .i64 nm.n, .slice s1 nm.scopes.length t1, .slice k1 nm.kids.length l1, .int .i64 d, .int .i64 one.kind, .string one.name, .int .i64 one.n, .slice s2 one.scopes.length t2, .slice k2 one.kids.length l2, .slice a many.length cap] 38)) ⟨World.cell?_alloc_at _ _ _ _ rfl, World.cell?_alloc_at _ _ _ _ rfl, World.cell?_alloc_at _ _ _ _ rfl, World.cell?_alloc_at _ _ _ _ rfl, World.cell?_alloc_at _ _ _ _ rfl, World.cell?_alloc_at _ _ _ _ rfl, World.cell?_alloc_at _ _ _ _ rfl, World.cell?_alloc_at _ _ _ _ rfl, World.cell?_alloc_at _ _ _ _ rfl, World.cell?_alloc_at _ _ _ _ rfl, World.cell?_alloc_at _ _ _ _ rfl, World.cell?_alloc_at _ _ _ _ rfl⟩ ((below_alloc (w.alloc (.cells #[.int .i64 nm.kind, .string nm.name, .int .i64 nm.n, .slice s1 nm.scopes.length t1, .slice k1 nm.kids.length l1, .int .i64 d, .int .i64 one.kind, .string one.name, .int .i64 one.n, .slice s2 one.scopes.length t2, .slice k2 one.kids.length l2, .slice a many.length cap] 38)) _).block w.heap.size (by simp))
    have hzz : w0.heap[w.heap.size + 1]? = some (.cells #[.int .i64 0, .string { data := #[] }, .int .i64 0, .slice none 0 0, .slice none 0 0, .int .i64 0, .int .i64 0, .string { data := #[] }, .int .i64 0, .slice none 0 0, .slice none 0 0, .slice none 0 0] 38 (0, 0)) := by
      rw [← hw0]
      have := heap_alloc_new (w.alloc (.cells #[.int .i64 nm.kind, .string nm.name, .int .i64 nm.n, .slice s1 nm.scopes.length t1, .slice k1 nm.kids.length l1, .int .i64 d, .int .i64 one.kind, .string one.name, .int .i64 one.n, .slice s2 one.scopes.length t2, .slice k2 one.kids.length l2, .slice a many.length cap] 38)) (.cells #[.int .i64 0, .string { data := #[] }, .int .i64 0, .slice none 0 0, .slice none 0 0, .int .i64 0, .int .i64 0, .string { data := #[] }, .int .i64 0, .slice none 0 0, .slice none 0 0, .slice none 0 0] 38)
      rw [size_alloc'] at this
      exact this
    clear hw0
    refine upto_begin (fun W => PBox W w.heap.size (.int .i64 nm.kind) (.string nm.name) (.int .i64 nm.n) (.slice s1 nm.scopes.length t1) (.slice k1 nm.kids.length l1) (.int .i64 d) (.int .i64 one.kind) (.string one.name) (.int .i64 one.n) (.slice s2 one.scopes.length t2) (.slice k2 one.kids.length l2) (.slice a many.length cap)) 10 (by kernel_rfl) ?_
    obtain ⟨u0, hu⟩ : ∃ u, u = w0.drew := ⟨_, rfl⟩
    rw [← hu]
    have hb : Below w0.heap.size w0 u0 := by rw [hu]; exact (Below.refl _ _).drew
    have hsu : w.heap.size + 2 ≤ u0.heap.size := by have := hb.size; omega
    have hB : Below w.heap.size w u0 := hb0.trans (hb.mono (by omega))
    have hp : PBox u0 w.heap.size (.int .i64 nm.kind) (.string nm.name) (.int .i64 nm.n) (.slice s1 nm.scopes.length t1) (.slice k1 nm.kids.length l1) (.int .i64 d) (.int .i64 one.kind) (.string one.name) (.int .i64 one.n) (.slice s2 one.scopes.length t2) (.slice k2 one.kids.length l2) (.slice a many.length cap) := hp0.later hb
    have hz : u0.heap[w.heap.size + 1]? = some (.cells #[.int .i64 0, .string { data := #[] }, .int .i64 0, .slice none 0 0, .slice none 0 0, .int .i64 0, .int .i64 0, .string { data := #[] }, .int .i64 0, .slice none 0 0, .slice none 0 0, .slice none 0 0] 38 (0, 0)) := (hb.block _ (by omega)).trans hzz
    clear hb hu hp0 hb0 hzz
    refine upto_take (i := 0) (d := some 6) (v := ?_) rfl rfl (by kernel_rfl) (by kernel_rfl) (by kernel_rfl) (by kernel_rfl) (fun _ _ _ h => h) (Or.inl ⟨by rfl, ?_⟩) hp ?_
    rotate_left
    · (intro wS hSw; obtain ⟨_, _, _, _, _, _, _, _, _, _, _, _⟩ := hSw; go_simp; try with_reducible rfl)
    try simp only [Act.put, List.setIfInBounds_toArray, List.set_cons_zero, List.set_cons_succ]
    refine upto_take (i := 1) (d := some 7) (v := ?_) rfl rfl (by kernel_rfl) (by kernel_rfl) (by kernel_rfl) (by kernel_rfl) (fun _ _ _ h => h) (Or.inl ⟨by rfl, ?_⟩) hp ?_
    rotate_left
    · (intro wS hSw; obtain ⟨_, _, _, _, _, _, _, _, _, _, _, _⟩ := hSw; go_simp; try with_reducible rfl)
    try simp only [Act.put, List.setIfInBounds_toArray, List.set_cons_zero, List.set_cons_succ]
    refine upto_take (i := 3) (d := some 9) (v := ?_) rfl rfl (by kernel_rfl) (by kernel_rfl) (by kernel_rfl) (by kernel_rfl) (fun _ _ _ h => h) (Or.inl ⟨by rfl, ?_⟩) hp ?_
    rotate_left
    · (intro wS hSw; obtain ⟨_, _, _, _, _, _, _, _, _, _, _, _⟩ := hSw; go_simp; try with_reducible rfl)
    try simp only [Act.put, List.setIfInBounds_toArray, List.set_cons_zero, List.set_cons_succ]
    refine upto_take (i := 4) (d := some 10) (v := ?_) rfl rfl (by kernel_rfl) (by kernel_rfl) (by kernel_rfl) (by kernel_rfl) (fun _ _ _ h => h) (Or.inl ⟨by rfl, ?_⟩) hp ?_
    rotate_left
    · (intro wS hSw; obtain ⟨_, _, _, _, _, _, _, _, _, _, _, _⟩ := hSw; go_simp; try with_reducible rfl)
    try simp only [Act.put, List.setIfInBounds_toArray, List.set_cons_zero, List.set_cons_succ]
    refine upto_take (i := 5) (d := some 11) (v := ?_) rfl rfl (by kernel_rfl) (by kernel_rfl) (by kernel_rfl) (by kernel_rfl) (fun _ _ _ h => h) (Or.inl ⟨by rfl, ?_⟩) hp ?_
    rotate_left
    · (intro wS hSw; obtain ⟨_, _, _, _, _, _, _, _, _, _, _, _⟩ := hSw; go_simp; try with_reducible rfl)
    try simp only [Act.put, List.setIfInBounds_toArray, List.set_cons_zero, List.set_cons_succ]
    refine upto_take (i := 6) (d := some 12) (v := ?_) rfl rfl (by kernel_rfl) (by kernel_rfl) (by kernel_rfl) (by kernel_rfl) (fun _ _ _ h => h) (Or.inl ⟨by rfl, ?_⟩) hp ?_
    rotate_left
    · (intro wS hSw; obtain ⟨_, _, _, _, _, _, _, _, _, _, _, _⟩ := hSw; go_simp; try with_reducible rfl)
    try simp only [Act.put, List.setIfInBounds_toArray, List.set_cons_zero, List.set_cons_succ]
    refine upto_two (i := 2) (j := 9) (by kernel_rfl) rfl rfl (fun K' hK => ?_) (fun K' hK => ?_)
    · skip
      go_simp
      refine (copyQ nm _ u0 (InV.mono (fun k (hk : k < w.heap.size) => by show k < u0.heap.size; omega) _ _ (InV.later (same_below hB) _ _ HN.out)) hszn).mono ?_
      rintro e u1 ⟨p0, p1, p2, p3, bA, rfl, qa, na, hb⟩
      have hs_u1 : u0.heap.size ≤ u1.heap.size := hb.size
      have hB := hB.trans (hb.mono (by omega))
      have hp := hp.later hb
      have hz := (hb.block _ (by omega)).trans hz
      refine hK.out _ _ (.inr hp) ?_
      clear hK K' hb
      refine upto_two (i := 7) (j := 9) (by kernel_rfl) rfl rfl (fun K' hK => ?_) (fun K' hK => ?_)
      · skip
        go_simp
        refine (copyQ one _ u1 (InV.mono (fun k (hk : k < w.heap.size) => by show k < u1.heap.size; omega) _ _ (InV.later (same_below hB) _ _ HO.out)) hszo).mono ?_
        rintro e u2 ⟨p4, p5, p6, p7, bC, rfl, qc, nc, hb⟩
        have hs_u2 : u1.heap.size ≤ u2.heap.size := hb.size
        have hB := hB.trans (hb.mono (by omega))
        have hp := hp.later hb
        have hz := (hb.block _ (by omega)).trans hz
        have qa := qa.later (SameOn.of_below hb (fun c hc => by have := (na.2 c hc).2; omega))
        refine hK.out _ _ (.inr hp) ?_
        clear hK K' hb
        refine upto_take (i := 8) (d := some 14) (v := ?_) rfl rfl (by kernel_rfl) (by kernel_rfl) (by kernel_rfl) (by kernel_rfl) (fun _ _ _ h => h) (Or.inl ⟨by rfl, ?_⟩) hp ?_
        rotate_left
        · (intro wS hSw; obtain ⟨_, _, _, _, _, _, _, _, _, _, _, _⟩ := hSw; go_simp; try with_reducible rfl)
        try simp only [Act.put, List.setIfInBounds_toArray, List.set_cons_zero, List.set_cons_succ]
        refine upto_one (i := 9) (by kernel_rfl) rfl (fun K' hK => ?_)
        go_simp
        obtain ⟨u3, hu3⟩ : ∃ V, V = u2.alloc (.cells #[.int .i64 0, .string { data := #[] }, .int .i64 0, .slice none 0 0, .slice none 0 0, .int .i64 0, .int .i64 0, .string { data := #[] }, .int .i64 0, .slice none 0 0, .slice none 0 0, .slice none 0 0] 38) := ⟨_, rfl⟩
        have hb : Below u2.heap.size u2 u3 := by rw [hu3]; exact below_alloc _ _
        have hob : u3.heap[u2.heap.size]? = some (.cells #[.int .i64 0, .string { data := #[] }, .int .i64 0, .slice none 0 0, .slice none 0 0, .int .i64 0, .int .i64 0, .string { data := #[] }, .int .i64 0, .slice none 0 0, .slice none 0 0, .slice none 0 0] 38 (0, 0)) := by rw [hu3]; exact heap_alloc_new _ _
        have hsz_u3 : u3.heap.size = u2.heap.size + 1 := by rw [hu3]; simp
        rw [← hu3]
        clear hu3
        have hs_u3 : u2.heap.size ≤ u3.heap.size := hb.size
        have hB := hB.trans (hb.mono (by omega))
        have hp := hp.later hb
        have hz := (hb.block _ (by omega)).trans hz
        have qa := qa.later (SameOn.of_below hb (fun c hc => by have := (na.2 c hc).2; omega))
        have qc := qc.later (SameOn.of_below hb (fun c hc => by have := (nc.2 c hc).2; omega))
        refine hK.out _ _ (.inr hp) ?_
        clear hK K' hb
        have hplr : Plain u3 (u2.heap.size) := ⟨_, _, hob⟩
        have r0 : u3.cell? ⟨u2.heap.size, 0, none⟩ = some (.int .i64 0) := by rw [cell_of_row u3 _ 0 _ _ _ hob]; rfl
        have r1 : u3.cell? ⟨u2.heap.size, 1, none⟩ = some (.string { data := #[] }) := by rw [cell_of_row u3 _ 1 _ _ _ hob]; rfl
        have r2 : u3.cell? ⟨u2.heap.size, 2, none⟩ = some (.int .i64 0) := by rw [cell_of_row u3 _ 2 _ _ _ hob]; rfl
        have r3 : u3.cell? ⟨u2.heap.size, 3, none⟩ = some (.slice none 0 0) := by rw [cell_of_row u3 _ 3 _ _ _ hob]; rfl
        have r4 : u3.cell? ⟨u2.heap.size, 4, none⟩ = some (.slice none 0 0) := by rw [cell_of_row u3 _ 4 _ _ _ hob]; rfl
        have r5 : u3.cell? ⟨u2.heap.size, 5, none⟩ = some (.int .i64 0) := by rw [cell_of_row u3 _ 5 _ _ _ hob]; rfl
        have r6 : u3.cell? ⟨u2.heap.size, 6, none⟩ = some (.int .i64 0) := by rw [cell_of_row u3 _ 6 _ _ _ hob]; rfl
        have r7 : u3.cell? ⟨u2.heap.size, 7, none⟩ = some (.string { data := #[] }) := by rw [cell_of_row u3 _ 7 _ _ _ hob]; rfl
        have r8 : u3.cell? ⟨u2.heap.size, 8, none⟩ = some (.int .i64 0) := by rw [cell_of_row u3 _ 8 _ _ _ hob]; rfl
        have r9 : u3.cell? ⟨u2.heap.size, 9, none⟩ = some (.slice none 0 0) := by rw [cell_of_row u3 _ 9 _ _ _ hob]; rfl
        have r10 : u3.cell? ⟨u2.heap.size, 10, none⟩ = some (.slice none 0 0) := by rw [cell_of_row u3 _ 10 _ _ _ hob]; rfl
        have r11 : u3.cell? ⟨u2.heap.size, 11, none⟩ = some (.slice none 0 0) := by rw [cell_of_row u3 _ 11 _ _ _ hob]; rfl
        have t_0 := hplr.frozen 0
        have t_1 := hplr.frozen 1
        have t_2 := hplr.frozen 2
        have t_3 := hplr.frozen 3
        have t_4 := hplr.frozen 4
        have t_5 := hplr.frozen 5
        have t_6 := hplr.frozen 6
        have t_7 := hplr.frozen 7
        have t_8 := hplr.frozen 8
        have t_9 := hplr.frozen 9
        have t_10 := hplr.frozen 10
        have t_11 := hplr.frozen 11
        refine upto_one (i := 10) (by kernel_rfl) rfl (fun K' hK => ?_)
        go_simp
        refine hK.out _ _ (.inl rfl) ?_
        clear hK K'
        refine upto_done (by kernel_rfl) ?_ _
        have hbg := MadeH.begin (w := w) (V := u3) (ob := u2.heap.size) (a := a) (cap := cap) (m := many.length) (d := d) hB (by omega) hp.2.2.2.2.2.2.2.2.2.2.2 hz hob (by omega) qa qc na nc ⟨by omega, by omega⟩ ⟨by omega, by omega⟩ (by omega) (by omega) (by omega)
        obtain ⟨Z, hZ⟩ : ∃ Z, Z = ((((((((((((u3.setCell ⟨u2.heap.size, 0, none⟩ (.int .i64 nm.kind)).setCell ⟨u2.heap.size, 1, none⟩ (.string nm.name)).setCell ⟨u2.heap.size, 2, none⟩ (.int .i64 nm.n)).setCell ⟨u2.heap.size, 3, none⟩ (.slice p0 nm.scopes.length p1)).setCell ⟨u2.heap.size, 4, none⟩ (.slice p2 nm.kids.length p3)).setCell ⟨u2.heap.size, 5, none⟩ (.int .i64 d)).setCell ⟨u2.heap.size, 6, none⟩ (.int .i64 one.kind)).setCell ⟨u2.heap.size, 7, none⟩ (.string one.name)).setCell ⟨u2.heap.size, 8, none⟩ (.int .i64 one.n)).setCell ⟨u2.heap.size, 9, none⟩ (.slice p4 one.scopes.length p5)).setCell ⟨u2.heap.size, 10, none⟩ (.slice p6 one.kids.length p7)).setCell ⟨u2.heap.size, 11, none⟩ (.slice none 0 0)) := ⟨_, rfl⟩
        have E : Z = sets u3 (u2.heap.size) 0 [.int .i64 nm.kind, .string nm.name, .int .i64 nm.n, .slice p0 nm.scopes.length p1, .slice p2 nm.kids.length p3, .int .i64 d, .int .i64 one.kind, .string one.name, .int .i64 one.n, .slice p4 one.scopes.length p5, .slice p6 one.kids.length p7, .slice none 0 0] := by rw [hZ]; rfl
        rw [← E] at hbg
        rw [← hZ]
        exact HC.out _ _ p0 p1 p2 p3 p4 p5 p6 p7 bA bC Z hbg
      · skip
        go_simp
        obtain ⟨u4, hu4⟩ : ∃ V, V = u1.alloc (.cells #[.int .i64 0, .string { data := #[] }, .int .i64 0, .slice none 0 0, .slice none 0 0, .int .i64 0, .int .i64 0, .string { data := #[] }, .int .i64 0, .slice none 0 0, .slice none 0 0, .slice none 0 0] 38) := ⟨_, rfl⟩
        have hb : Below u1.heap.size u1 u4 := by rw [hu4]; exact below_alloc _ _
        have hob : u4.heap[u1.heap.size]? = some (.cells #[.int .i64 0, .string { data := #[] }, .int .i64 0, .slice none 0 0, .slice none 0 0, .int .i64 0, .int .i64 0, .string { data := #[] }, .int .i64 0, .slice none 0 0, .slice none 0 0, .slice none 0 0] 38 (0, 0)) := by rw [hu4]; exact heap_alloc_new _ _
        have hsz_u4 : u4.heap.size = u1.heap.size + 1 := by rw [hu4]; simp
        rw [← hu4]
        clear hu4
        have hs_u4 : u1.heap.size ≤ u4.heap.size := hb.size
        have hB := hB.trans (hb.mono (by omega))
        have hp := hp.later hb
        have hz := (hb.block _ (by omega)).trans hz
        have qa := qa.later (SameOn.of_below hb (fun c hc => by have := (na.2 c hc).2; omega))
        refine hK.out _ _ (.inr hp) ?_
        clear hK K' hb
        refine upto_one (i := 7) (by kernel_rfl) rfl (fun K' hK => ?_)
        go_simp
        refine (copyQ one _ u4 (InV.mono (fun k (hk : k < w.heap.size) => by show k < u4.heap.size; omega) _ _ (InV.later (same_below hB) _ _ HO.out)) hszo).mono ?_
        rintro e u5 ⟨p4, p5, p6, p7, bC, rfl, qc, nc, hb⟩
        have hs_u5 : u4.heap.size ≤ u5.heap.size := hb.size
        have hB := hB.trans (hb.mono (by omega))
        have hp := hp.later hb
        have hz := (hb.block _ (by omega)).trans hz
        have qa := qa.later (SameOn.of_below hb (fun c hc => by have := (na.2 c hc).2; omega))
        have hob := (hb.block _ (by omega)).trans hob
        refine hK.out _ _ (.inr hp) ?_
        clear hK K' hb
        refine upto_take (i := 8) (d := some 14) (v := ?_) rfl rfl (by kernel_rfl) (by kernel_rfl) (by kernel_rfl) (by kernel_rfl) (fun _ _ _ h => h) (Or.inl ⟨by rfl, ?_⟩) hp ?_
        rotate_left
        · (intro wS hSw; obtain ⟨_, _, _, _, _, _, _, _, _, _, _, _⟩ := hSw; go_simp; try with_reducible rfl)
        try simp only [Act.put, List.setIfInBounds_toArray, List.set_cons_zero, List.set_cons_succ]
        have hplr : Plain u5 (u1.heap.size) := ⟨_, _, hob⟩
        have r0 : u5.cell? ⟨u1.heap.size, 0, none⟩ = some (.int .i64 0) := by rw [cell_of_row u5 _ 0 _ _ _ hob]; rfl
        have r1 : u5.cell? ⟨u1.heap.size, 1, none⟩ = some (.string { data := #[] }) := by rw [cell_of_row u5 _ 1 _ _ _ hob]; rfl
        have r2 : u5.cell? ⟨u1.heap.size, 2, none⟩ = some (.int .i64 0) := by rw [cell_of_row u5 _ 2 _ _ _ hob]; rfl
        have r3 : u5.cell? ⟨u1.heap.size, 3, none⟩ = some (.slice none 0 0) := by rw [cell_of_row u5 _ 3 _ _ _ hob]; rfl
        have r4 : u5.cell? ⟨u1.heap.size, 4, none⟩ = some (.slice none 0 0) := by rw [cell_of_row u5 _ 4 _ _ _ hob]; rfl
        have r5 : u5.cell? ⟨u1.heap.size, 5, none⟩ = some (.int .i64 0) := by rw [cell_of_row u5 _ 5 _ _ _ hob]; rfl
        have r6 : u5.cell? ⟨u1.heap.size, 6, none⟩ = some (.int .i64 0) := by rw [cell_of_row u5 _ 6 _ _ _ hob]; rfl
        have r7 : u5.cell? ⟨u1.heap.size, 7, none⟩ = some (.string { data := #[] }) := by rw [cell_of_row u5 _ 7 _ _ _ hob]; rfl
        have r8 : u5.cell? ⟨u1.heap.size, 8, none⟩ = some (.int .i64 0) := by rw [cell_of_row u5 _ 8 _ _ _ hob]; rfl
        have r9 : u5.cell? ⟨u1.heap.size, 9, none⟩ = some (.slice none 0 0) := by rw [cell_of_row u5 _ 9 _ _ _ hob]; rfl
        have r10 : u5.cell? ⟨u1.heap.size, 10, none⟩ = some (.slice none 0 0) := by rw [cell_of_row u5 _ 10 _ _ _ hob]; rfl
        have r11 : u5.cell? ⟨u1.heap.size, 11, none⟩ = some (.slice none 0 0) := by rw [cell_of_row u5 _ 11 _ _ _ hob]; rfl
        have t_0 := hplr.frozen 0
        have t_1 := hplr.frozen 1
        have t_2 := hplr.frozen 2
        have t_3 := hplr.frozen 3
        have t_4 := hplr.frozen 4
        have t_5 := hplr.frozen 5
        have t_6 := hplr.frozen 6
        have t_7 := hplr.frozen 7
        have t_8 := hplr.frozen 8
        have t_9 := hplr.frozen 9
        have t_10 := hplr.frozen 10
        have t_11 := hplr.frozen 11
        refine upto_one (i := 10) (by kernel_rfl) rfl (fun K' hK => ?_)
        go_simp
        refine hK.out _ _ (.inl rfl) ?_
        clear hK K'
        refine upto_done (by kernel_rfl) ?_ _
        have hbg := MadeH.begin (w := w) (V := u5) (ob := u1.heap.size) (a := a) (cap := cap) (m := many.length) (d := d) hB (by omega) hp.2.2.2.2.2.2.2.2.2.2.2 hz hob (by omega) qa qc na nc ⟨by omega, by omega⟩ ⟨by omega, by omega⟩ (by omega) (by omega) (by omega)
        obtain ⟨Z, hZ⟩ : ∃ Z, Z = ((((((((((((u5.setCell ⟨u1.heap.size, 0, none⟩ (.int .i64 nm.kind)).setCell ⟨u1.heap.size, 1, none⟩ (.string nm.name)).setCell ⟨u1.heap.size, 2, none⟩ (.int .i64 nm.n)).setCell ⟨u1.heap.size, 3, none⟩ (.slice p0 nm.scopes.length p1)).setCell ⟨u1.heap.size, 4, none⟩ (.slice p2 nm.kids.length p3)).setCell ⟨u1.heap.size, 5, none⟩ (.int .i64 d)).setCell ⟨u1.heap.size, 6, none⟩ (.int .i64 one.kind)).setCell ⟨u1.heap.size, 7, none⟩ (.string one.name)).setCell ⟨u1.heap.size, 8, none⟩ (.int .i64 one.n)).setCell ⟨u1.heap.size, 9, none⟩ (.slice p4 one.scopes.length p5)).setCell ⟨u1.heap.size, 10, none⟩ (.slice p6 one.kids.length p7)).setCell ⟨u1.heap.size, 11, none⟩ (.slice none 0 0)) := ⟨_, rfl⟩
        have E : Z = sets u5 (u1.heap.size) 0 [.int .i64 nm.kind, .string nm.name, .int .i64 nm.n, .slice p0 nm.scopes.length p1, .slice p2 nm.kids.length p3, .int .i64 d, .int .i64 one.kind, .string one.name, .int .i64 one.n, .slice p4 one.scopes.length p5, .slice p6 one.kids.length p7, .slice none 0 0] := by rw [hZ]; rfl
        rw [← E] at hbg
        rw [← hZ]
        exact HC.out _ _ p0 p1 p2 p3 p4 p5 p6 p7 bA bC Z hbg
    · skip
      go_simp
      obtain ⟨u6, hu6⟩ : ∃ V, V = u0.alloc (.cells #[.int .i64 0, .string { data := #[] }, .int .i64 0, .slice none 0 0, .slice none 0 0, .int .i64 0, .int .i64 0, .string { data := #[] }, .int .i64 0, .slice none 0 0, .slice none 0 0, .slice none 0 0] 38) := ⟨_, rfl⟩
      have hb : Below u0.heap.size u0 u6 := by rw [hu6]; exact below_alloc _ _
      have hob : u6.heap[u0.heap.size]? = some (.cells #[.int .i64 0, .string { data := #[] }, .int .i64 0, .slice none 0 0, .slice none 0 0, .int .i64 0, .int .i64 0, .string { data := #[] }, .int .i64 0, .slice none 0 0, .slice none 0 0, .slice none 0 0] 38 (0, 0)) := by rw [hu6]; exact heap_alloc_new _ _
      have hsz_u6 : u6.heap.size = u0.heap.size + 1 := by rw [hu6]; simp
      rw [← hu6]
      clear hu6
      have hs_u6 : u0.heap.size ≤ u6.heap.size := hb.size
      have hB := hB.trans (hb.mono (by omega))
      have hp := hp.later hb
      have hz := (hb.block _ (by omega)).trans hz
      refine hK.out _ _ (.inr hp) ?_
      clear hK K' hb
      refine upto_one (i := 2) (by kernel_rfl) rfl (fun K' hK => ?_)
      go_simp
      refine (copyQ nm _ u6 (InV.mono (fun k (hk : k < w.heap.size) => by show k < u6.heap.size; omega) _ _ (InV.later (same_below hB) _ _ HN.out)) hszn).mono ?_
      rintro e u7 ⟨p0, p1, p2, p3, bA, rfl, qa, na, hb⟩
      have hs_u7 : u6.heap.size ≤ u7.heap.size := hb.size
      have hB := hB.trans (hb.mono (by omega))
      have hp := hp.later hb
      have hz := (hb.block _ (by omega)).trans hz
      have hob := (hb.block _ (by omega)).trans hob
      refine hK.out _ _ (.inr hp) ?_
      clear hK K' hb
      refine upto_one (i := 7) (by kernel_rfl) rfl (fun K' hK => ?_)
      go_simp
      refine (copyQ one _ u7 (InV.mono (fun k (hk : k < w.heap.size) => by show k < u7.heap.size; omega) _ _ (InV.later (same_below hB) _ _ HO.out)) hszo).mono ?_
      rintro e u8 ⟨p4, p5, p6, p7, bC, rfl, qc, nc, hb⟩
      have hs_u8 : u7.heap.size ≤ u8.heap.size := hb.size
      have hB := hB.trans (hb.mono (by omega))
      have hp := hp.later hb
      have hz := (hb.block _ (by omega)).trans hz
      have hob := (hb.block _ (by omega)).trans hob
      have qa := qa.later (SameOn.of_below hb (fun c hc => by have := (na.2 c hc).2; omega))
      refine hK.out _ _ (.inr hp) ?_
      clear hK K' hb
      refine upto_take (i := 8) (d := some 14) (v := ?_) rfl rfl (by kernel_rfl) (by kernel_rfl) (by kernel_rfl) (by kernel_rfl) (fun _ _ _ h => h) (Or.inl ⟨by rfl, ?_⟩) hp ?_
      rotate_left
      · (intro wS hSw; obtain ⟨_, _, _, _, _, _, _, _, _, _, _, _⟩ := hSw; go_simp; try with_reducible rfl)
      try simp only [Act.put, List.setIfInBounds_toArray, List.set_cons_zero, List.set_cons_succ]
      have hplr : Plain u8 (u0.heap.size) := ⟨_, _, hob⟩
      have r0 : u8.cell? ⟨u0.heap.size, 0, none⟩ = some (.int .i64 0) := by rw [cell_of_row u8 _ 0 _ _ _ hob]; rfl
      have r1 : u8.cell? ⟨u0.heap.size, 1, none⟩ = some (.string { data := #[] }) := by rw [cell_of_row u8 _ 1 _ _ _ hob]; rfl
      have r2 : u8.cell? ⟨u0.heap.size, 2, none⟩ = some (.int .i64 0) := by rw [cell_of_row u8 _ 2 _ _ _ hob]; rfl
      have r3 : u8.cell? ⟨u0.heap.size, 3, none⟩ = some (.slice none 0 0) := by rw [cell_of_row u8 _ 3 _ _ _ hob]; rfl
      have r4 : u8.cell? ⟨u0.heap.size, 4, none⟩ = some (.slice none 0 0) := by rw [cell_of_row u8 _ 4 _ _ _ hob]; rfl
      have r5 : u8.cell? ⟨u0.heap.size, 5, none⟩ = some (.int .i64 0) := by rw [cell_of_row u8 _ 5 _ _ _ hob]; rfl
      have r6 : u8.cell? ⟨u0.heap.size, 6, none⟩ = some (.int .i64 0) := by rw [cell_of_row u8 _ 6 _ _ _ hob]; rfl
      have r7 : u8.cell? ⟨u0.heap.size, 7, none⟩ = some (.string { data := #[] }) := by rw [cell_of_row u8 _ 7 _ _ _ hob]; rfl
      have r8 : u8.cell? ⟨u0.heap.size, 8, none⟩ = some (.int .i64 0) := by rw [cell_of_row u8 _ 8 _ _ _ hob]; rfl
      have r9 : u8.cell? ⟨u0.heap.size, 9, none⟩ = some (.slice none 0 0) := by rw [cell_of_row u8 _ 9 _ _ _ hob]; rfl
      have r10 : u8.cell? ⟨u0.heap.size, 10, none⟩ = some (.slice none 0 0) := by rw [cell_of_row u8 _ 10 _ _ _ hob]; rfl
      have r11 : u8.cell? ⟨u0.heap.size, 11, none⟩ = some (.slice none 0 0) := by rw [cell_of_row u8 _ 11 _ _ _ hob]; rfl
      have t_0 := hplr.frozen 0
      have t_1 := hplr.frozen 1
      have t_2 := hplr.frozen 2
      have t_3 := hplr.frozen 3
      have t_4 := hplr.frozen 4
      have t_5 := hplr.frozen 5
      have t_6 := hplr.frozen 6
      have t_7 := hplr.frozen 7
      have t_8 := hplr.frozen 8
      have t_9 := hplr.frozen 9
      have t_10 := hplr.frozen 10
      have t_11 := hplr.frozen 11
      refine upto_one (i := 10) (by kernel_rfl) rfl (fun K' hK => ?_)
      go_simp
      refine hK.out _ _ (.inl rfl) ?_
      clear hK K'
      refine upto_done (by kernel_rfl) ?_ _
      have hbg := MadeH.begin (w := w) (V := u8) (ob := u0.heap.size) (a := a) (cap := cap) (m := many.length) (d := d) hB (by omega) hp.2.2.2.2.2.2.2.2.2.2.2 hz hob (by omega) qa qc na nc ⟨by omega, by omega⟩ ⟨by omega, by omega⟩ (by omega) (by omega) (by omega)
      obtain ⟨Z, hZ⟩ : ∃ Z, Z = ((((((((((((u8.setCell ⟨u0.heap.size, 0, none⟩ (.int .i64 nm.kind)).setCell ⟨u0.heap.size, 1, none⟩ (.string nm.name)).setCell ⟨u0.heap.size, 2, none⟩ (.int .i64 nm.n)).setCell ⟨u0.heap.size, 3, none⟩ (.slice p0 nm.scopes.length p1)).setCell ⟨u0.heap.size, 4, none⟩ (.slice p2 nm.kids.length p3)).setCell ⟨u0.heap.size, 5, none⟩ (.int .i64 d)).setCell ⟨u0.heap.size, 6, none⟩ (.int .i64 one.kind)).setCell ⟨u0.heap.size, 7, none⟩ (.string one.name)).setCell ⟨u0.heap.size, 8, none⟩ (.int .i64 one.n)).setCell ⟨u0.heap.size, 9, none⟩ (.slice p4 one.scopes.length p5)).setCell ⟨u0.heap.size, 10, none⟩ (.slice p6 one.kids.length p7)).setCell ⟨u0.heap.size, 11, none⟩ (.slice none 0 0)) := ⟨_, rfl⟩
      have E : Z = sets u8 (u0.heap.size) 0 [.int .i64 nm.kind, .string nm.name, .int .i64 nm.n, .slice p0 nm.scopes.length p1, .slice p2 nm.kids.length p3, .int .i64 d, .int .i64 one.kind, .string one.name, .int .i64 one.n, .slice p4 one.scopes.length p5, .slice p6 one.kids.length p7, .slice none 0 0] := by rw [hZ]; rfl
      rw [← E] at hbg
      rw [← hZ]
      exact HC.out _ _ p0 p1 p2 p3 p4 p5 p6 p7 bA bC Z hbg
end Go.Proofs.Ytkfolefeehggcaa.HO
