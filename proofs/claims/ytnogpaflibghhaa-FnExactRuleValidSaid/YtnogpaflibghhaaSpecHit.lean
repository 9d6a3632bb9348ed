/- The contract of l4Hit, the model's test of a hit. -/
import Derived.Test.YtnogpaflibghhaaHitKit
import Derived.Test.YtnogpaflibghhaaL3Is
import Derived.Test.YtnogpaflibghhaaSpecSame
import Derived.Test.YtnogpaflibghhaaValid
import Derived.Test.YtnogpaflibghhaaNameIs
import Derived.Test.YtnogpaflibghhaaData
namespace Go.Proofs.Ytnogpaflibghhaa
open Go.RowKit
set_option linter.unusedVariables false
set_option linter.unusedSimpArgs false
def zeroF : Fm := .mk 0 { data := #[] } 0 [] []
def headB (nm : Fm) : Bool := isNameB nm && (!(nm.name.toList == [46, 46, 46]) && !(nm.name.toList == [95]))
mutual
/-- a hit for a variable, in so many rows -/
def hitB : Ht → Int → Bool
  | .mk nm d one many, k => (d == k && (decide (0 ≤ k) && (decide (k ≤ 3) && headB nm))) && (if k = 0 then formB one && decide (many.length = 0) else hitsB nm many k && (sameB one zeroF && decide (many.length ≤ 400)))
def hitsB (nm : Fm) : List Ht → Int → Bool
  | [], _ => true
  | x :: r, k => (sameB x.name nm && hitB x (k - 1)) && hitsB nm r k
end
theorem hitsB_append (nm : Fm) (k : Int) : ∀ (l m : List Ht), hitsB nm (l ++ m) k = (hitsB nm l k && hitsB nm m k)
  | [], m => by simp [hitsB]
  | x :: r, m => by simp only [List.cons_append, hitsB]; rw [hitsB_append nm k r m, Bool.and_assoc, Bool.and_assoc, Bool.and_assoc]
theorem hitsB_take_succ (nm : Fm) (k : Int) (l : List Ht) (j : Nat) (h : j < l.length) : hitsB nm (l.take (j + 1)) k = (hitsB nm (l.take j) k && (sameB l[j].name nm && hitB l[j] (k - 1))) := by
  rw [List.take_succ_eq_append_getElem h, hitsB_append]
  simp [hitsB]
theorem hitsB_no {nm : Fm} {k : Int} {l : List Ht} (j : Nat) (h : hitsB nm (l.take j) k = false) : hitsB nm l k = false := by
  have := hitsB_append nm k (l.take j) (l.drop j)
  rw [List.take_append_drop, h] at this
  simpa using this
/-- the twelve cells of a hit at the head of a block -/
def HitBox (w : World) (b : Nat) (nm : Fm) (k : Int) (one : Fm) (many : List Ht) (s1 : Option Addr) (t1 : Nat) (k1 : Option Addr) (l1 : Nat) (s2 : Option Addr) (t2 : Nat) (k2 : Option Addr) (l2 : Nat) (a : Option Addr) (cap : Nat) : Prop := w.cell? ⟨b, 0, none⟩ = some (.int .i64 nm.kind) ∧ w.cell? ⟨b, 1, none⟩ = some (.string nm.name) ∧ w.cell? ⟨b, 2, none⟩ = some (.int .i64 nm.n) ∧ w.cell? ⟨b, 3, none⟩ = some (.slice s1 nm.scopes.length t1) ∧ w.cell? ⟨b, 4, none⟩ = some (.slice k1 nm.kids.length l1) ∧ w.cell? ⟨b, 5, none⟩ = some (.int .i64 k) ∧ w.cell? ⟨b, 6, none⟩ = some (.int .i64 one.kind) ∧ w.cell? ⟨b, 7, none⟩ = some (.string one.name) ∧ w.cell? ⟨b, 8, none⟩ = some (.int .i64 one.n) ∧ w.cell? ⟨b, 9, none⟩ = some (.slice s2 one.scopes.length t2) ∧ w.cell? ⟨b, 10, none⟩ = some (.slice k2 one.kids.length l2) ∧ w.cell? ⟨b, 11, none⟩ = some (.slice a many.length cap)
def HitRow (w : World) (kb o : Nat) (f : Ht) (p1 : Option Addr) (p2 : Nat) (p3 : Option Addr) (p4 : Nat) (p5 : Option Addr) (p6 : Nat) (p7 : Option Addr) (p8 : Nat) (pa : Option Addr) (pc : Nat) : Prop := w.cell? ⟨kb, o, none⟩ = some (.int .i64 f.name.kind) ∧ w.cell? ⟨kb, o + 1, none⟩ = some (.string f.name.name) ∧ w.cell? ⟨kb, o + 2, none⟩ = some (.int .i64 f.name.n) ∧ w.cell? ⟨kb, o + 3, none⟩ = some (.slice p1 f.name.scopes.length p2) ∧ w.cell? ⟨kb, o + 4, none⟩ = some (.slice p3 f.name.kids.length p4) ∧ w.cell? ⟨kb, o + 5, none⟩ = some (.int .i64 f.depth) ∧ w.cell? ⟨kb, o + 6, none⟩ = some (.int .i64 f.one.kind) ∧ w.cell? ⟨kb, o + 7, none⟩ = some (.string f.one.name) ∧ w.cell? ⟨kb, o + 8, none⟩ = some (.int .i64 f.one.n) ∧ w.cell? ⟨kb, o + 9, none⟩ = some (.slice p5 f.one.scopes.length p6) ∧ w.cell? ⟨kb, o + 10, none⟩ = some (.slice p7 f.one.kids.length p8) ∧ w.cell? ⟨kb, o + 11, none⟩ = some (.slice pa f.many.length pc)
theorem HitBox.later {w w' : World} {b : Nat} {nm : Fm} {k : Int} {one : Fm} {many : List Ht} {s1 : Option Addr} {t1 : Nat} {k1 : Option Addr} {l1 : Nat} {s2 : Option Addr} {t2 : Nat} {k2 : Option Addr} {l2 : Nat} {a : Option Addr} {cap : Nat}
    (h : HitBox w b nm k one many s1 t1 k1 l1 s2 t2 k2 l2 a cap) (hb : Below w.heap.size w w') : HitBox w' b nm k one many s1 t1 k1 l1 s2 t2 k2 l2 a cap := by
  obtain ⟨x0, x1, x2, x3, x4, x5, x6, x7, x8, x9, x10, x11⟩ := h
  exact ⟨cell_later' hb x0, cell_later' hb x1, cell_later' hb x2, cell_later' hb x3, cell_later' hb x4, cell_later' hb x5, cell_later' hb x6, cell_later' hb x7, cell_later' hb x8, cell_later' hb x9, cell_later' hb x10, cell_later' hb x11⟩
theorem HitBox.fresh (w : World) (nm : Fm) (k : Int) (one : Fm) (many : List Ht) (s1 : Option Addr) (t1 : Nat) (k1 : Option Addr) (l1 : Nat) (s2 : Option Addr) (t2 : Nat) (k2 : Option Addr) (l2 : Nat) (a : Option Addr) (cap : Nat) (t : TypeId) :
    HitBox (w.alloc (.cells #[.int .i64 nm.kind, .string nm.name, .int .i64 nm.n, .slice s1 nm.scopes.length t1, .slice k1 nm.kids.length l1, .int .i64 k, .int .i64 one.kind, .string one.name, .int .i64 one.n, .slice s2 one.scopes.length t2, .slice k2 one.kids.length l2, .slice a many.length cap] t)) w.heap.size nm k one many s1 t1 k1 l1 s2 t2 k2 l2 a cap :=
  ⟨World.cell?_alloc_at _ _ _ _ rfl, World.cell?_alloc_at _ _ _ _ rfl, World.cell?_alloc_at _ _ _ _ rfl, World.cell?_alloc_at _ _ _ _ rfl, World.cell?_alloc_at _ _ _ _ rfl, World.cell?_alloc_at _ _ _ _ rfl, World.cell?_alloc_at _ _ _ _ rfl, World.cell?_alloc_at _ _ _ _ rfl, World.cell?_alloc_at _ _ _ _ rfl, World.cell?_alloc_at _ _ _ _ rfl, World.cell?_alloc_at _ _ _ _ rfl, World.cell?_alloc_at _ _ _ _ rfl⟩
def SpecHitSaid (B : Nat) (f : Ht) : Prop := ∀ (k : Int) (v : Value) (w : World), B ≤ w.heap.size → InH (· < B) w f v → f.sz ≤ 1048576 → (-9223372036854775808 ≤ k ∧ k ≤ 9223372036854775807) →
    Calls Try.prog 87 #[v, .int .i64 k] w fun e w' => e = .returned (.bool (hitB f k)) ∧ Below w.heap.size w w'
theorem HitRow.later {w w' : World} {kb o : Nat} {f : Ht} {p1 : Option Addr} {p2 : Nat} {p3 : Option Addr} {p4 : Nat} {p5 : Option Addr} {p6 : Nat} {p7 : Option Addr} {p8 : Nat} {pa : Option Addr} {pc : Nat}
    (h : HitRow w kb o f p1 p2 p3 p4 p5 p6 p7 p8 pa pc) (hb : Below w.heap.size w w') : HitRow w' kb o f p1 p2 p3 p4 p5 p6 p7 p8 pa pc := by
  obtain ⟨x0, x1, x2, x3, x4, x5, x6, x7, x8, x9, x10, x11⟩ := h
  exact ⟨cell_later' hb x0, cell_later' hb x1, cell_later' hb x2, cell_later' hb x3, cell_later' hb x4, cell_later' hb x5, cell_later' hb x6, cell_later' hb x7, cell_later' hb x8, cell_later' hb x9, cell_later' hb x10, cell_later' hb x11⟩
theorem InH.namePart {φ : Nat → Prop} {w : World} {x : Ht} {p1 : Option Addr} {p2 : Nat} {p3 : Option Addr} {p4 : Nat} {p5 : Option Addr} {p6 : Nat} {p7 : Option Addr} {p8 : Nat} {pa : Option Addr} {pc : Nat}
    (h : InH φ w x (.agg #[.int .i64 x.name.kind, .string x.name.name, .int .i64 x.name.n, .slice p1 x.name.scopes.length p2, .slice p3 x.name.kids.length p4, .int .i64 x.depth, .int .i64 x.one.kind, .string x.one.name, .int .i64 x.one.n, .slice p5 x.one.scopes.length p6, .slice p7 x.one.kids.length p8, .slice pa x.many.length pc])) : InV φ w x.name (.agg #[.int .i64 x.name.kind, .string x.name.name, .int .i64 x.name.n, .slice p1 x.name.scopes.length p2, .slice p3 x.name.kids.length p4]) := by
  obtain ⟨_, _, _, _, _, _, _, _, _, _, e, _, h1, _⟩ := h.form
  injection e with e
  injection e with e
  simp only [List.cons.injEq, and_true, Value.slice.injEq] at e
  obtain ⟨_, _, _, ⟨rfl, _, rfl⟩, ⟨rfl, _, rfl⟩, _⟩ := e
  exact h1
theorem inV_zeroF (w : World) (φ : Nat → Prop) : InV φ w zeroF (.agg #[.int .i64 0, .string { data := #[] }, .int .i64 0, .slice none 0 0, .slice none 0 0]) := by
  unfold zeroF InV
  exact ⟨_, none, 0, rfl, by omega, by omega, by decide, ⟨none, 0, rfl, Nat.le_refl _, Nat.zero_le _, by simp, .inl rfl⟩, Nat.le_refl _, Nat.zero_le _, .inl rfl⟩
set_option maxRecDepth 100000 in
set_option maxHeartbeats 40000000 in
theorem l4Hit_any (B : Nat) (f : Ht) : SpecHitSaid B f := by
  induction f using Ht.ind with
  | h nm d one many ih =>
    intro k v w hB hv hsz hkb
    have hsz1 : nm.sz + one.sz + szHs many ≤ 1048576 := by have := hsz; unfold Ht.sz at this; exact this
    unfold InH at hv
    obtain ⟨s1, t1, k1, l1, s2, t2, k2, l2, a, cap, rfl, hd, hn, ho, hks⟩ := hv
    have HN := Lib.hid hn
    have HO := Lib.hid ho
    have HK : Hid (HitsIn (· < B) w a cap many) := hks
    have HIH := Lib.hid ih
    have HB0 := Lib.hid (below_alloc w (.cells #[.int .i64 nm.kind, .string nm.name, .int .i64 nm.n, .slice s1 nm.scopes.length t1, .slice k1 nm.kids.length l1, .int .i64 d, .int .i64 one.kind, .string one.name, .int .i64 one.n, .slice s2 one.scopes.length t2, .slice k2 one.kids.length l2, .slice a many.length cap] 60))
    have hcn := nm.count_le
    have hco := one.count_le
    clear hn ho hks ih hsz
    have hE : ∀ b : Bool, b = hitB (.mk nm d one many) k → Ending.returned (.bool b) = Ending.returned (.bool (hitB (.mk nm d one many) k)) := fun b h => by rw [h]
    have HE := Lib.hid hE
    clear hE
    by_cases h1 : d = k
    rotate_left
    · have q1 : (d != k) = true := by rw [bne_iff_ne]; exact h1
      have HF : Hid (false = hitB (.mk nm d one many) k) := by unfold Hid hitB; rw [beq_eq_false_iff_ne.2 h1]; rfl
      clear h1
      go_enter Try.func87, Try.ntmps87
      go_wp2_with fail
      go_ret
      exact ⟨HE.out _ HF.out, HB0.out⟩
    subst h1
    have q1 : (d != d) = false := by simp
    by_cases h2 : d < 0
    · have q2 : decide (d < 0) = true := decide_eq_true h2
      have HF : Hid (false = hitB (.mk nm d one many) d) := by unfold Hid hitB; rw [decide_eq_false (by omega : ¬ (0 ≤ d))]; simp
      go_enter Try.func87, Try.ntmps87
      go_wp2_with fail
      go_ret
      exact ⟨HE.out _ HF.out, HB0.out⟩
    have q2 : decide (d < 0) = false := decide_eq_false h2
    by_cases h3 : 3 < d
    · have q3 : decide (d > 3) = true := decide_eq_true h3
      have HF : Hid (false = hitB (.mk nm d one many) d) := by unfold Hid hitB; rw [decide_eq_false (by omega : ¬ (d ≤ 3))]; simp
      go_enter Try.func87, Try.ntmps87
      go_wp2_with fail
      go_ret
      exact ⟨HE.out _ HF.out, HB0.out⟩
    have q3 : decide (d > 3) = false := decide_eq_false h3
    go_enter Try.func87, Try.ntmps87
    go_wp2_with fail
    refine (l3Is_any nm _ _ (InV.mono (fun k (hk : k < B) => by simp; omega) _ _ (InV.later (same_below (HB0.out.mono hB)) _ _ HN.out)) (by omega)).mono ?_
    rintro e w1 ⟨rfl, hb1⟩
    have hs1 : w.heap.size + 1 ≤ w1.heap.size := by have := hb1.size; simpa using this
    have HX := Lib.hid ((HitBox.fresh w nm d one many s1 t1 k1 l1 s2 t2 k2 l2 a cap 60).later hb1)
    have HB1 : Hid (Below w.heap.size w w1) := HB0.out.trans (hb1.mono (by simp))
    clear hb1
    cases h4 : (nm.kind == 1 && formB nm) with
    | false =>
      have HF : Hid (false = hitB (.mk nm d one many) d) := by unfold Hid hitB headB isNameB; rw [h4]; simp
      clear h4
      go_wp2_with fail
      go_ret
      exact ⟨HE.out _ HF.out, HB1.out⟩
    | true =>
    obtain ⟨x0, x1, x2, x3, x4, x5, x6, x7, x8, x9, x10, x11⟩ := HX.out
    cases h5 : (nm.name.toList == [46, 46, 46]) with
    | true =>
      have HF : Hid (false = hitB (.mk nm d one many) d) := by unfold Hid hitB headB; rw [h5]; simp
      clear h4
      go_wp2_with fail
      go_ret
      exact ⟨HE.out _ HF.out, HB1.out⟩
    | false =>
    cases h6 : (nm.name.toList == [95]) with
    | true =>
      have HF : Hid (false = hitB (.mk nm d one many) d) := by unfold Hid hitB headB; rw [h6]; simp
      clear h4
      go_wp2_with fail
      go_ret
      exact ⟨HE.out _ HF.out, HB1.out⟩
    | false =>
    have HD : Hid (hitB (.mk nm d one many) d = (if d = 0 then formB one && decide (many.length = 0) else hitsB nm many d && (sameB one zeroF && decide (many.length ≤ 400)))) := by
      unfold Hid
      have e1 : hitB (.mk nm d one many) d = ((d == d && (decide (0 ≤ d) && (decide (d ≤ 3) && headB nm))) && (if d = 0 then formB one && decide (many.length = 0) else hitsB nm many d && (sameB one zeroF && decide (many.length ≤ 400)))) := by rw [hitB]
      rw [e1]
      have e2 : headB nm = true := by unfold headB isNameB; rw [h4, h5, h6]; rfl
      rw [e2, decide_eq_true (by omega : 0 ≤ d), decide_eq_true (by omega : d ≤ 3)]
      simp
    clear h4
    by_cases h7 : d = 0
    · have q7 : (d == 0) = true := by rw [h7]; rfl
      rw [if_pos h7] at HD
      clear h7
      go_wp2_with fail
      refine (specFormValid_any B one _ w1 (by omega) (InV.later (same_below (HB1.out.mono hB)) _ _ HO.out) (by omega)).mono ?_
      rintro e w2 ⟨rfl, hb2⟩
      have z11 := cell_later' hb2 x11
      have HB2 : Hid (Below w.heap.size w w2) := HB1.out.trans (hb2.mono (by omega))
      clear hb2 x0 x1 x2 x3 x4 x5 x6 x7 x8 x9 x10 x11
      cases h8 : formB one with
      | false =>
        go_wp2_with fail
        go_ret
        exact ⟨HE.out _ (by rw [HD.out, h8]; rfl), HB2.out⟩
      | true =>
        by_cases h9 : many.length = 0
        · have q9 : ((many.length : Int) == 0) = true := by rw [h9]; rfl
          have HF : Hid (true = hitB (.mk nm d one many) d) := by unfold Hid; rw [HD.out, h8, decide_eq_true h9]; rfl
          clear h9
          go_wp2_with fail
          go_ret
          exact ⟨HE.out _ HF.out, HB2.out⟩
        · have q9 : ((many.length : Int) == 0) = false := by rw [beq_eq_false_iff_ne]; omega
          have HF : Hid (false = hitB (.mk nm d one many) d) := by unfold Hid; rw [HD.out, h8, decide_eq_false h9]; rfl
          clear h9
          go_wp2_with fail
          go_ret
          exact ⟨HE.out _ HF.out, HB2.out⟩
    · have q7 : (d == 0) = false := by rw [beq_eq_false_iff_ne]; exact h7
      rw [if_neg h7] at HD
      have hd1 : 1 ≤ d := by omega
      have hd2 : d ≤ 3 := by omega
      have hd3 : 0 ≤ d - 1 := by omega
      clear h7
      have hmx : many.length ≤ 1048576 := by have := szHs_length many; omega
      go_wp2_with fail
      clear x0 x1 x2 x3 x4 x5 x6 x7 x8 x9 x10 x11
      go_loopw [5] (fun i wr => ∃ j : Nat, j ≤ many.length ∧ i = .int .i64 j ∧ hitsB nm (many.take j) d = true ∧ HitBox wr w.heap.size nm d one many s1 t1 k1 l1 s2 t2 k2 l2 a cap ∧ Below w.heap.size w wr ∧ w.heap.size + 1 ≤ wr.heap.size) (fun i _ => many.length - (intOf i).toNat)
      case atStart => exact ⟨0, Nat.zero_le _, rfl, by simp [hitsB], HX.out, HB1.out, hs1⟩
      case round =>
        obtain ⟨j, hj, rfl, hr, hx, hb, hsr⟩ := hrel
        have HR := Lib.hid hr
        have HB := Lib.hid hb
        have HY := Lib.hid hx
        clear hr hb
        obtain ⟨x0, x1, x2, x3, x4, x5, x6, x7, x8, x9, x10, x11⟩ := hx
        by_cases hlt : j < many.length
        · rcases HK.out.2.2 with h0 | ⟨kb, off, rfl, hkb, hrow⟩
          · exfalso; rw [h0] at hlt; simp at hlt
          · obtain ⟨p1, p2, p3, p4, p5, p6, p7, p8, pa, pc, r0, r1, r2, r3, r4, r5, r6, r7, r8, r9, r10, r11, hin⟩ := (hrow.later (same_below (HB.out.mono hB)) kb hkb).at' j hlt
            have HROW : Hid (HitRow wr kb (off + j * 12) many[j] p1 p2 p3 p4 p5 p6 p7 p8 pa pc) := ⟨r0, r1, r2, r3, r4, r5, r6, r7, r8, r9, r10, r11⟩
            have HNJ := Lib.hid hin.namePart
            have HIN := Lib.hid hin
            have HIHJ := Lib.hid (HIH.out many[j] (List.getElem_mem hlt))
            have HTS := Lib.hid (hitsB_take_succ nm d many j hlt)
            have hcap := HK.out.1
            have hszj : many[j].sz ≤ 1048576 := by
              have g1 := szHin_take_succ many j hlt
              have g2 := szHin_take_le many (j + 1)
              have g3 := szHs_length many
              have g4 : szHs many = many.length + szHin many := by unfold szHin; omega
              omega
            have hcj := many[j].name.count_le
            have hwr : IntKind.i64.wrap (d - 1) = d - 1 := by rw [IntKind.wrap_i64]; omega
            have hnsz : many[j].name.sz ≤ many[j].sz := by cases many[j]; simp only [Ht.name, Ht.sz]; omega
            clear hin hrow
            go_wp2_with fail
            refine upto_begin (fun W => HitBox W w.heap.size nm d one many s1 t1 k1 l1 s2 t2 k2 l2 (some ⟨kb, off, none⟩) cap ∧ HitRow W kb (off + j * 12) many[j] p1 p2 p3 p4 p5 p6 p7 p8 pa pc) 21 (by kernel_rfl) ?_
            obtain ⟨u, hu⟩ : ∃ u, u = wr.drew := ⟨_, rfl⟩
            rw [← hu]
            have hbu : Below wr.heap.size wr u := by rw [hu]; exact (Below.refl _ _).drew
            have hsu := hbu.size
            have HBU0 : ∀ k : Nat, u.heap[k]? = wr.heap[k]? := fun k => by rw [hu]; rfl
            have HBU : Hid (Below w.heap.size w u) := HB.out.trans (hbu.mono (by omega))
            have HS : Hid (HitBox u w.heap.size nm d one many s1 t1 k1 l1 s2 t2 k2 l2 (some ⟨kb, off, none⟩) cap ∧ HitRow u kb (off + j * 12) many[j] p1 p2 p3 p4 p5 p6 p7 p8 pa pc) := ⟨HY.out.later hbu, HROW.out.later hbu⟩
            have hS := HS.out
            clear hbu hu x0 x1 x2 x3 x4 x5 x6 x7 x8 x9 x10 x11 r0 r1 r2 r3 r4 r5 r6 r7 r8 r9 r10 r11
            refine upto_take (i := 0) (d := some 54) (v := ?_) rfl rfl (by kernel_rfl) (by kernel_rfl) (by kernel_rfl) (by kernel_rfl) (fun _ _ _ h => h) (Or.inl ⟨by rfl, ?_⟩) hS ?_
            rotate_left
            · (intro wS hSw; obtain ⟨⟨_, _, _, _, _, _, _, _, _, _, _, _⟩, ⟨_, _, _, _, _, _, _, _, _, _, _, _⟩⟩ := hSw; go_simp; try with_reducible rfl)
            try simp only [Act.put, List.setIfInBounds_toArray, List.set_cons_zero, List.set_cons_succ]
            refine upto_take (i := 1) (d := some 55) (v := ?_) rfl rfl (by kernel_rfl) (by kernel_rfl) (by kernel_rfl) (by kernel_rfl) (fun _ _ _ h => h) (Or.inl ⟨by rfl, ?_⟩) hS ?_
            rotate_left
            · (intro wS hSw; obtain ⟨⟨_, _, _, _, _, _, _, _, _, _, _, _⟩, ⟨_, _, _, _, _, _, _, _, _, _, _, _⟩⟩ := hSw; go_simp; try with_reducible rfl)
            try simp only [Act.put, List.setIfInBounds_toArray, List.set_cons_zero, List.set_cons_succ]
            refine upto_take (i := 2) (d := some 56) (v := ?_) rfl rfl (by kernel_rfl) (by kernel_rfl) (by kernel_rfl) (by kernel_rfl) (fun _ _ _ h => h) (Or.inl ⟨by rfl, ?_⟩) hS ?_
            rotate_left
            · (intro wS hSw; obtain ⟨⟨_, _, _, _, _, _, _, _, _, _, _, _⟩, ⟨_, _, _, _, _, _, _, _, _, _, _, _⟩⟩ := hSw; go_simp; try with_reducible rfl)
            try simp only [Act.put, List.setIfInBounds_toArray, List.set_cons_zero, List.set_cons_succ]
            refine upto_take (i := 3) (d := some 57) (v := ?_) rfl rfl (by kernel_rfl) (by kernel_rfl) (by kernel_rfl) (by kernel_rfl) (fun _ _ _ h => h) (Or.inl ⟨by rfl, ?_⟩) hS ?_
            rotate_left
            · (intro wS hSw; obtain ⟨⟨_, _, _, _, _, _, _, _, _, _, _, _⟩, ⟨_, _, _, _, _, _, _, _, _, _, _, _⟩⟩ := hSw; go_simp; try with_reducible rfl)
            try simp only [Act.put, List.setIfInBounds_toArray, List.set_cons_zero, List.set_cons_succ]
            refine upto_take (i := 4) (d := some 58) (v := ?_) rfl rfl (by kernel_rfl) (by kernel_rfl) (by kernel_rfl) (by kernel_rfl) (fun _ _ _ h => h) (Or.inl ⟨by rfl, ?_⟩) hS ?_
            rotate_left
            · (intro wS hSw; obtain ⟨⟨_, _, _, _, _, _, _, _, _, _, _, _⟩, ⟨_, _, _, _, _, _, _, _, _, _, _, _⟩⟩ := hSw; go_simp; try with_reducible rfl)
            try simp only [Act.put, List.setIfInBounds_toArray, List.set_cons_zero, List.set_cons_succ]
            refine upto_take (i := 5) (d := some 59) (v := ?_) rfl rfl (by kernel_rfl) (by kernel_rfl) (by kernel_rfl) (by kernel_rfl) (fun _ _ _ h => h) (Or.inl ⟨by rfl, ?_⟩) hS ?_
            rotate_left
            · (intro wS hSw; obtain ⟨⟨_, _, _, _, _, _, _, _, _, _, _, _⟩, ⟨_, _, _, _, _, _, _, _, _, _, _, _⟩⟩ := hSw; go_simp; try with_reducible rfl)
            try simp only [Act.put, List.setIfInBounds_toArray, List.set_cons_zero, List.set_cons_succ]
            refine upto_take (i := 6) (d := some 60) (v := ?_) rfl rfl (by kernel_rfl) (by kernel_rfl) (by kernel_rfl) (by kernel_rfl) (fun _ _ _ h => h) (Or.inl ⟨by rfl, ?_⟩) hS ?_
            rotate_left
            · (intro wS hSw; obtain ⟨⟨_, _, _, _, _, _, _, _, _, _, _, _⟩, ⟨_, _, _, _, _, _, _, _, _, _, _, _⟩⟩ := hSw; go_simp; try with_reducible rfl)
            try simp only [Act.put, List.setIfInBounds_toArray, List.set_cons_zero, List.set_cons_succ]
            refine upto_take (i := 7) (d := some 61) (v := ?_) rfl rfl (by kernel_rfl) (by kernel_rfl) (by kernel_rfl) (by kernel_rfl) (fun _ _ _ h => h) (Or.inl ⟨by rfl, ?_⟩) hS ?_
            rotate_left
            · (intro wS hSw; obtain ⟨⟨_, _, _, _, _, _, _, _, _, _, _, _⟩, ⟨_, _, _, _, _, _, _, _, _, _, _, _⟩⟩ := hSw; go_simp; try with_reducible rfl)
            try simp only [Act.put, List.setIfInBounds_toArray, List.set_cons_zero, List.set_cons_succ]
            clear hS
            refine upto_one (i := 8) (by kernel_rfl) rfl (fun K hK => ?_)
            go_simp
            refine (specSame_any B many[j].name nm _ _ u (by omega) (InV.later (w := wr) (w' := u) (fun k hk => by rw [HBU0]) _ _ HNJ.out) (InV.later (same_below (HBU.out.mono hB)) _ _ HN.out)).mono ?_
            rintro e w3 ⟨rfl, hb3⟩
            have hs3 := hb3.size
            have HB3 : Hid (Below w.heap.size w w3) := HBU.out.trans (hb3.mono (by omega))
            have HS3 : Hid (HitBox w3 w.heap.size nm d one many s1 t1 k1 l1 s2 t2 k2 l2 (some ⟨kb, off, none⟩) cap ∧ HitRow w3 kb (off + j * 12) many[j] p1 p2 p3 p4 p5 p6 p7 p8 pa pc) := ⟨HS.out.1.later hb3, HS.out.2.later hb3⟩
            have HIN3 := Lib.hid (InH.later (w := wr) (w' := w3) (fun k hk => by rw [← HBU0]; exact hb3.block k (by omega)) _ _ HIN.out)
            have hS := HS3.out
            refine hK.out _ _ (.inr hS) ?_
            clear hK K hb3
            cases h8 : sameB many[j].name nm with
            | false =>
              have HF : Hid (hitsB nm many d = false) := hitsB_no (j + 1) (by rw [HTS.out, HR.out, h8]; rfl)
              clear hS
              refine upto_one (i := 9) (by kernel_rfl) rfl (fun K hK => ?_)
              go_simp
              have hS := HS3.out
              refine hK.out _ _ (.inr hS) ?_
              clear hK K
              clear hS
              refine upto_one (i := 10) (by kernel_rfl) rfl (fun K hK => ?_)
              go_simp
              have hS := HS3.out
              refine hK.out _ _ (.inr hS) ?_
              clear hK K
              refine upto_take (i := 11) (d := some 65) (v := undef) rfl rfl (by kernel_rfl) (by kernel_rfl) (by kernel_rfl) (by kernel_rfl) (fun _ _ _ h => h) (Or.inr ⟨by rfl, rfl⟩) hS ?_
              try simp only [Act.put, List.setIfInBounds_toArray, List.set_cons_zero, List.set_cons_succ]
              refine upto_take (i := 12) (d := some 66) (v := undef) rfl rfl (by kernel_rfl) (by kernel_rfl) (by kernel_rfl) (by kernel_rfl) (fun _ _ _ h => h) (Or.inr ⟨by rfl, rfl⟩) hS ?_
              try simp only [Act.put, List.setIfInBounds_toArray, List.set_cons_zero, List.set_cons_succ]
              refine upto_take (i := 13) (d := some 67) (v := undef) rfl rfl (by kernel_rfl) (by kernel_rfl) (by kernel_rfl) (by kernel_rfl) (fun _ _ _ h => h) (Or.inr ⟨by rfl, rfl⟩) hS ?_
              try simp only [Act.put, List.setIfInBounds_toArray, List.set_cons_zero, List.set_cons_succ]
              refine upto_take (i := 14) (d := some 68) (v := undef) rfl rfl (by kernel_rfl) (by kernel_rfl) (by kernel_rfl) (by kernel_rfl) (fun _ _ _ h => h) (Or.inr ⟨by rfl, rfl⟩) hS ?_
              try simp only [Act.put, List.setIfInBounds_toArray, List.set_cons_zero, List.set_cons_succ]
              refine upto_take (i := 15) (d := some 69) (v := undef) rfl rfl (by kernel_rfl) (by kernel_rfl) (by kernel_rfl) (by kernel_rfl) (fun _ _ _ h => h) (Or.inr ⟨by rfl, rfl⟩) hS ?_
              try simp only [Act.put, List.setIfInBounds_toArray, List.set_cons_zero, List.set_cons_succ]
              refine upto_take (i := 16) (d := some 70) (v := undef) rfl rfl (by kernel_rfl) (by kernel_rfl) (by kernel_rfl) (by kernel_rfl) (fun _ _ _ h => h) (Or.inr ⟨by rfl, rfl⟩) hS ?_
              try simp only [Act.put, List.setIfInBounds_toArray, List.set_cons_zero, List.set_cons_succ]
              refine upto_take (i := 17) (d := some 71) (v := undef) rfl rfl (by kernel_rfl) (by kernel_rfl) (by kernel_rfl) (by kernel_rfl) (fun _ _ _ h => h) (Or.inr ⟨by rfl, rfl⟩) hS ?_
              try simp only [Act.put, List.setIfInBounds_toArray, List.set_cons_zero, List.set_cons_succ]
              refine upto_take (i := 18) (d := some 72) (v := undef) rfl rfl (by kernel_rfl) (by kernel_rfl) (by kernel_rfl) (by kernel_rfl) (fun _ _ _ h => h) (Or.inr ⟨by rfl, rfl⟩) hS ?_
              try simp only [Act.put, List.setIfInBounds_toArray, List.set_cons_zero, List.set_cons_succ]
              refine upto_take (i := 19) (d := some 73) (v := undef) rfl rfl (by kernel_rfl) (by kernel_rfl) (by kernel_rfl) (by kernel_rfl) (fun _ _ _ h => h) (Or.inr ⟨by rfl, rfl⟩) hS ?_
              try simp only [Act.put, List.setIfInBounds_toArray, List.set_cons_zero, List.set_cons_succ]
              clear hS
              refine upto_one (i := 20) (by kernel_rfl) rfl (fun K hK => ?_)
              go_simp
              have hS := HS3.out
              refine hK.out _ _ (.inr hS) ?_
              clear hK K
              clear hS
              refine upto_done (by kernel_rfl) ?_ _
              go_wp2_with fail
              go_ret
              exact ⟨HE.out _ (by rw [HD.out, HF.out]; rfl), HB3.out⟩
            | true =>
              clear hS
              refine upto_one (i := 9) (by kernel_rfl) rfl (fun K hK => ?_)
              go_simp
              have hS := HS3.out
              refine hK.out _ _ (.inr hS) ?_
              clear hK K
              clear hS
              refine upto_one (i := 10) (by kernel_rfl) rfl (fun K hK => ?_)
              go_simp
              have hS := HS3.out
              refine hK.out _ _ (.inr hS) ?_
              clear hK K
              refine upto_take (i := 11) (d := some 65) (v := ?_) rfl rfl (by kernel_rfl) (by kernel_rfl) (by kernel_rfl) (by kernel_rfl) (fun _ _ _ h => h) (Or.inl ⟨by rfl, ?_⟩) hS ?_
              rotate_left
              · (intro wS hSw; obtain ⟨⟨_, _, _, _, _, _, _, _, _, _, _, _⟩, ⟨_, _, _, _, _, _, _, _, _, _, _, _⟩⟩ := hSw; go_simp; try with_reducible rfl)
              try simp only [Act.put, List.setIfInBounds_toArray, List.set_cons_zero, List.set_cons_succ]
              refine upto_take (i := 12) (d := some 66) (v := ?_) rfl rfl (by kernel_rfl) (by kernel_rfl) (by kernel_rfl) (by kernel_rfl) (fun _ _ _ h => h) (Or.inl ⟨by rfl, ?_⟩) hS ?_
              rotate_left
              · (intro wS hSw; obtain ⟨⟨_, _, _, _, _, _, _, _, _, _, _, _⟩, ⟨_, _, _, _, _, _, _, _, _, _, _, _⟩⟩ := hSw; go_simp; try with_reducible rfl)
              try simp only [Act.put, List.setIfInBounds_toArray, List.set_cons_zero, List.set_cons_succ]
              refine upto_take (i := 13) (d := some 67) (v := ?_) rfl rfl (by kernel_rfl) (by kernel_rfl) (by kernel_rfl) (by kernel_rfl) (fun _ _ _ h => h) (Or.inl ⟨by rfl, ?_⟩) hS ?_
              rotate_left
              · (intro wS hSw; obtain ⟨⟨_, _, _, _, _, _, _, _, _, _, _, _⟩, ⟨_, _, _, _, _, _, _, _, _, _, _, _⟩⟩ := hSw; go_simp; try with_reducible rfl)
              try simp only [Act.put, List.setIfInBounds_toArray, List.set_cons_zero, List.set_cons_succ]
              refine upto_take (i := 14) (d := some 68) (v := ?_) rfl rfl (by kernel_rfl) (by kernel_rfl) (by kernel_rfl) (by kernel_rfl) (fun _ _ _ h => h) (Or.inl ⟨by rfl, ?_⟩) hS ?_
              rotate_left
              · (intro wS hSw; obtain ⟨⟨_, _, _, _, _, _, _, _, _, _, _, _⟩, ⟨_, _, _, _, _, _, _, _, _, _, _, _⟩⟩ := hSw; go_simp; try with_reducible rfl)
              try simp only [Act.put, List.setIfInBounds_toArray, List.set_cons_zero, List.set_cons_succ]
              refine upto_take (i := 15) (d := some 69) (v := ?_) rfl rfl (by kernel_rfl) (by kernel_rfl) (by kernel_rfl) (by kernel_rfl) (fun _ _ _ h => h) (Or.inl ⟨by rfl, ?_⟩) hS ?_
              rotate_left
              · (intro wS hSw; obtain ⟨⟨_, _, _, _, _, _, _, _, _, _, _, _⟩, ⟨_, _, _, _, _, _, _, _, _, _, _, _⟩⟩ := hSw; go_simp; try with_reducible rfl)
              try simp only [Act.put, List.setIfInBounds_toArray, List.set_cons_zero, List.set_cons_succ]
              refine upto_take (i := 16) (d := some 70) (v := ?_) rfl rfl (by kernel_rfl) (by kernel_rfl) (by kernel_rfl) (by kernel_rfl) (fun _ _ _ h => h) (Or.inl ⟨by rfl, ?_⟩) hS ?_
              rotate_left
              · (intro wS hSw; obtain ⟨⟨_, _, _, _, _, _, _, _, _, _, _, _⟩, ⟨_, _, _, _, _, _, _, _, _, _, _, _⟩⟩ := hSw; go_simp; try with_reducible rfl)
              try simp only [Act.put, List.setIfInBounds_toArray, List.set_cons_zero, List.set_cons_succ]
              refine upto_take (i := 17) (d := some 71) (v := ?_) rfl rfl (by kernel_rfl) (by kernel_rfl) (by kernel_rfl) (by kernel_rfl) (fun _ _ _ h => h) (Or.inl ⟨by rfl, ?_⟩) hS ?_
              rotate_left
              · (intro wS hSw; obtain ⟨⟨_, _, _, _, _, _, _, _, _, _, _, _⟩, ⟨_, _, _, _, _, _, _, _, _, _, _, _⟩⟩ := hSw; go_simp; try with_reducible rfl)
              try simp only [Act.put, List.setIfInBounds_toArray, List.set_cons_zero, List.set_cons_succ]
              clear hS
              refine upto_one (i := 18) (by kernel_rfl) rfl (fun K hK => ?_)
              go_simp
              refine (HIHJ.out (d - 1) _ w3 (by omega) HIN3.out hszj (by omega)).mono ?_
              rintro e w4 ⟨rfl, hb4⟩
              have hs4 := hb4.size
              have HB4 : Hid (Below w.heap.size w w4) := HB3.out.trans (hb4.mono (by omega))
              have HS4 : Hid (HitBox w4 w.heap.size nm d one many s1 t1 k1 l1 s2 t2 k2 l2 (some ⟨kb, off, none⟩) cap ∧ HitRow w4 kb (off + j * 12) many[j] p1 p2 p3 p4 p5 p6 p7 p8 pa pc) := ⟨HS3.out.1.later hb4, HS3.out.2.later hb4⟩
              have hS := HS4.out
              refine hK.out _ _ (.inr hS) ?_
              clear hK K hb4
              cases h9 : hitB many[j] (d - 1) with
              | false =>
                have HF : Hid (hitsB nm many d = false) := hitsB_no (j + 1) (by rw [HTS.out, HR.out, h8, h9]; rfl)
                clear hS
                refine upto_one (i := 19) (by kernel_rfl) rfl (fun K hK => ?_)
                go_simp
                have hS := HS4.out
                refine hK.out _ _ (.inr hS) ?_
                clear hK K
                clear hS
                refine upto_one (i := 20) (by kernel_rfl) rfl (fun K hK => ?_)
                go_simp
                have hS := HS4.out
                refine hK.out _ _ (.inr hS) ?_
                clear hK K
                clear hS
                refine upto_done (by kernel_rfl) ?_ _
                go_wp2_with fail
                go_ret
                exact ⟨HE.out _ (by rw [HD.out, HF.out]; rfl), HB4.out⟩
              | true =>
                have HF : Hid (hitsB nm (many.take (j + 1)) d = true) := by unfold Hid; rw [HTS.out, HR.out, h8, h9]; rfl
                clear hS
                refine upto_one (i := 19) (by kernel_rfl) rfl (fun K hK => ?_)
                go_simp
                have hS := HS4.out
                refine hK.out _ _ (.inr hS) ?_
                clear hK K
                clear hS
                refine upto_one (i := 20) (by kernel_rfl) rfl (fun K hK => ?_)
                go_simp
                have hS := HS4.out
                refine hK.out _ _ (.inr hS) ?_
                clear hK K
                clear hS
                refine upto_done (by kernel_rfl) ?_ _
                go_wp2_with fail
                go_roundw
                case rel => exact ⟨j + 1, by omega, by go_num, HF.out, HS4.out.1, HB4.out, by omega⟩
                case measure => simp [intOf]; omega
        · obtain rfl : j = many.length := by omega
          have HA : Hid (hitsB nm many d = true) := by have := HR.out; rw [List.take_length] at this; exact this
          go_wp2_with fail
          refine (specSame_any B one zeroF _ _ wr (by omega) (InV.later (same_below (HB.out.mono hB)) _ _ HO.out) (inV_zeroF _ _)).mono ?_
          rintro e w2 ⟨rfl, hb2⟩
          have z11 := cell_later' hb2 x11
          have HB2 : Hid (Below w.heap.size w w2) := HB.out.trans (hb2.mono (by omega))
          clear hb2 x0 x1 x2 x3 x4 x5 x6 x7 x8 x9 x10 x11
          cases h8 : sameB one zeroF with
          | false =>
            go_wp2_with fail
            go_ret
            exact ⟨HE.out _ (by rw [HD.out, h8]; simp), HB2.out⟩
          | true =>
            by_cases h9 : many.length ≤ 400
            · have q9 : decide ((many.length : Int) ≤ 400) = true := decide_eq_true (by omega)
              have HF : Hid (true = hitB (.mk nm d one many) d) := by unfold Hid; rw [HD.out, h8, HA.out, decide_eq_true h9]; rfl
              clear h9
              go_wp2_with fail
              go_ret
              exact ⟨HE.out _ HF.out, HB2.out⟩
            · have q9 : decide ((many.length : Int) ≤ 400) = false := decide_eq_false (by omega)
              have HF : Hid (false = hitB (.mk nm d one many) d) := by unfold Hid; rw [HD.out, h8, decide_eq_false h9]; simp
              clear h9
              go_wp2_with fail
              go_ret
              exact ⟨HE.out _ HF.out, HB2.out⟩
end Go.Proofs.Ytnogpaflibghhaa
