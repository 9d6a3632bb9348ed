/- The contracts of the program's RenameName. -/
import Derived.Test.YtnogpaflibghhaaRenNode
import Derived.Test.YtnogpaflibghhaaChangedRen
import Derived.Test.YtnogpaflibghhaaSpecRen
import Derived.Test.YtnogpaflibghhaaValid
import Derived.Test.YtnogpaflibghhaaFirst
namespace Go.Proofs.Ytnogpaflibghhaa
section
open Go.RowKit
set_option linter.unusedVariables false
set_option linter.unusedSimpArgs false
theorem nameR_size (old now : ByteArray) (h : now.size ≤ maxLen) (s : ByteArray) (hs : s.size ≤ maxLen) : (nameR old now s).size ≤ maxLen := by
  unfold nameR
  split
  · exact h
  · exact hs
set_option maxRecDepth 100000 in
set_option maxHeartbeats 2000000 in
theorem renamed_any (old now : ByteArray) (hno : now.size ≤ maxLen) (f : Fm) (v : Value) (w : World) (hv : InV (· < w.heap.size) w f v) (hsz : f.sz ≤ 1048576) :
    Calls Try.prog 131 #[v, .string old, .string now] w (ToPost (f.rn (nameR old now)) w) := by
  have HV := Lib.hid hv
  have HNO := Lib.hid hno
  have HSZ := Lib.hid hsz
  obtain ⟨sa, scap, a, cap, rfl⟩ := hv.form
  obtain ⟨G, hG⟩ : ∃ G, f.rn (nameR old now) = G := ⟨_, rfl⟩
  rw [hG]
  have HG := Lib.hid hG
  clear hv hno hsz hG
  obtain ⟨w1, hw1⟩ : ∃ w1, w1 = (((w.alloc (.cells #[.int .i64 f.kind, .string f.name, .int .i64 f.n, .slice sa f.scopes.length scap, .slice a f.kids.length cap] 33)).alloc (.cells #[.string old] 9)).alloc (.cells #[.string now] 9)).alloc (.cells #[.int .i64 0, .string { data := #[] }, .int .i64 0, .slice none 0 0, .slice none 0 0] 33) := ⟨_, rfl⟩
  have hs1 : w1.heap.size = w.heap.size + 4 := by rw [hw1]; simp
  have hb1 : Below w.heap.size w w1 := by rw [hw1]; exact ((((Below.refl _ w).alloc (Nat.le_refl _) _).alloc (by simp) _).alloc (by simp; omega) _).alloc (by simp; omega) _
  have hX : FormBox w1 w.heap.size f sa scap a cap := by rw [hw1]; exact (((FormBox.fresh w f sa a scap cap 33).later (below_alloc _ _)).later (below_alloc _ _)).later (below_alloc _ _)
  have hO : w1.cell? ⟨w.heap.size + 1, 0, none⟩ = some (.string old) := by
    rw [hw1, World.cell?_alloc_past _ _ _ (by simp), World.cell?_alloc_past _ _ _ (by simp)]
    exact World.cell?_alloc_at _ _ _ _ (by simp)
  have hN : w1.cell? ⟨w.heap.size + 2, 0, none⟩ = some (.string now) := by
    rw [hw1, World.cell?_alloc_past _ _ _ (by simp)]
    exact World.cell?_alloc_at _ _ _ _ (by simp)
  have hZ : w1.heap[w.heap.size + 3]? = some (.cells #[.int .i64 0, .string { data := #[] }, .int .i64 0, .slice none 0 0, .slice none 0 0] 33 (0, 0)) := by
    have := heap_alloc_new (((w.alloc (.cells #[.int .i64 f.kind, .string f.name, .int .i64 f.n, .slice sa f.scopes.length scap, .slice a f.kids.length cap] 33)).alloc (.cells #[.string old] 9)).alloc (.cells #[.string now] 9)) (.cells #[.int .i64 0, .string { data := #[] }, .int .i64 0, .slice none 0 0, .slice none 0 0] 33)
    rw [size_alloc', size_alloc', size_alloc'] at this
    rw [hw1]
    exact this
  have HW1 := Lib.hid hw1
  have HB1 := Lib.hid hb1
  have HO := Lib.hid hO
  have HN := Lib.hid hN
  have HZ := Lib.hid hZ
  obtain ⟨x0, x1, x2, x3, x4⟩ := hX
  clear hw1 hb1 hO hN hZ
  go_enter Try.func131, Try.ntmps131
  go_wp2_with fail
  rw [← HW1.out]
  have harm : chgRen.NodeArm (nameR old now) (fun x => x.sz ≤ 1048576) (w.heap.size + 1) (w.heap.size + 2) w1 := by
    intro W b o x xsa xscap hx hW hb hn hfn hc hf hr
    exact renNode_any _ old now (w.heap.size + 1) (w.heap.size + 2) b o x.name x.scopes xsa xscap W hn hfn ((hW.cell (p := ⟨w.heap.size + 1, 0, none⟩) (by show w.heap.size + 1 < w1.heap.size; omega)).trans HO.out) ((hW.cell (p := ⟨w.heap.size + 2, 0, none⟩) (by show w.heap.size + 2 < w1.heap.size; omega)).trans HN.out) (by omega) (by omega) hc hf hr (Nat.le_trans (sz_scopes x).1 hx)
  refine (chgRen.changed_any (nf := nameR old now) (okF := fun x => x.sz ≤ 1048576) f _ w1 (InV.mono (fun k (hk : k < w.heap.size) => (by omega : k < w1.heap.size)) _ _ (InV.later (same_below HB1.out) _ _ HV.out)) HSZ.out (fun x hx => hx) (fun x hx y hy => Nat.le_trans (sz_kid hy) hx) (nameR_size old now HNO.out) _ _ harm).mono ?_
  rintro e w2 hp
  rw [HG.out] at hp
  clear harm
  obtain ⟨csa, cscap, ca, ccap, bs, rfl, hown, hnew, hpl, hb2⟩ := hp
  have hs2 := hb2.size
  have hz2 := (hb2.block _ (by omega)).trans HZ.out
  have HB2 : Hid (Below w.heap.size w w2) := HB1.out.trans (hb2.mono (by omega))
  have HOWN := Lib.hid hown
  have HNEW := Lib.hid hnew
  have HPL := Lib.hid hpl
  clear hb2 hown hnew hpl x0 x1 x2 x3 x4
  obtain ⟨r0, r1, r2, r3, r4, t0, t1, t2, t3, t4⟩ := zeroFacts hz2
  have hth := Lib.hid (zeroThere hz2)
  clear hz2
  go_wp2_with fail
  obtain ⟨z0, z1, z2, z3, z4⟩ := set5_in w2 (w.heap.size + 3) 0 (.int .i64 G.kind) (.string G.name) (.int .i64 G.n) (.slice csa G.scopes.length cscap) (.slice ca G.kids.length ccap) hth.out
  have hz5 := set5_size w2 (w.heap.size + 3) 0 (.int .i64 G.kind) (.string G.name) (.int .i64 G.n) (.slice csa G.scopes.length cscap) (.slice ca G.kids.length ccap)
  have hbe5 := set5_below HB2.out (b := w.heap.size + 3) (by omega) 0 (.int .i64 G.kind) (.string G.name) (.int .i64 G.n) (.slice csa G.scopes.length cscap) (.slice ca G.kids.length ccap)
  have hss : SameOn bs w2 (set5 w2 (w.heap.size + 3) 0 (.int .i64 G.kind) (.string G.name) (.int .i64 G.n) (.slice csa G.scopes.length cscap) (.slice ca G.kids.length ccap)) := fun c hc => set5_block _ _ _ _ _ _ _ _ (by have := (HNEW.out.2 c hc).1; omega)
  have hown5 := OwnV.later _ _ _ hss HOWN.out
  have hpl5 := HPL.out.same hss
  have hnew5 : NewBs bs w.heap.size (set5 w2 (w.heap.size + 3) 0 (.int .i64 G.kind) (.string G.name) (.int .i64 G.n) (.slice csa G.scopes.length cscap) (.slice ca G.kids.length ccap)).heap.size := by rw [hz5]; exact HNEW.out.mono (by omega) (Nat.le_refl _)
  unfold set5 at z0 z1 z2 z3 z4 hbe5 hown5 hpl5 hnew5
  simp only [Nat.zero_add] at z0 z1 z2 z3 z4 hbe5 hown5 hpl5 hnew5
  refine bodyPost_ret (v := .agg #[.int .i64 G.kind, .string G.name, .int .i64 G.n, .slice csa G.scopes.length cscap, .slice ca G.kids.length ccap]) (by simp [results, Try.results131, go_sem, z0, z1, z2, z3, z4]) rfl ?_
  exact ⟨csa, cscap, ca, ccap, bs, rfl, hown5, hnew5, hpl5, hbe5⟩
/-- what a call leaves that hands back a form of its own memory and a flag -/
def RenPost (R : Fm) (ok : Bool) (w : World) (e : Ending) (w' : World) : Prop :=
  ∃ sa scap a cap bs, e = .returned (.tuple #[.agg #[.int .i64 R.kind, .string R.name, .int .i64 R.n, .slice sa R.scopes.length scap, .slice a R.kids.length cap], .bool ok]) ∧
    OwnV w' R (.agg #[.int .i64 R.kind, .string R.name, .int .i64 R.n, .slice sa R.scopes.length scap, .slice a R.kids.length cap]) bs ∧ NewBs bs w.heap.size w'.heap.size ∧ AllPlain w' bs ∧ Below w.heap.size w w'
set_option maxRecDepth 100000 in
set_option maxHeartbeats 2000000 in
theorem implRename_any (old now : ByteArray) (hol : old.size ≤ maxLen) (hno : now.size ≤ maxLen) (f : Fm) (v : Value) (w : World) (hv : InV (· < w.heap.size) w f v) (hsz : f.sz ≤ 1048576)
    (ok : Bool) (R : Fm) (hok : renB f old now = ok) (hR : (if ok = true then f.rn (nameR old now) else zeroForm) = R) :
    Calls Try.prog 65 #[v, .string old, .string now] w (RenPost R ok w) := by
  have HV := Lib.hid hv
  have HNO := Lib.hid hno
  have HOL := Lib.hid hol
  have HSZ := Lib.hid hsz
  have HR := Lib.hid hR
  have HOK := Lib.hid hok
  obtain ⟨sa, scap, a, cap, rfl⟩ := hv.form
  clear hv hno hsz hol hR hok
  obtain ⟨w1, hw1⟩ : ∃ w1, w1 = (w.alloc (.cells #[.int .i64 f.kind, .string f.name, .int .i64 f.n, .slice sa f.scopes.length scap, .slice a f.kids.length cap] 33)).alloc (.cells #[.int .i64 0, .string { data := #[] }, .int .i64 0, .slice none 0 0, .slice none 0 0] 33) := ⟨_, rfl⟩
  have hs1 : w1.heap.size = w.heap.size + 2 := by rw [hw1]; simp
  have hb1 : Below w.heap.size w w1 := by rw [hw1]; exact (below_alloc w _).alloc (by simp) _
  have hX : FormBox w1 w.heap.size f sa scap a cap := by rw [hw1]; exact (FormBox.fresh w f sa a scap cap 33).later (below_alloc _ _)
  have hZ : w1.heap[w.heap.size + 1]? = some (.cells #[.int .i64 0, .string { data := #[] }, .int .i64 0, .slice none 0 0, .slice none 0 0] 33 (0, 0)) := by
    have := heap_alloc_new (w.alloc (.cells #[.int .i64 f.kind, .string f.name, .int .i64 f.n, .slice sa f.scopes.length scap, .slice a f.kids.length cap] 33)) (.cells #[.int .i64 0, .string { data := #[] }, .int .i64 0, .slice none 0 0, .slice none 0 0] 33)
    rw [size_alloc'] at this
    rw [hw1]
    exact this
  have HW1 := Lib.hid hw1
  have HB1 := Lib.hid hb1
  have HX := Lib.hid hX
  have HZ := Lib.hid hZ
  obtain ⟨x0, x1, x2, x3, x4⟩ := hX
  clear hw1 hb1 hZ
  go_enter Try.func65, Try.ntmps65
  go_wp2_with fail
  rw [← HW1.out]
  refine (implFormValid_any w.heap.size f _ w1 (by omega) (InV.later (same_below HB1.out) _ _ HV.out)).mono ?_
  rintro e w2 ⟨rfl, hb2⟩
  have hs2 : w.heap.size + 2 ≤ w2.heap.size := by have := hb2.size; omega
  have HX2 := Lib.hid (HX.out.later hb2)
  have hz2 := (hb2.block _ (by omega)).trans HZ.out
  have HB2 : Hid (Below w.heap.size w w2) := HB1.out.trans (hb2.mono (by omega))
  have HZ2 := Lib.hid hz2
  clear hb2 hz2 HX HZ HB1 HW1 x0 x1 x2 x3 x4
  have HREN : Hid (renB f old now = (formB f && (nameB old.data.toList && nameB now.data.toList))) := rfl
  cases hfb : formB f with
  | false =>
    obtain rfl : false = ok := by rw [← HOK.out, HREN.out, hfb]; rfl
    obtain rfl : zeroForm = R := HR.out
    obtain ⟨r0, r1, r2, r3, r4, t0, t1, t2, t3, t4⟩ := zeroFacts HZ2.out
    have hth := Lib.hid (zeroThere HZ2.out)
    go_wp2_with fail
    obtain ⟨z0, z1, z2, z3, z4⟩ := set5_in w2 (w.heap.size + 1) 0 (.int .i64 0) (.string { data := #[] }) (.int .i64 0) (.slice none 0 0) (.slice none 0 0) hth.out
    have hbe5 := set5_below HB2.out (b := w.heap.size + 1) (by omega) 0 (.int .i64 0) (.string { data := #[] }) (.int .i64 0) (.slice none 0 0) (.slice none 0 0)
    unfold set5 at z0 z1 z2 z3 z4 hbe5
    simp only [Nat.zero_add] at z0 z1 z2 z3 z4 hbe5
    refine bodyPost_ret (v := .tuple #[.agg #[.int .i64 0, .string { data := #[] }, .int .i64 0, .slice none 0 0, .slice none 0 0], .bool false]) (by simp [results, Try.results65, go_sem, z0, z1, z2, z3, z4]) rfl ?_
    exact ⟨none, 0, none, 0, [], rfl, zeroOwn _, NewBs.nil _ _, AllPlain.nil _, hbe5⟩
  | true =>
    go_wp2_with fail
    refine (implNameValid_any old _ HOL.out).mono ?_
    rintro e w3 ⟨rfl, hb3⟩
    have hs3 := hb3.size
    have HX3 := Lib.hid (HX2.out.later hb3)
    have hz3 := (hb3.block _ (by omega)).trans HZ2.out
    have HB3 : Hid (Below w.heap.size w w3) := HB2.out.trans (hb3.mono (by omega))
    have HZ3 := Lib.hid hz3
    clear hb3 hz3 HX2 HZ2
    cases hob : nameB old.data.toList with
    | false =>
      obtain rfl : false = ok := by rw [← HOK.out, HREN.out, hfb, hob]; rfl
      obtain rfl : zeroForm = R := HR.out
      obtain ⟨r0, r1, r2, r3, r4, t0, t1, t2, t3, t4⟩ := zeroFacts HZ3.out
      have hth := Lib.hid (zeroThere HZ3.out)
      go_wp2_with fail
      obtain ⟨z0, z1, z2, z3, z4⟩ := set5_in w3 (w.heap.size + 1) 0 (.int .i64 0) (.string { data := #[] }) (.int .i64 0) (.slice none 0 0) (.slice none 0 0) hth.out
      have hbe5 := set5_below HB3.out (b := w.heap.size + 1) (by omega) 0 (.int .i64 0) (.string { data := #[] }) (.int .i64 0) (.slice none 0 0) (.slice none 0 0)
      unfold set5 at z0 z1 z2 z3 z4 hbe5
      simp only [Nat.zero_add] at z0 z1 z2 z3 z4 hbe5
      refine bodyPost_ret (v := .tuple #[.agg #[.int .i64 0, .string { data := #[] }, .int .i64 0, .slice none 0 0, .slice none 0 0], .bool false]) (by simp [results, Try.results65, go_sem, z0, z1, z2, z3, z4]) rfl ?_
      exact ⟨none, 0, none, 0, [], rfl, zeroOwn _, NewBs.nil _ _, AllPlain.nil _, hbe5⟩
    | true =>
      go_wp2_with fail
      refine (implNameValid_any now _ HNO.out).mono ?_
      rintro e w4 ⟨rfl, hb4⟩
      have hs4 := hb4.size
      have HX4 := Lib.hid (HX3.out.later hb4)
      have hz4 := (hb4.block _ (by omega)).trans HZ3.out
      have HB4 : Hid (Below w.heap.size w w4) := HB3.out.trans (hb4.mono (by omega))
      have HZ4 := Lib.hid hz4
      clear hb4 hz4 HX3 HZ3
      cases hnb : nameB now.data.toList with
      | false =>
        obtain rfl : false = ok := by rw [← HOK.out, HREN.out, hfb, hob, hnb]; rfl
        obtain rfl : zeroForm = R := HR.out
        obtain ⟨r0, r1, r2, r3, r4, t0, t1, t2, t3, t4⟩ := zeroFacts HZ4.out
        have hth := Lib.hid (zeroThere HZ4.out)
        go_wp2_with fail
        obtain ⟨z0, z1, z2, z3, z4⟩ := set5_in w4 (w.heap.size + 1) 0 (.int .i64 0) (.string { data := #[] }) (.int .i64 0) (.slice none 0 0) (.slice none 0 0) hth.out
        have hbe5 := set5_below HB4.out (b := w.heap.size + 1) (by omega) 0 (.int .i64 0) (.string { data := #[] }) (.int .i64 0) (.slice none 0 0) (.slice none 0 0)
        unfold set5 at z0 z1 z2 z3 z4 hbe5
        simp only [Nat.zero_add] at z0 z1 z2 z3 z4 hbe5
        refine bodyPost_ret (v := .tuple #[.agg #[.int .i64 0, .string { data := #[] }, .int .i64 0, .slice none 0 0, .slice none 0 0], .bool false]) (by simp [results, Try.results65, go_sem, z0, z1, z2, z3, z4]) rfl ?_
        exact ⟨none, 0, none, 0, [], rfl, zeroOwn _, NewBs.nil _ _, AllPlain.nil _, hbe5⟩
      | true =>
        obtain rfl : true = ok := by rw [← HOK.out, HREN.out, hfb, hob, hnb]; rfl
        obtain ⟨x0, x1, x2, x3, x4⟩ := HX4.out
        go_wp2_with fail
        refine (renamed_any old now HNO.out f _ w4 (InV.mono (fun k (hk : k < w.heap.size) => (by omega : k < w4.heap.size)) _ _ (InV.later (same_below HB4.out) _ _ HV.out)) HSZ.out).mono ?_
        rintro e w5 hp
        obtain ⟨G, hG⟩ : ∃ G, G = f.rn (nameR old now) := ⟨_, rfl⟩
        rw [← hG] at hp
        have hr5 : G = R := by have h := HR.out; rw [← hG] at h; simpa using h
        have HR5 := Lib.hid hr5
        clear hr5
        clear hG HR
        obtain ⟨csa, cscap, ca, ccap, bs, rfl, hown, hnew, hpl, hb5⟩ := hp
        obtain rfl := HR5.out
        have hs5 := hb5.size
        have hz7 := (hb5.block _ (by omega)).trans HZ4.out
        have HB7 : Hid (Below w.heap.size w w5) := HB4.out.trans (hb5.mono (by omega))
        have HOWN7 := Lib.hid hown
        have HNEW7 := Lib.hid hnew
        have HPL7 := Lib.hid hpl
        clear hb5 hown hnew hpl x0 x1 x2 x3 x4
        obtain ⟨r0, r1, r2, r3, r4, t0, t1, t2, t3, t4⟩ := zeroFacts hz7
        have hth := Lib.hid (zeroThere hz7)
        clear hz7
        go_wp2_with fail
        obtain ⟨z0, z1, z2, z3, z4⟩ := set5_in w5 (w.heap.size + 1) 0 (.int .i64 G.kind) (.string G.name) (.int .i64 G.n) (.slice csa G.scopes.length cscap) (.slice ca G.kids.length ccap) hth.out
        have hz5 := set5_size w5 (w.heap.size + 1) 0 (.int .i64 G.kind) (.string G.name) (.int .i64 G.n) (.slice csa G.scopes.length cscap) (.slice ca G.kids.length ccap)
        have hbe5 := set5_below HB7.out (b := w.heap.size + 1) (by omega) 0 (.int .i64 G.kind) (.string G.name) (.int .i64 G.n) (.slice csa G.scopes.length cscap) (.slice ca G.kids.length ccap)
        have hss : SameOn bs w5 (set5 w5 (w.heap.size + 1) 0 (.int .i64 G.kind) (.string G.name) (.int .i64 G.n) (.slice csa G.scopes.length cscap) (.slice ca G.kids.length ccap)) := fun c hc => set5_block _ _ _ _ _ _ _ _ (by have := (HNEW7.out.2 c hc).1; omega)
        have hown5 := OwnV.later _ _ _ hss HOWN7.out
        have hpl5 := HPL7.out.same hss
        have hnew5 : NewBs bs w.heap.size (set5 w5 (w.heap.size + 1) 0 (.int .i64 G.kind) (.string G.name) (.int .i64 G.n) (.slice csa G.scopes.length cscap) (.slice ca G.kids.length ccap)).heap.size := by rw [hz5]; exact HNEW7.out.mono (by omega) (Nat.le_refl _)
        unfold set5 at z0 z1 z2 z3 z4 hbe5 hown5 hpl5 hnew5
        simp only [Nat.zero_add] at z0 z1 z2 z3 z4 hbe5 hown5 hpl5 hnew5
        refine bodyPost_ret (v := .tuple #[.agg #[.int .i64 G.kind, .string G.name, .int .i64 G.n, .slice csa G.scopes.length cscap, .slice ca G.kids.length ccap], .bool true]) (by simp [results, Try.results65, go_sem, z0, z1, z2, z3, z4]) rfl ?_
        exact ⟨csa, cscap, ca, ccap, bs, rfl, hown5, hnew5, hpl5, hbe5⟩
end
end Go.Proofs.Ytnogpaflibghhaa
