/- The contract of redressed: the scopes of all names of a form combined with given ones. -/
import Derived.Test.YtmakaoomdnlebaaChangedDress
import Derived.Test.YtmakaoomdnlebaaData
import Derived.Test.YtmakaoomdnlebaaIs
import Derived.Test.YtmakaoomdnlebaaFirst
namespace Go.Proofs.Ytmakaoomdnlebaa
open Go.RowKit
set_option linter.unusedVariables false
set_option linter.unusedSimpArgs false
/-- a node of a valid form -/
def NodeOk (x : Fm) : Prop := x.sz ≤ 1048576 ∧ ∃ d, isB d x = true
theorem NodeOk.kid {x : Fm} (h : NodeOk x) : ∀ y ∈ x.kids, NodeOk y := by
  intro y hy
  obtain ⟨hs, d, hd⟩ := h
  refine ⟨Nat.le_trans (sz_kid hy) hs, ?_⟩
  cases x with
  | mk k nm n sc ks =>
    cases d with
    | zero => simp [isB] at hd
    | succ d =>
      simp only [Fm.kids] at hy
      unfold isB at hd
      split at hd
      · simp only [Bool.and_eq_true, List.isEmpty_iff] at hd
        rw [hd.2] at hy
        cases hy
      · split at hd
        · simp only [Bool.and_eq_true, List.isEmpty_iff] at hd
          rw [hd.2] at hy
          cases hy
        · simp only [Bool.and_eq_true, List.all_eq_true] at hd
          exact ⟨d, hd.2 y hy⟩
theorem NodeOk.scopes {x : Fm} (h : NodeOk x) : scopesB x.scopes = true := by
  obtain ⟨hs, d, hd⟩ := h
  cases x with
  | mk k nm n sc ks =>
    cases d with
    | zero => simp [isB] at hd
    | succ d =>
      simp only [Fm.scopes]
      unfold isB at hd
      split at hd
      · simp only [Bool.and_eq_true] at hd
        exact hd.1.2
      · split at hd
        · simp only [Bool.and_eq_true, List.isEmpty_iff] at hd
          rw [hd.1.2]
          rfl
        · simp only [Bool.and_eq_true, List.isEmpty_iff] at hd
          rw [hd.1.2]
          rfl
/-- what is asked of the function that combines -/
structure Comb (comb : List Int → List Int → List Int) (cf : Nat) (gs : List Int) : Prop where
  eg : ∀ args w, (callFunc cf args).run Try.prog w = .ok (.enter cf args) w
  bounds : ∀ l, scopesB l = true → (∀ n ∈ gs, -9223372036854775808 ≤ n ∧ n ≤ 9223372036854775807) → ∀ n ∈ comb l gs, -9223372036854775808 ≤ n ∧ n ≤ 9223372036854775807
  calls : ∀ (l : List Int) (pa pb : Option Addr) (ca cb : Nat) (W : World), scopesB l = true → scopesB gs = true → IntRow (· < W.heap.size) W (.slice pa l.length ca) l → IntRow (· < W.heap.size) W (.slice pb gs.length cb) gs →
    Calls Try.prog cf #[.slice pa l.length ca, .slice pb gs.length cb] W (MadeSet (comb l gs) W)
theorem Comb.arm {comb : List Int → List Int → List Int} {cf : Nat} {gs : List Int} (h : Comb comb cf gs) (hgs : scopesB gs = true) (cb sb : Nat) (pg : Option Addr) (cg : Nat) (w : World)
    (hcb : w.cell? ⟨cb, 0, none⟩ = some (.func (.func cf) #[] #[])) (hsb : w.cell? ⟨sb, 0, none⟩ = some (.slice pg gs.length cg)) (hrow : IntRow (· < w.heap.size) w (.slice pg gs.length cg) gs) :
    chgDress.NodeArm (dressF comb gs) NodeOk cb sb w := by
  intro W b o x sa scap hx hW hb hk hc hf hr
  refine redress_any comb cf gs pg cg cb sb b o x.kind x.scopes sa scap W hk hc hf ((hW.cell (p := ⟨cb, 0, none⟩) (cell_lt hcb)).trans hcb) ((hW.cell (p := ⟨sb, 0, none⟩) (cell_lt hsb)).trans hsb) (h.bounds _ hx.scopes (intRow_bounds hrow)) h.eg ?_
  intro W' hW'
  have hw' : Below w.heap.size w W' := hW.trans (hW'.mono hW.size)
  exact h.calls _ _ _ _ _ _ hx.scopes hgs ((hr.later (Same.of_below (hW'.mono hW.size) (fun k hk => hk))).mono (fun k hk => Nat.lt_of_lt_of_le hk hw'.size)) ((hrow.later (Same.of_below hw' (fun k hk => hk))).mono (fun k hk => Nat.lt_of_lt_of_le hk hw'.size))
/-- whether a form is redressed -/
def redB (comb : List Int → List Int → List Int) (gs : List Int) (f : Fm) : Bool := formB f && (scopesB gs && formB (f.chg (dressF comb gs)))
/-- what a call leaves that hands back a form of its own memory and a flag -/
def OwnPost (R : Fm) (ok : Bool) (w : World) (e : Ending) (w' : World) : Prop :=
  ∃ sa scap a cap bs, e = .returned (.tuple #[.agg #[.int .i64 R.kind, .string R.name, .int .i64 R.n, .slice sa R.scopes.length scap, .slice a R.kids.length cap], .bool ok]) ∧
    OwnV w' R (.agg #[.int .i64 R.kind, .string R.name, .int .i64 R.n, .slice sa R.scopes.length scap, .slice a R.kids.length cap]) bs ∧ NewBs bs w.heap.size w'.heap.size ∧ AllPlain w' bs ∧ Below w.heap.size w w'
set_option maxRecDepth 100000 in
set_option maxHeartbeats 2000000 in
theorem redressed_any (comb : List Int → List Int → List Int) (cf : Nat) (gs : List Int) (hcomb : Comb comb cf gs) (f : Fm) (v : Value) (pg : Option Addr) (cg : Nat) (w : World) (hv : InV (· < w.heap.size) w f v) (hsz : f.sz ≤ 1048576) (hgs : IntRow (· < w.heap.size) w (.slice pg gs.length cg) gs)
    (ok : Bool) (R : Fm) (hok : redB comb gs f = ok) (hR : (if ok = true then f.chg (dressF comb gs) else zeroForm) = R) :
    Calls Try.prog 56 #[v, .slice pg gs.length cg, .func (.func cf) #[] #[]] w (OwnPost R ok w) := by
  have HR := Lib.hid hR
  have HOK := Lib.hid hok
  have HCOMB := Lib.hid hcomb
  have HGS := Lib.hid hgs
  clear hR hok hcomb hgs
  obtain ⟨sa, scap, a, cap, rfl⟩ := hv.form
  have HV := Lib.hid hv
  clear hv
  obtain ⟨wA, hwA⟩ : ∃ wA, wA = ((((w.alloc (.cells #[.int .i64 f.kind, .string f.name, .int .i64 f.n, .slice sa f.scopes.length scap, .slice a f.kids.length cap] 27)).alloc (.cells #[.slice pg gs.length cg] 25)).alloc (.cells #[.func (.func cf) #[] #[]] 56)).alloc (.cells #[.int .i64 0, .string { data := #[] }, .int .i64 0, .slice none 0 0, .slice none 0 0] 27)) := ⟨_, rfl⟩
  have hsA : wA.heap.size = w.heap.size + 4 := by rw [hwA]; simp
  have hA0 : Below w.heap.size w wA := by rw [hwA]; exact ((((Below.refl _ w).alloc (Nat.le_refl _) _).alloc (by simp) _).alloc (by simp; omega) _).alloc (by simp; omega) _
  have hX : FormBox wA w.heap.size f sa scap a cap := by rw [hwA]; exact (((FormBox.fresh w f sa a scap cap 27).later (below_alloc _ _)).later (below_alloc _ _)).later (below_alloc _ _)
  have hS : wA.cell? ⟨w.heap.size + 1, 0, none⟩ = some (.slice pg gs.length cg) := by
    rw [hwA, World.cell?_alloc_past _ _ _ (by simp), World.cell?_alloc_past _ _ _ (by simp)]
    exact World.cell?_alloc_at _ _ _ _ (by simp)
  have hC : wA.cell? ⟨w.heap.size + 2, 0, none⟩ = some (.func (.func cf) #[] #[]) := by
    rw [hwA, World.cell?_alloc_past _ _ _ (by simp)]
    exact World.cell?_alloc_at _ _ _ _ (by simp)
  have hZ : wA.heap[w.heap.size + 3]? = some (.cells #[.int .i64 0, .string { data := #[] }, .int .i64 0, .slice none 0 0, .slice none 0 0] 27 (0, 0)) := by
    have := heap_alloc_new (((w.alloc (.cells #[.int .i64 f.kind, .string f.name, .int .i64 f.n, .slice sa f.scopes.length scap, .slice a f.kids.length cap] 27)).alloc (.cells #[.slice pg gs.length cg] 25)).alloc (.cells #[.func (.func cf) #[] #[]] 56)) (.cells #[.int .i64 0, .string { data := #[] }, .int .i64 0, .slice none 0 0, .slice none 0 0] 27)
    rw [size_alloc', size_alloc', size_alloc'] at this
    rw [hwA]
    exact this
  have HWA := Lib.hid hwA
  have HA0 := Lib.hid hA0
  have HX := Lib.hid hX
  have HS := Lib.hid hS
  have HC := Lib.hid hC
  have HZ := Lib.hid hZ
  clear hwA hA0 hX hS hC hZ
  go_enter Try.func56, Try.ntmps56
  go_wp2_with fail
  have hwA := HWA.out
  rw [← hwA]
  clear hwA
  refine (implFormValid_any w.heap.size f _ wA (by omega) (InV.later (same_below HA0.out) _ _ HV.out)).mono ?_
  rintro e w3 ⟨rfl, hb3⟩
  have hs3 : w.heap.size + 4 ≤ w3.heap.size := by have := hb3.size; omega
  have hX3 := HX.out.later hb3
  have hS3 := cell_later' hb3 HS.out
  have hC3 := cell_later' hb3 HC.out
  have hz3 := (hb3.block _ (by omega)).trans HZ.out
  have HB3 : Hid (Below w.heap.size w w3) := HA0.out.trans (hb3.mono (by omega))
  have HX3 := Lib.hid hX3
  have HC3 := Lib.hid hC3
  have HZ3 := Lib.hid hz3
  clear hb3 HX HS HC HZ HA0 HWA hX3 hC3
  cases hfb : formB f with
  | false =>
    obtain rfl : false = ok := by rw [← HOK.out]; unfold redB; rw [hfb]; rfl
    obtain rfl : zeroForm = R := HR.out
    clear hfb
    obtain ⟨r0, r1, r2, r3, r4, t0, t1, t2, t3, t4⟩ := zeroFacts hz3
    have hth := Lib.hid (zeroThere hz3)
    clear hz3
    go_wp2_with fail
    obtain ⟨z0, z1, z2, z3, z4⟩ := set5_in w3 (w.heap.size + 3) 0 (.int .i64 0) (.string { data := #[] }) (.int .i64 0) (.slice none 0 0) (.slice none 0 0) hth.out
    have hbe5 := set5_below HB3.out (b := w.heap.size + 3) (by omega) 0 (.int .i64 0) (.string { data := #[] }) (.int .i64 0) (.slice none 0 0) (.slice none 0 0)
    unfold set5 at z0 z1 z2 z3 z4 hbe5
    simp only [Nat.zero_add] at z0 z1 z2 z3 z4 hbe5
    refine bodyPost_ret (v := .tuple #[.agg #[.int .i64 0, .string { data := #[] }, .int .i64 0, .slice none 0 0, .slice none 0 0], .bool false]) (by simp [results, Try.results56, go_sem, z0, z1, z2, z3, z4]) rfl ?_
    exact ⟨none, 0, none, 0, [], rfl, zeroOwn _, NewBs.nil _ _, AllPlain.nil _, hbe5⟩
  | true =>
    have HNO : Hid (NodeOk f) := by
      unfold formB at hfb
      rw [Bool.and_eq_true] at hfb
      exact ⟨hsz, 40, hfb.1⟩
    have HOK2 : Hid ((scopesB gs && formB (f.chg (dressF comb gs))) = ok) := by
      unfold Hid
      rw [← HOK.out]
      unfold redB
      rw [hfb]
      rfl
    have HS3 := Lib.hid hS3
    clear hfb HOK hz3
    go_wp2_with fail
    refine (implScopes_any (· < w.heap.size) gs _ w3 (HGS.out.later (same_below HB3.out))).mono ?_
    rintro e w4 ⟨rfl, hb4⟩
    have hs4 := hb4.size
    have hz4 := (hb4.block _ (by omega)).trans HZ3.out
    have hS4 := cell_later' hb4 HS3.out
    have HB4 : Hid (Below w.heap.size w w4) := HB3.out.trans (hb4.mono (by omega))
    have HX4 := Lib.hid (HX3.out.later hb4)
    have HC4 := Lib.hid (cell_later' hb4 HC3.out)
    have HZ4 := Lib.hid hz4
    have HS4 := Lib.hid hS4
    clear hb4 HX3 HC3 HZ3 hS3 HS3 hS4
    cases hgb : scopesB gs with
    | false =>
      obtain rfl : false = ok := by rw [← HOK2.out, hgb]; rfl
      obtain rfl : zeroForm = R := HR.out
      clear hgb
      obtain ⟨r0, r1, r2, r3, r4, t0, t1, t2, t3, t4⟩ := zeroFacts hz4
      have hth := Lib.hid (zeroThere hz4)
      clear hz4
      go_wp2_with fail
      obtain ⟨z0, z1, z2, z3, z4⟩ := set5_in w4 (w.heap.size + 3) 0 (.int .i64 0) (.string { data := #[] }) (.int .i64 0) (.slice none 0 0) (.slice none 0 0) hth.out
      have hbe5 := set5_below HB4.out (b := w.heap.size + 3) (by omega) 0 (.int .i64 0) (.string { data := #[] }) (.int .i64 0) (.slice none 0 0) (.slice none 0 0)
      unfold set5 at z0 z1 z2 z3 z4 hbe5
      simp only [Nat.zero_add] at z0 z1 z2 z3 z4 hbe5
      refine bodyPost_ret (v := .tuple #[.agg #[.int .i64 0, .string { data := #[] }, .int .i64 0, .slice none 0 0, .slice none 0 0], .bool false]) (by simp [results, Try.results56, go_sem, z0, z1, z2, z3, z4]) rfl ?_
      exact ⟨none, 0, none, 0, [], rfl, zeroOwn _, NewBs.nil _ _, AllPlain.nil _, hbe5⟩
    | true =>
      have HOK3 : Hid (formB (f.chg (dressF comb gs)) = ok) := by
        unfold Hid
        rw [← HOK2.out, hgb]
        rfl
      have HGB := Lib.hid hgb
      clear hz4 hgb HOK2
      obtain ⟨x0, x1, x2, x3, x4⟩ := HX4.out
      go_wp2_with fail
      have harm := HCOMB.out.arm HGB.out (w.heap.size + 2) (w.heap.size + 1) pg cg w4 HC4.out HS4.out ((HGS.out.later (same_below HB4.out)).mono fun k hk => by omega)
      refine (chgDress.changed_any (chF := dressF comb gs) (okF := NodeOk) f _ w4 (InV.mono (fun k (hk : k < w.heap.size) => (by omega : k < w4.heap.size)) _ _ (InV.later (same_below HB4.out) _ _ HV.out)) HNO.out (fun x hx => hx.1) (fun x hx => hx.kid) _ _ harm).mono ?_
      rintro e w5 hp
      obtain ⟨G, hG⟩ : ∃ G, G = f.chg (dressF comb gs) := ⟨_, rfl⟩
      rw [← hG] at hp HOK3 HR
      clear hG harm
      obtain ⟨csa, cscap, ca, ccap, bs, rfl, hown, hnew, hpl, hb5⟩ := hp
      have hs5 := hb5.size
      have HZ5 := Lib.hid ((hb5.block _ (by omega)).trans HZ4.out)
      have HB5 : Hid (Below w.heap.size w w5) := HB4.out.trans (hb5.mono (by omega))
      have HOWN := Lib.hid hown
      have HNEW := Lib.hid hnew
      have HPL := Lib.hid hpl
      clear hb5 hown hnew hpl x0 x1 x2 x3 x4 HX4 HC4 HS4
      go_wp2_with fail
      have hb56 := below_alloc w5 (.cells #[.int .i64 G.kind, .string G.name, .int .i64 G.n, .slice csa G.scopes.length cscap, .slice ca G.kids.length ccap] 27)
      have hin := OwnV.inV (φ := (· < w5.heap.size)) G _ bs (fun c hm => (HNEW.out.2 c hm).2) HOWN.out
      refine (implFormValid_any w5.heap.size G _ _ (by simp) (InV.later (same_below hb56) _ _ hin)).mono ?_
      rintro e w7 ⟨rfl, hb7⟩
      rw [HOK3.out]
      obtain ⟨x0, x1, x2, x3, x4⟩ := (FormBox.fresh w5 G csa ca cscap ccap 27).later hb7
      have hb57 : Below w5.heap.size w5 w7 := hb56.trans (hb7.mono (by simp))
      have hs7 : w5.heap.size + 1 ≤ w7.heap.size := by have := hb7.size; simpa using this
      have hz7 := (hb57.block _ (by omega)).trans HZ5.out
      have HB7 : Hid (Below w.heap.size w w7) := HB5.out.trans (hb57.mono (by omega))
      have hso : SameOn bs w5 w7 := SameOn.of_below hb57 (fun b hb => (HNEW.out.2 b hb).2)
      have HOWN7 := Lib.hid (OwnV.later _ _ _ hso HOWN.out)
      have HPL7 := Lib.hid (HPL.out.same hso)
      have HNEW7 : Hid (NewBs bs w4.heap.size w7.heap.size) := HNEW.out.mono (Nat.le_refl _) (by omega)
      clear hb7 hb56 hb57 hso HOWN HPL HNEW hin
      cases ok with
      | false =>
        obtain rfl : zeroForm = R := HR.out
        obtain ⟨r0, r1, r2, r3, r4, t0, t1, t2, t3, t4⟩ := zeroFacts hz7
        have hth := Lib.hid (zeroThere hz7)
        clear hz7
        go_wp2_with fail
        obtain ⟨z0, z1, z2, z3, z4⟩ := set5_in w7 (w.heap.size + 3) 0 (.int .i64 0) (.string { data := #[] }) (.int .i64 0) (.slice none 0 0) (.slice none 0 0) hth.out
        have hbe5 := set5_below HB7.out (b := w.heap.size + 3) (by omega) 0 (.int .i64 0) (.string { data := #[] }) (.int .i64 0) (.slice none 0 0) (.slice none 0 0)
        unfold set5 at z0 z1 z2 z3 z4 hbe5
        simp only [Nat.zero_add] at z0 z1 z2 z3 z4 hbe5
        refine bodyPost_ret (v := .tuple #[.agg #[.int .i64 0, .string { data := #[] }, .int .i64 0, .slice none 0 0, .slice none 0 0], .bool false]) (by simp [results, Try.results56, go_sem, z0, z1, z2, z3, z4]) rfl ?_
        exact ⟨none, 0, none, 0, [], rfl, zeroOwn _, NewBs.nil _ _, AllPlain.nil _, hbe5⟩
      | true =>
        obtain rfl : G = R := HR.out
        obtain ⟨r0, r1, r2, r3, r4, t0, t1, t2, t3, t4⟩ := zeroFacts hz7
        have hth := Lib.hid (zeroThere hz7)
        clear hz7
        go_wp2_with fail
        obtain ⟨z0, z1, z2, z3, z4⟩ := set5_in w7 (w.heap.size + 3) 0 (.int .i64 G.kind) (.string G.name) (.int .i64 G.n) (.slice csa G.scopes.length cscap) (.slice ca G.kids.length ccap) hth.out
        have hz5 := set5_size w7 (w.heap.size + 3) 0 (.int .i64 G.kind) (.string G.name) (.int .i64 G.n) (.slice csa G.scopes.length cscap) (.slice ca G.kids.length ccap)
        have hbe5 := set5_below HB7.out (b := w.heap.size + 3) (by omega) 0 (.int .i64 G.kind) (.string G.name) (.int .i64 G.n) (.slice csa G.scopes.length cscap) (.slice ca G.kids.length ccap)
        have hss : SameOn bs w7 (set5 w7 (w.heap.size + 3) 0 (.int .i64 G.kind) (.string G.name) (.int .i64 G.n) (.slice csa G.scopes.length cscap) (.slice ca G.kids.length ccap)) := fun c hc => set5_block _ _ _ _ _ _ _ _ (by have := (HNEW7.out.2 c hc).1; omega)
        have hown5 := OwnV.later _ _ _ hss HOWN7.out
        have hpl5 := HPL7.out.same hss
        have hnew5 : NewBs bs w.heap.size (set5 w7 (w.heap.size + 3) 0 (.int .i64 G.kind) (.string G.name) (.int .i64 G.n) (.slice csa G.scopes.length cscap) (.slice ca G.kids.length ccap)).heap.size := by rw [hz5]; exact HNEW7.out.mono (by omega) (Nat.le_refl _)
        unfold set5 at z0 z1 z2 z3 z4 hbe5 hown5 hpl5 hnew5
        simp only [Nat.zero_add] at z0 z1 z2 z3 z4 hbe5 hown5 hpl5 hnew5
        refine bodyPost_ret (v := .tuple #[.agg #[.int .i64 G.kind, .string G.name, .int .i64 G.n, .slice csa G.scopes.length cscap, .slice ca G.kids.length ccap], .bool true]) (by simp [results, Try.results56, go_sem, z0, z1, z2, z3, z4]) rfl ?_
        exact ⟨csa, cscap, ca, ccap, bs, rfl, hown5, hnew5, hpl5, hbe5⟩
end Go.Proofs.Ytmakaoomdnlebaa
