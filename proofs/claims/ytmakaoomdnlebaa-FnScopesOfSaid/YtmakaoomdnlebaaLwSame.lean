/- ScopesOf at any form, and two rows that are compared. -/
import Derived.Test.YtmakaoomdnlebaaLwWithin
import Derived.Test.YtmakaoomdnlebaaLwKids
import Derived.Test.YtmakaoomdnlebaaLwDrops
namespace Go.Proofs.Ytmakaoomdnlebaa
open Go.RowKit
set_option linter.unusedVariables false
set_option linter.unusedSimpArgs false
set_option maxRecDepth 100000 in
set_option maxHeartbeats 1000000 in
theorem implScopesOf_no (R : Fm) (sa : Option Addr) (scap : Nat) (a : Option Addr) (cap : Nat) (w : World) (hv : InV (· < w.heap.size) w R (.agg #[.int .i64 R.kind, .string R.name, .int .i64 R.n, .slice sa R.scopes.length scap, .slice a R.kids.length cap])) (hf : formB R = false) :
    Calls Try.prog 26 #[.agg #[.int .i64 R.kind, .string R.name, .int .i64 R.n, .slice sa R.scopes.length scap, .slice a R.kids.length cap]] w fun e w' => e = .returned (.slice none 0 0) ∧ Below w.heap.size w w' := by
  have HV := Lib.hid hv
  clear hv
  go_enter Try.func26, Try.ntmps26
  go_wp2_with fail
  refine (implFormValid_any w.heap.size R _ _ (by simp) (InV.later (same_below (below_alloc w _)) _ _ HV.out)).mono ?_
  rintro e w1 ⟨rfl, hb1⟩
  rw [hf]
  have HB : Hid (Below w.heap.size w w1) := (below_alloc w _).trans (hb1.mono (by simp))
  clear hb1
  go_wp2_with fail
  go_ret
  exact ⟨rfl, HB.out⟩
theorem implScopesOf_gen (R : Fm) (sa : Option Addr) (scap : Nat) (a : Option Addr) (cap : Nat) (w : World) (hv : InV (· < w.heap.size) w R (.agg #[.int .i64 R.kind, .string R.name, .int .i64 R.n, .slice sa R.scopes.length scap, .slice a R.kids.length cap])) (hsz : R.sz ≤ 1048576) (l : List Int) (hl : scopesOf R = l) :
    Calls Try.prog 26 #[.agg #[.int .i64 R.kind, .string R.name, .int .i64 R.n, .slice sa R.scopes.length scap, .slice a R.kids.length cap]] w fun e w' => ∃ pa ca, e = .returned (.slice pa l.length ca) ∧ IntRow (· < w'.heap.size) w' (.slice pa l.length ca) l ∧ Below w.heap.size w w' := by
  cases hf : formB R with
  | true => exact implScopesOf_law R sa scap a cap w hv hsz (valid_end hf hv) l hl
  | false =>
    refine (implScopesOf_no R sa scap a cap w hv hf).mono ?_
    rintro e w' ⟨rfl, hb⟩
    have e : l = [] := by rw [← hl]; unfold scopesOf; rw [hf]; rfl
    subst e
    exact ⟨none, 0, rfl, ⟨none, 0, rfl, Nat.le_refl _, Nat.zero_le _, by simp, .inl rfl⟩, hb⟩
theorem implFormValid_law (f : Fm) (v : Value) (w : World) (hv : InV (· < w.heap.size) w f v) (ok : Bool) (hok : formB f = ok) :
    Calls Try.prog 41 #[v] w fun e w' => e = .returned (.bool ok) ∧ Below w.heap.size w w' := by
  rw [← hok]
  exact implFormValid_any w.heap.size f v w (Nat.le_refl _) hv
theorem specScopesOf_law (R : Fm) (v : Value) (w : World) (hv : InV (· < w.heap.size) w R v) (hsz : R.sz ≤ 1048576) (l : List Int) (hl : scopesOf R = l) :
    Calls Try.prog 40 #[v] w fun e w' => ∃ pa ca, e = .returned (.slice pa l.length ca) ∧ IntRow (· < w'.heap.size) w' (.slice pa l.length ca) l ∧ Below w.heap.size w w' := by
  subst hl
  refine (specScopesOf_any w.heap.size R v w (Nat.le_refl _) hv hsz).mono ?_
  rintro e w' ⟨v', rfl, hr, hb⟩
  have hr2 := hr
  obtain ⟨pa, ca, rfl, _⟩ := hr
  exact ⟨pa, ca, rfl, hr2, hb⟩
set_option maxRecDepth 100000 in
set_option maxHeartbeats 2000000 in
theorem mxSame_same (l : List Int) (pa pb : Option Addr) (ca cb : Nat) (w : World) (ha : IntRow (· < w.heap.size) w (.slice pa l.length ca) l) (hb : IntRow (· < w.heap.size) w (.slice pb l.length cb) l) (hl : l.length ≤ 1000) :
    Calls Try.prog 39 #[.slice pa l.length ca, .slice pb l.length cb] w fun e w' => e = .returned (.bool true) ∧ Below w.heap.size w w' := by
  have HA := Lib.hid ha
  have HB := Lib.hid hb
  clear ha hb
  go_enter Try.func39, Try.ntmps39
  go_wp2_with fail
  go_loopw [5] (fun i wr => ∃ j : Nat, i = .int .i64 j ∧ j ≤ l.length ∧ Below w.heap.size w wr) (fun i _ => l.length - (intOf i).toNat)
  case atStart => exact ⟨0, rfl, Nat.zero_le _, Below.refl _ _⟩
  case round =>
    obtain ⟨j, rfl, hj, hbl⟩ := hrel
    have HBL := Lib.hid hbl
    by_cases hlt : j < l.length
    · obtain ⟨ab, ao, rfl, hab, hac, hca⟩ := row_at HA.out j hlt
      obtain ⟨bb, bo, rfl, hbb, hbc, hcb⟩ := row_at HB.out j hlt
      have hca2 := cell_later' (hbl.mono (Nat.le_refl _)) hca
      have hcb2 := cell_later' (hbl.mono (Nat.le_refl _)) hcb
      have hltI : (j : Int) < (l.length : Int) := by omega
      have hj0 : (0 : Int) ≤ (j : Int) := by omega
      obtain ⟨n, hn⟩ : ∃ n, l[j] = n := ⟨_, rfl⟩
      rw [hn] at hca2 hcb2
      have hne : (n != n) = false := by simp
      clear hca hcb hn hbl
      go_wp2_with fail
      have hS0 : (fun WS : World => WS.cell? ⟨ab, ao + j, none⟩ = some (.int .i64 n) ∧ WS.cell? ⟨bb, bo + j, none⟩ = some (.int .i64 n)) wr.drew := ⟨hca2, hcb2⟩
      refine upto_begin (fun WS : World => WS.cell? ⟨ab, ao + j, none⟩ = some (.int .i64 n) ∧ WS.cell? ⟨bb, bo + j, none⟩ = some (.int .i64 n)) 9 (by kernel_rfl) ?_
      refine upto_take (i := 0) (d := some 17) (v := ?_) rfl rfl (by kernel_rfl) (by kernel_rfl) (by kernel_rfl) (by kernel_rfl) (fun _ _ _ h => h) (Or.inl ⟨by rfl, ?_⟩) hS0 ?_
      rotate_left
      · (intro wS hSw; obtain ⟨_, _⟩ := hSw; go_simp; try with_reducible rfl)
      try simp only [Act.put, List.setIfInBounds_toArray, List.set_cons_zero, List.set_cons_succ]
      refine upto_take (i := 1) (d := some 18) (v := ?_) rfl rfl (by kernel_rfl) (by kernel_rfl) (by kernel_rfl) (by kernel_rfl) (fun _ _ _ h => h) (Or.inl ⟨by rfl, ?_⟩) hS0 ?_
      rotate_left
      · (intro wS hSw; obtain ⟨_, _⟩ := hSw; go_simp; try with_reducible rfl)
      try simp only [Act.put, List.setIfInBounds_toArray, List.set_cons_zero, List.set_cons_succ]
      refine upto_take (i := 2) (d := some 19) (v := ?_) rfl rfl (by kernel_rfl) (by kernel_rfl) (by kernel_rfl) (by kernel_rfl) (fun _ _ _ h => h) (Or.inl ⟨by rfl, ?_⟩) hS0 ?_
      rotate_left
      · (intro wS hSw; obtain ⟨_, _⟩ := hSw; go_simp; try with_reducible rfl)
      try simp only [Act.put, List.setIfInBounds_toArray, List.set_cons_zero, List.set_cons_succ]
      refine upto_take (i := 3) (d := some 20) (v := ?_) rfl rfl (by kernel_rfl) (by kernel_rfl) (by kernel_rfl) (by kernel_rfl) (fun _ _ _ h => h) (Or.inl ⟨by rfl, ?_⟩) hS0 ?_
      rotate_left
      · (intro wS hSw; obtain ⟨_, _⟩ := hSw; go_simp; try with_reducible rfl)
      try simp only [Act.put, List.setIfInBounds_toArray, List.set_cons_zero, List.set_cons_succ]
      refine upto_take (i := 4) (d := some 21) (v := ?_) rfl rfl (by kernel_rfl) (by kernel_rfl) (by kernel_rfl) (by kernel_rfl) (fun _ _ _ h => h) (Or.inl ⟨by rfl, ?_⟩) hS0 ?_
      rotate_left
      · (intro wS hSw; obtain ⟨_, _⟩ := hSw; go_simp; try with_reducible rfl)
      try simp only [Act.put, List.setIfInBounds_toArray, List.set_cons_zero, List.set_cons_succ]
      refine upto_take (i := 5) (d := some 22) (v := ?_) rfl rfl (by kernel_rfl) (by kernel_rfl) (by kernel_rfl) (by kernel_rfl) (fun _ _ _ h => h) (Or.inl ⟨by rfl, ?_⟩) hS0 ?_
      rotate_left
      · (intro wS hSw; obtain ⟨_, _⟩ := hSw; go_simp; try with_reducible rfl)
      try simp only [Act.put, List.setIfInBounds_toArray, List.set_cons_zero, List.set_cons_succ]
      refine upto_take (i := 6) (d := some 23) (v := ?_) rfl rfl (by kernel_rfl) (by kernel_rfl) (by kernel_rfl) (by kernel_rfl) (fun _ _ _ h => h) (Or.inl ⟨by rfl, ?_⟩) hS0 ?_
      rotate_left
      · (intro wS hSw; obtain ⟨_, _⟩ := hSw; go_simp; try with_reducible rfl)
      try simp only [Act.put, List.setIfInBounds_toArray, List.set_cons_zero, List.set_cons_succ]
      refine upto_take (i := 7) (d := some 24) (v := ?_) rfl rfl (by kernel_rfl) (by kernel_rfl) (by kernel_rfl) (by kernel_rfl) (fun _ _ _ h => h) (Or.inl ⟨by rfl, ?_⟩) hS0 ?_
      rotate_left
      · (intro wS hSw; obtain ⟨_, _⟩ := hSw; go_simp; try with_reducible rfl)
      try simp only [Act.put, List.setIfInBounds_toArray, List.set_cons_zero, List.set_cons_succ]
      refine upto_take (i := 8) (d := some 25) (v := ?_) rfl rfl (by kernel_rfl) (by kernel_rfl) (by kernel_rfl) (by kernel_rfl) (fun _ _ _ h => h) (Or.inl ⟨by rfl, ?_⟩) hS0 ?_
      rotate_left
      · (intro wS hSw; obtain ⟨_, _⟩ := hSw; go_simp; try with_reducible rfl)
      try simp only [Act.put, List.setIfInBounds_toArray, List.set_cons_zero, List.set_cons_succ]
      have HBD : Hid (Below w.heap.size w wr.drew) := HBL.out.drew
      clear hS0 HBL
      refine upto_done (by kernel_rfl) ?_ _
      go_wp2_with fail
      go_roundw
      case rel => exact ⟨j + 1, by go_num, by omega, HBD.out⟩
      case measure => simp [intOf]; omega
    · have hnb : ¬ ((j : Int) < (l.length : Int)) := by omega
      clear hbl
      go_wp2_with fail
      go_ret
      exact ⟨rfl, HBL.out⟩
set_option maxRecDepth 100000 in
set_option maxHeartbeats 1000000 in
theorem drawScopesOf_law (v : Value) (n : Nat) (w : World) (h : Bytes w v n) : Calls Try.prog 38 #[v] w fun e w' =>
    ∃ f f0 f1 f2 f3, e = .returned (.agg #[.int .i64 f.kind, .string f.name, .int .i64 f.n, .slice f0 f.scopes.length f1, .slice f2 f.kids.length f3]) ∧ InV (fun k => w.heap.size ≤ k ∧ k < w'.heap.size) w' f (.agg #[.int .i64 f.kind, .string f.name, .int .i64 f.n, .slice f0 f.scopes.length f1, .slice f2 f.kids.length f3]) ∧ Slim 121 13 5 f ∧ Below w.heap.size w w' := by
  obtain ⟨a, cap, rfl, hcap, hmax, hrow⟩ := h
  have hb0 := below_alloc w (.cells #[.int .i64 0, .string { data := #[] }, .int .i64 0, .slice none 0 0, .slice none 0 0] 27)
  have HB0 := Lib.hid hb0
  have hz0 := heap_alloc_new w (.cells #[.int .i64 0, .string { data := #[] }, .int .i64 0, .slice none 0 0, .slice none 0 0] 27)
  have HZ0 := Lib.hid hz0
  have HBY : Hid (Bytes (w.alloc (.cells #[.int .i64 0, .string { data := #[] }, .int .i64 0, .slice none 0 0, .slice none 0 0] 27)) (.slice a n cap) n) := ⟨a, cap, rfl, hcap, hmax, hrow.later (same_below hb0) fun k hk => by have := hb0.size; omega⟩
  clear hb0 hz0 hrow
  go_enter Try.func38, Try.ntmps38
  go_wp2_with fail
  refine (l2Case_any _ n _ HBY.out).mono ?_
  rintro e w1 ⟨f, f0, f1, f2, f3, scope, rfl, hin, hsl, hsc, hb1⟩
  have hs1 : w.heap.size + 1 ≤ w1.heap.size := by have := hb1.size; simpa using this
  have hb2 := below_alloc w1 (.cells #[.int .i64 f.kind, .string f.name, .int .i64 f.n, .slice f0 f.scopes.length f1, .slice f2 f.kids.length f3] 27)
  have hz1 := (hb2.block _ (by omega)).trans ((hb1.block _ (by simp)).trans HZ0.out)
  have HIN : Hid (InV (fun k => w.heap.size < k ∧ k < w1.heap.size) (w1.alloc (.cells #[.int .i64 f.kind, .string f.name, .int .i64 f.n, .slice f0 f.scopes.length f1, .slice f2 f.kids.length f3] 27)) f (.agg #[.int .i64 f.kind, .string f.name, .int .i64 f.n, .slice f0 f.scopes.length f1, .slice f2 f.kids.length f3])) := InV.later (Same.of_below hb2 fun k hk => hk.2) _ _ (InV.mono (fun k hk => by have h1 := hk.1; rw [size_alloc'] at h1; exact ⟨by omega, hk.2⟩) _ _ hin)
  have HB1 : Hid (Below w.heap.size w (w1.alloc (.cells #[.int .i64 f.kind, .string f.name, .int .i64 f.n, .slice f0 f.scopes.length f1, .slice f2 f.kids.length f3] 27))) := (HB0.out.trans (hb1.mono (by simp))).trans (hb2.mono (by omega))
  have HSL := Lib.hid hsl
  have hz : (w1.alloc (.cells #[.int .i64 f.kind, .string f.name, .int .i64 f.n, .slice f0 f.scopes.length f1, .slice f2 f.kids.length f3] 27)).heap.size = w1.heap.size + 1 := size_alloc' _ _
  have HZS := Lib.hid hz
  obtain ⟨r0, r1, r2, r3, r4, t0, t1, t2, t3, t4⟩ := zeroFacts hz1
  have HTH := Lib.hid (zeroThere hz1)
  clear hin hsl hsc hb1 hz1 hb2 hz
  go_wp2_with fail
  obtain ⟨z0, z1, z2, z3, z4⟩ := set5_in (w1.alloc (.cells #[.int .i64 f.kind, .string f.name, .int .i64 f.n, .slice f0 f.scopes.length f1, .slice f2 f.kids.length f3] 27)) w.heap.size 0 (.int .i64 f.kind) (.string f.name) (.int .i64 f.n) (.slice f0 f.scopes.length f1) (.slice f2 f.kids.length f3) HTH.out
  have hz5 := set5_size (w1.alloc (.cells #[.int .i64 f.kind, .string f.name, .int .i64 f.n, .slice f0 f.scopes.length f1, .slice f2 f.kids.length f3] 27)) w.heap.size 0 (.int .i64 f.kind) (.string f.name) (.int .i64 f.n) (.slice f0 f.scopes.length f1) (.slice f2 f.kids.length f3)
  have hbe5 := set5_below HB1.out (b := w.heap.size) (Nat.le_refl _) 0 (.int .i64 f.kind) (.string f.name) (.int .i64 f.n) (.slice f0 f.scopes.length f1) (.slice f2 f.kids.length f3)
  have hin5 : InV (fun k => w.heap.size ≤ k ∧ k < (set5 (w1.alloc (.cells #[.int .i64 f.kind, .string f.name, .int .i64 f.n, .slice f0 f.scopes.length f1, .slice f2 f.kids.length f3] 27)) w.heap.size 0 (.int .i64 f.kind) (.string f.name) (.int .i64 f.n) (.slice f0 f.scopes.length f1) (.slice f2 f.kids.length f3)).heap.size) (set5 (w1.alloc (.cells #[.int .i64 f.kind, .string f.name, .int .i64 f.n, .slice f0 f.scopes.length f1, .slice f2 f.kids.length f3] 27)) w.heap.size 0 (.int .i64 f.kind) (.string f.name) (.int .i64 f.n) (.slice f0 f.scopes.length f1) (.slice f2 f.kids.length f3)) f (.agg #[.int .i64 f.kind, .string f.name, .int .i64 f.n, .slice f0 f.scopes.length f1, .slice f2 f.kids.length f3]) := InV.mono (fun k hk => by rw [hz5, HZS.out]; omega) _ _ (InV.later (fun k hk => set5_block _ _ _ _ _ _ _ _ (by omega)) _ _ HIN.out)
  unfold set5 at z0 z1 z2 z3 z4 hbe5 hin5
  simp only [Nat.zero_add] at z0 z1 z2 z3 z4 hbe5 hin5
  refine bodyPost_ret (v := .agg #[.int .i64 f.kind, .string f.name, .int .i64 f.n, .slice f0 f.scopes.length f1, .slice f2 f.kids.length f3]) (by simp [results, Try.results38, go_sem, z0, z1, z2, z3, z4]) rfl ?_
  exact ⟨f, f0, f1, f2, f3, rfl, hin5, HSL.out, hbe5⟩
theorem scopes_up {f : Fm} (h : formB f = true) (j : Nat) (hj : j < (scopesOf f).length) (h1 : 1 ≤ j) : ((scopesOf f)[j] ≤ (scopesOf f)[j - 1]) = False := by
  have hg : GoodS (scopesOf f) := by
    unfold scopesOf
    rw [if_pos h]
    exact GoodS.fold f.pre goodS_nil fun g hg => (valid_pre h hg).1
  have h2 : (scopesOf f)[j - 1] < (scopesOf f)[j] := List.pairwise_iff_getElem.1 hg.1 (j - 1) j (by omega) hj (by omega)
  exact eq_false (by omega)
theorem scopes_kid {f y : Fm} (h : formB f = true) (hy : y ∈ f.kids) : withinB (scopesOf y) (scopesOf f) = true := by
  rw [withinB_iff]
  intro x hx
  rw [mem_scopesOf (kid_valid h hy)] at hx
  obtain ⟨g, hg, hx⟩ := hx
  rw [mem_scopesOf h]
  exact ⟨g, by rw [pre_eq]; exact List.mem_cons_of_mem _ (mem_preAll'.2 ⟨y, hy, hg⟩), hx⟩
theorem scopes_name {f : Fm} (h : formB f = true) (hk : f.kind = 1) : scopesOf f = f.scopes := by
  have hkids : f.kids = [] := by
    cases f with
    | mk k nm n sc ks =>
      have h1 := formB_isB h
      simp only [Fm.kind] at hk
      subst hk
      unfold isB at h1
      rw [if_pos rfl] at h1
      simp only [Bool.and_eq_true] at h1
      show ks = []
      simpa using h1.2
  have hs := (valid_pre h (g := f) (by rw [pre_eq]; simp)).1
  have hg : GoodS (scopesOf f) := by
    unfold scopesOf
    rw [if_pos h]
    exact GoodS.fold f.pre goodS_nil fun g hg => (valid_pre h hg).1
  refine ascL_ext hg.1 (ascL_of_scopesB hs) fun x => ?_
  rw [mem_scopesOf h, pre_eq, hkids]
  simp [preAll]
end Go.Proofs.Ytmakaoomdnlebaa
