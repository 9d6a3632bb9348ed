/- What laws on scopes call, told in one way. -/
import Derived.Test.YtmakaoomdnlebaaDrawCase
import Derived.Test.YtmakaoomdnlebaaImplScope
import Derived.Test.YtmakaoomdnlebaaSpecScope
import Derived.Test.YtmakaoomdnlebaaImplSame
import Derived.Test.YtmakaoomdnlebaaNameIs
import Derived.Test.YtmakaoomdnlebaaEnds
import Derived.Test.YtmakaoomdnlebaaScopeLaw
namespace Go.Proofs.Ytmakaoomdnlebaa
open Go.RowKit
set_option linter.unusedVariables false
set_option linter.unusedSimpArgs false
/-- what a call leaves that makes a form and says whether it did -/
def FlagPost (R : Fm) (ok : Bool) (w : World) (e : Ending) (w' : World) : Prop :=
  ∃ sa scap a cap, e = .returned (.tuple #[.agg #[.int .i64 R.kind, .string R.name, .int .i64 R.n, .slice sa R.scopes.length scap, .slice a R.kids.length cap], .bool ok]) ∧ InV (fun k => w.heap.size ≤ k ∧ k < w'.heap.size) w' R (.agg #[.int .i64 R.kind, .string R.name, .int .i64 R.n, .slice sa R.scopes.length scap, .slice a R.kids.length cap]) ∧ EndlessAt (.agg #[.int .i64 R.kind, .string R.name, .int .i64 R.n, .slice sa R.scopes.length scap, .slice a R.kids.length cap]) w' ∧ Below w.heap.size w w'
theorem FlagPost.of_own {R : Fm} {ok : Bool} {w w' : World} {e : Ending} (hc : R.count ≤ 4294967296) (h : OwnPost R ok w e w') : FlagPost R ok w e w' := by
  obtain ⟨sa, scap, a, cap, bs, rfl, hown, hnew, hpl, hb⟩ := h
  exact ⟨sa, scap, a, cap, rfl, OwnV.inV R _ bs (fun c hm => hnew.2 c hm) hown, endlessAt_own R _ bs w' hown hnew.1 (fun c hm => (hnew.2 c hm).2) hpl hc, hb⟩
theorem afterF_count (way n : Int) (f : Fm) : (afterF way n f).count ≤ f.count := by
  have := f.count_pos
  unfold afterF
  split
  · rw [chg_count]; exact Nat.le_refl _
  · simp [zeroForm, Fm.count, countAll]; omega
theorem afterF_eq {way n : Int} {f R : Fm} {ok : Bool} (hok : okF2 way n f = ok) (hR : afterF way n f = R) : (if ok = true then f.chg (chgW way n) else zeroForm) = R := by
  rw [← hR, ← hok]; rfl
theorem afterF_eq2 {way n : Int} {comb : List Int → List Int → List Int} {f R : Fm} {ok : Bool} (hone : doneB f (f.chg (chgW way n)) n = redB comb [n] f ∧ (redB comb [n] f = true → f.chg (chgW way n) = f.chg (dressF comb [n])))
    (hok : okF2 way n f = ok) (hR : afterF way n f = R) : redB comb [n] f = ok ∧ (if ok = true then f.chg (dressF comb [n]) else zeroForm) = R := by
  have h1 : redB comb [n] f = ok := hone.1.symm.trans hok
  refine ⟨h1, ?_⟩
  rw [← afterF_eq hok hR]
  cases ok with
  | false => rfl
  | true => rw [if_pos rfl, if_pos rfl, hone.2 h1]
theorem valid_sz {f : Fm} (hf : formB f = true) : f.sz ≤ 1048576 := by
  have h := dress_szT (ns := []) rfl f hf 0
  rwa [List.take_zero, dress_start] at h
theorem after_sz (way n : Int) (f : Fm) : (afterF way n f).sz ≤ 1048576 := by
  unfold afterF
  split
  · rename_i h
    exact valid_sz (doneB_parts h).2.2
  · show zeroForm.sz ≤ 1048576
    decide
theorem after_valid {way n : Int} {f R : Fm} (h : okF2 way n f = true) (hR : afterF way n f = R) : formB f = true ∧ (1 ≤ n ∧ n ≤ 99) ∧ formB R = true := by
  obtain ⟨h1, h2, h3⟩ := doneB_parts h
  exact ⟨h1, h2, by rw [← hR, afterF_ok h]; exact h3⟩
theorem gen_upto {P : Program} {md : Region.Mode} {ops : Array Oper} {Q : Exit → Act → World → Prop} {S : World → Prop} {L fuel : Nat} {listed : Array Bool} {a : Act} {W : World}
    (h : ∀ W', W' = W → anyUpto P md ops Q S L fuel listed a W') : anyUpto P md ops Q S L fuel listed a W := h W rfl
theorem box_lit (w : World) (f : Fm) (i : Nat) (sa a : Option Addr) (scap cap : Nat) (t : TypeId) (hi : i = w.heap.size) :
    FormBox (w.alloc (.cells #[.int .i64 f.kind, .string f.name, .int .i64 f.n, .slice sa f.scopes.length scap, .slice a f.kids.length cap] t)) i f sa scap a cap := by
  subst hi
  exact FormBox.fresh w f sa a scap cap t
theorem row_lit (w : World) (T : TypeId) (l : List Int) (i : Nat) (hl : l.length ≤ 1000) (hb : ∀ n ∈ l, 0 ≤ n ∧ n ≤ 100) (hi : i = w.heap.size) :
    IntRow (· < (w.alloc (.cells (l.map (Value.int .i64)).toArray T)).heap.size) (w.alloc (.cells (l.map (Value.int .i64)).toArray T)) (.slice (some ⟨i, 0, none⟩) l.length l.length) l := by
  subst hi
  exact (row_new w T l hl fun n hn => by have := hb n hn; omega).mono fun k hk => by rw [size_alloc']; omega
theorem valid_end {f : Fm} {v : Value} {w : World} (hf : formB f = true) (hv : InV (· < w.heap.size) w f v) : EndlessAt v w := endlessAt_valid f hf w.heap.size v w (Nat.le_refl _) hv
theorem inv_up {f : Fm} {v : Value} {w w' : World} (h : InV (· < w.heap.size) w f v) (hb : Below w.heap.size w w') : InV (· < w'.heap.size) w' f v :=
  InV.mono (fun k hk => Nat.lt_of_lt_of_le hk hb.size) _ _ (InV.later (same_below hb) _ _ h)
theorem irow_up {l : List Int} {v : Value} {w w' : World} (h : IntRow (· < w.heap.size) w v l) (hb : Below w.heap.size w w') : IntRow (· < w'.heap.size) w' v l :=
  (h.later (same_below hb)).mono fun k hk => Nat.lt_of_lt_of_le hk hb.size
theorem bytes_up {n : Nat} {v : Value} {w w' : World} (h : Bytes w v n) (hb : Below w.heap.size w w') : Bytes w' v n := by
  obtain ⟨a, cap, e, h1, h2, h3⟩ := h
  exact ⟨a, cap, e, h1, h2, h3.later (same_below hb) fun k hk => Nat.lt_of_lt_of_le hk hb.size⟩
theorem implAddScope_law (f : Fm) (v : Value) (n : Int) (w : World) (hv : InV (· < w.heap.size) w f v) (hsz : f.sz ≤ 1048576) (hn : 0 ≤ n ∧ n ≤ 100) (ok : Bool) (R : Fm) (hok : okF2 0 n f = ok) (hR : afterF 0 n f = R) :
    Calls Try.prog 23 #[v, .int .i64 n] w (FlagPost R ok w) := by
  have h := afterF_eq2 (same_one (way := 0) (comb := fun l g => uniqL (l ++ g)) (n := n) (add_one n) f) hok hR
  refine (implAddScope_any f v n w hv hsz (by omega) ok R h.1 h.2).mono fun e w' hp => FlagPost.of_own ?_ hp
  have h1 := afterF_count 0 n f
  have h2 := f.count_le
  rw [hR] at h1
  omega
theorem specAddScope_law (f : Fm) (v : Value) (n : Int) (w : World) (hv : InV (· < w.heap.size) w f v) (hsz : f.sz ≤ 1048576) (hn : 0 ≤ n ∧ n ≤ 100) (ok : Bool) (R : Fm) (hok : okF2 0 n f = ok) (hR : afterF 0 n f = R) :
    Calls Try.prog 25 #[v, .int .i64 n] w fun e w' => ∃ sa scap a cap, e = .returned (.tuple #[.agg #[.int .i64 R.kind, .string R.name, .int .i64 R.n, .slice sa R.scopes.length scap, .slice a R.kids.length cap], .bool ok]) ∧ InV (fun k => w.heap.size ≤ k ∧ k < w'.heap.size) w' R (.agg #[.int .i64 R.kind, .string R.name, .int .i64 R.n, .slice sa R.scopes.length scap, .slice a R.kids.length cap]) ∧ Below w.heap.size w w' := by
  refine (specAddScope_any w.heap.size f v n w (Nat.le_refl _) hv hsz (by omega) ok R hok (afterF_eq hok hR)).mono ?_
  rintro e w' ⟨u, rfl, hu, hb⟩
  obtain ⟨sa, scap, a, cap, rfl⟩ := hu.form
  exact ⟨sa, scap, a, cap, rfl, hu, hb⟩
set_option maxRecDepth 100000 in
set_option maxHeartbeats 1000000 in
theorem drawAddScope_law (v : Value) (n : Nat) (w : World) (h : Bytes w v n) : Calls Try.prog 24 #[v] w (CasePost w) := by
  obtain ⟨a, cap, rfl, hcap, hmax, hrow⟩ := h
  have hb0 := below_alloc w (.cells #[.int .i64 0, .string { data := #[] }, .int .i64 0, .slice none 0 0, .slice none 0 0] 27)
  have HB0 := Lib.hid hb0
  have hz0 := heap_alloc_new w (.cells #[.int .i64 0, .string { data := #[] }, .int .i64 0, .slice none 0 0, .slice none 0 0] 27)
  have HZ0 := Lib.hid hz0
  have HBY : Hid (Bytes (w.alloc (.cells #[.int .i64 0, .string { data := #[] }, .int .i64 0, .slice none 0 0, .slice none 0 0] 27)) (.slice a n cap) n) := ⟨a, cap, rfl, hcap, hmax, hrow.later (same_below hb0) fun k hk => by have := hb0.size; omega⟩
  clear hb0 hz0 hrow
  go_enter Try.func24, Try.ntmps24
  go_wp2_with fail
  refine (l2Case_any _ n _ HBY.out).mono ?_
  rintro e w1 ⟨f, sa, scap, a1, cap1, scope, rfl, hin, hsl, hsc, hb1⟩
  have hs1 : w.heap.size + 1 ≤ w1.heap.size := by have := hb1.size; simpa using this
  have hz1 := (hb1.block _ (by simp)).trans HZ0.out
  obtain ⟨r0, r1, r2, r3, r4, t0, t1, t2, t3, t4⟩ := zeroFacts hz1
  have HTH := Lib.hid (zeroThere hz1)
  have HIN : Hid (InV (fun k => w.heap.size < k ∧ k < w1.heap.size) w1 f (.agg #[.int .i64 f.kind, .string f.name, .int .i64 f.n, .slice sa f.scopes.length scap, .slice a1 f.kids.length cap1])) := InV.mono (fun k hk => by have h1 := hk.1; rw [size_alloc'] at h1; exact ⟨by omega, hk.2⟩) _ _ hin
  have HB1 : Hid (Below w.heap.size w w1) := HB0.out.trans (hb1.mono (by simp))
  have HSL := Lib.hid hsl
  have HSC := Lib.hid hsc
  clear hin hsl hsc hb1 hz1
  go_wp2_with fail
  obtain ⟨z0, z1, z2, z3, z4⟩ := set5_in w1 w.heap.size 0 (.int .i64 f.kind) (.string f.name) (.int .i64 f.n) (.slice sa f.scopes.length scap) (.slice a1 f.kids.length cap1) HTH.out
  have hz5 := set5_size w1 w.heap.size 0 (.int .i64 f.kind) (.string f.name) (.int .i64 f.n) (.slice sa f.scopes.length scap) (.slice a1 f.kids.length cap1)
  have hbe5 := set5_below HB1.out (b := w.heap.size) (Nat.le_refl _) 0 (.int .i64 f.kind) (.string f.name) (.int .i64 f.n) (.slice sa f.scopes.length scap) (.slice a1 f.kids.length cap1)
  have hin5 : InV (fun k => w.heap.size ≤ k ∧ k < (set5 w1 w.heap.size 0 (.int .i64 f.kind) (.string f.name) (.int .i64 f.n) (.slice sa f.scopes.length scap) (.slice a1 f.kids.length cap1)).heap.size) (set5 w1 w.heap.size 0 (.int .i64 f.kind) (.string f.name) (.int .i64 f.n) (.slice sa f.scopes.length scap) (.slice a1 f.kids.length cap1)) f (.agg #[.int .i64 f.kind, .string f.name, .int .i64 f.n, .slice sa f.scopes.length scap, .slice a1 f.kids.length cap1]) := InV.mono (fun k hk => by rw [hz5]; omega) _ _ (InV.later (fun k hk => set5_block _ _ _ _ _ _ _ _ (by omega)) _ _ HIN.out)
  unfold set5 at z0 z1 z2 z3 z4 hbe5 hin5
  simp only [Nat.zero_add] at z0 z1 z2 z3 z4 hbe5 hin5
  refine bodyPost_ret (v := .tuple #[.agg #[.int .i64 f.kind, .string f.name, .int .i64 f.n, .slice sa f.scopes.length scap, .slice a1 f.kids.length cap1], .int .i64 scope]) (by simp [results, Try.results24, go_sem, z0, z1, z2, z3, z4]) rfl ?_
  exact ⟨f, sa, scap, a1, cap1, scope, rfl, hin5, HSL.out, HSC.out, hbe5⟩
theorem implFlipScope_law (f : Fm) (v : Value) (n : Int) (w : World) (hv : InV (· < w.heap.size) w f v) (hsz : f.sz ≤ 1048576) (hn : 0 ≤ n ∧ n ≤ 100) (ok : Bool) (R : Fm) (hok : okF2 1 n f = ok) (hR : afterF 1 n f = R) :
    Calls Try.prog 20 #[v, .int .i64 n] w (FlagPost R ok w) := by
  have h := afterF_eq2 (same_one (way := 1) (comb := symL) (n := n) (flip_one n) f) hok hR
  refine (implFlipScope_any f v n w hv hsz (by omega) ok R h.1 h.2).mono fun e w' hp => FlagPost.of_own ?_ hp
  have h1 := afterF_count 1 n f
  have h2 := f.count_le
  rw [hR] at h1
  omega
theorem specFlipScope_law (f : Fm) (v : Value) (n : Int) (w : World) (hv : InV (· < w.heap.size) w f v) (hsz : f.sz ≤ 1048576) (hn : 0 ≤ n ∧ n ≤ 100) (ok : Bool) (R : Fm) (hok : okF2 1 n f = ok) (hR : afterF 1 n f = R) :
    Calls Try.prog 21 #[v, .int .i64 n] w fun e w' => ∃ sa scap a cap, e = .returned (.tuple #[.agg #[.int .i64 R.kind, .string R.name, .int .i64 R.n, .slice sa R.scopes.length scap, .slice a R.kids.length cap], .bool ok]) ∧ InV (fun k => w.heap.size ≤ k ∧ k < w'.heap.size) w' R (.agg #[.int .i64 R.kind, .string R.name, .int .i64 R.n, .slice sa R.scopes.length scap, .slice a R.kids.length cap]) ∧ Below w.heap.size w w' := by
  refine (specFlipScope_any w.heap.size f v n w (Nat.le_refl _) hv hsz (by omega) ok R hok (afterF_eq hok hR)).mono ?_
  rintro e w' ⟨u, rfl, hu, hb⟩
  obtain ⟨sa, scap, a, cap, rfl⟩ := hu.form
  exact ⟨sa, scap, a, cap, rfl, hu, hb⟩
set_option maxRecDepth 100000 in
set_option maxHeartbeats 1000000 in
theorem drawFlipScope_law (v : Value) (n : Nat) (w : World) (h : Bytes w v n) : Calls Try.prog 19 #[v] w (CasePost w) := by
  obtain ⟨a, cap, rfl, hcap, hmax, hrow⟩ := h
  have hb0 := below_alloc w (.cells #[.int .i64 0, .string { data := #[] }, .int .i64 0, .slice none 0 0, .slice none 0 0] 27)
  have HB0 := Lib.hid hb0
  have hz0 := heap_alloc_new w (.cells #[.int .i64 0, .string { data := #[] }, .int .i64 0, .slice none 0 0, .slice none 0 0] 27)
  have HZ0 := Lib.hid hz0
  have HBY : Hid (Bytes (w.alloc (.cells #[.int .i64 0, .string { data := #[] }, .int .i64 0, .slice none 0 0, .slice none 0 0] 27)) (.slice a n cap) n) := ⟨a, cap, rfl, hcap, hmax, hrow.later (same_below hb0) fun k hk => by have := hb0.size; omega⟩
  clear hb0 hz0 hrow
  go_enter Try.func19, Try.ntmps19
  go_wp2_with fail
  refine (l2Case_any _ n _ HBY.out).mono ?_
  rintro e w1 ⟨f, sa, scap, a1, cap1, scope, rfl, hin, hsl, hsc, hb1⟩
  have hs1 : w.heap.size + 1 ≤ w1.heap.size := by have := hb1.size; simpa using this
  have hz1 := (hb1.block _ (by simp)).trans HZ0.out
  obtain ⟨r0, r1, r2, r3, r4, t0, t1, t2, t3, t4⟩ := zeroFacts hz1
  have HTH := Lib.hid (zeroThere hz1)
  have HIN : Hid (InV (fun k => w.heap.size < k ∧ k < w1.heap.size) w1 f (.agg #[.int .i64 f.kind, .string f.name, .int .i64 f.n, .slice sa f.scopes.length scap, .slice a1 f.kids.length cap1])) := InV.mono (fun k hk => by have h1 := hk.1; rw [size_alloc'] at h1; exact ⟨by omega, hk.2⟩) _ _ hin
  have HB1 : Hid (Below w.heap.size w w1) := HB0.out.trans (hb1.mono (by simp))
  have HSL := Lib.hid hsl
  have HSC := Lib.hid hsc
  clear hin hsl hsc hb1 hz1
  go_wp2_with fail
  obtain ⟨z0, z1, z2, z3, z4⟩ := set5_in w1 w.heap.size 0 (.int .i64 f.kind) (.string f.name) (.int .i64 f.n) (.slice sa f.scopes.length scap) (.slice a1 f.kids.length cap1) HTH.out
  have hz5 := set5_size w1 w.heap.size 0 (.int .i64 f.kind) (.string f.name) (.int .i64 f.n) (.slice sa f.scopes.length scap) (.slice a1 f.kids.length cap1)
  have hbe5 := set5_below HB1.out (b := w.heap.size) (Nat.le_refl _) 0 (.int .i64 f.kind) (.string f.name) (.int .i64 f.n) (.slice sa f.scopes.length scap) (.slice a1 f.kids.length cap1)
  have hin5 : InV (fun k => w.heap.size ≤ k ∧ k < (set5 w1 w.heap.size 0 (.int .i64 f.kind) (.string f.name) (.int .i64 f.n) (.slice sa f.scopes.length scap) (.slice a1 f.kids.length cap1)).heap.size) (set5 w1 w.heap.size 0 (.int .i64 f.kind) (.string f.name) (.int .i64 f.n) (.slice sa f.scopes.length scap) (.slice a1 f.kids.length cap1)) f (.agg #[.int .i64 f.kind, .string f.name, .int .i64 f.n, .slice sa f.scopes.length scap, .slice a1 f.kids.length cap1]) := InV.mono (fun k hk => by rw [hz5]; omega) _ _ (InV.later (fun k hk => set5_block _ _ _ _ _ _ _ _ (by omega)) _ _ HIN.out)
  unfold set5 at z0 z1 z2 z3 z4 hbe5 hin5
  simp only [Nat.zero_add] at z0 z1 z2 z3 z4 hbe5 hin5
  refine bodyPost_ret (v := .tuple #[.agg #[.int .i64 f.kind, .string f.name, .int .i64 f.n, .slice sa f.scopes.length scap, .slice a1 f.kids.length cap1], .int .i64 scope]) (by simp [results, Try.results19, go_sem, z0, z1, z2, z3, z4]) rfl ?_
  exact ⟨f, sa, scap, a1, cap1, scope, rfl, hin5, HSL.out, HSC.out, hbe5⟩
theorem implDropScope_law (f : Fm) (v : Value) (n : Int) (w : World) (hv : InV (· < w.heap.size) w f v) (hsz : f.sz ≤ 1048576) (hn : 0 ≤ n ∧ n ≤ 100) (ok : Bool) (R : Fm) (hok : okF2 2 n f = ok) (hR : afterF 2 n f = R) :
    Calls Try.prog 22 #[v, .int .i64 n] w (FlagPost R ok w) := by
  have h := afterF_eq2 (same_one (way := 2) (comb := diffL) (n := n) (drop_one n) f) hok hR
  refine (implDropScope_any f v n w hv hsz (by omega) ok R h.1 h.2).mono fun e w' hp => FlagPost.of_own ?_ hp
  have h1 := afterF_count 2 n f
  have h2 := f.count_le
  rw [hR] at h1
  omega
theorem specDropScope_law (f : Fm) (v : Value) (n : Int) (w : World) (hv : InV (· < w.heap.size) w f v) (hsz : f.sz ≤ 1048576) (hn : 0 ≤ n ∧ n ≤ 100) (ok : Bool) (R : Fm) (hok : okF2 2 n f = ok) (hR : afterF 2 n f = R) :
    Calls Try.prog 31 #[v, .int .i64 n] w fun e w' => ∃ sa scap a cap, e = .returned (.tuple #[.agg #[.int .i64 R.kind, .string R.name, .int .i64 R.n, .slice sa R.scopes.length scap, .slice a R.kids.length cap], .bool ok]) ∧ InV (fun k => w.heap.size ≤ k ∧ k < w'.heap.size) w' R (.agg #[.int .i64 R.kind, .string R.name, .int .i64 R.n, .slice sa R.scopes.length scap, .slice a R.kids.length cap]) ∧ Below w.heap.size w w' := by
  refine (specDropScope_any w.heap.size f v n w (Nat.le_refl _) hv hsz (by omega) ok R hok (afterF_eq hok hR)).mono ?_
  rintro e w' ⟨u, rfl, hu, hb⟩
  obtain ⟨sa, scap, a, cap, rfl⟩ := hu.form
  exact ⟨sa, scap, a, cap, rfl, hu, hb⟩
set_option maxRecDepth 100000 in
set_option maxHeartbeats 1000000 in
theorem drawDropScope_law (v : Value) (n : Nat) (w : World) (h : Bytes w v n) : Calls Try.prog 30 #[v] w (CasePost w) := by
  obtain ⟨a, cap, rfl, hcap, hmax, hrow⟩ := h
  have hb0 := below_alloc w (.cells #[.int .i64 0, .string { data := #[] }, .int .i64 0, .slice none 0 0, .slice none 0 0] 27)
  have HB0 := Lib.hid hb0
  have hz0 := heap_alloc_new w (.cells #[.int .i64 0, .string { data := #[] }, .int .i64 0, .slice none 0 0, .slice none 0 0] 27)
  have HZ0 := Lib.hid hz0
  have HBY : Hid (Bytes (w.alloc (.cells #[.int .i64 0, .string { data := #[] }, .int .i64 0, .slice none 0 0, .slice none 0 0] 27)) (.slice a n cap) n) := ⟨a, cap, rfl, hcap, hmax, hrow.later (same_below hb0) fun k hk => by have := hb0.size; omega⟩
  clear hb0 hz0 hrow
  go_enter Try.func30, Try.ntmps30
  go_wp2_with fail
  refine (l2Case_any _ n _ HBY.out).mono ?_
  rintro e w1 ⟨f, sa, scap, a1, cap1, scope, rfl, hin, hsl, hsc, hb1⟩
  have hs1 : w.heap.size + 1 ≤ w1.heap.size := by have := hb1.size; simpa using this
  have hz1 := (hb1.block _ (by simp)).trans HZ0.out
  obtain ⟨r0, r1, r2, r3, r4, t0, t1, t2, t3, t4⟩ := zeroFacts hz1
  have HTH := Lib.hid (zeroThere hz1)
  have HIN : Hid (InV (fun k => w.heap.size < k ∧ k < w1.heap.size) w1 f (.agg #[.int .i64 f.kind, .string f.name, .int .i64 f.n, .slice sa f.scopes.length scap, .slice a1 f.kids.length cap1])) := InV.mono (fun k hk => by have h1 := hk.1; rw [size_alloc'] at h1; exact ⟨by omega, hk.2⟩) _ _ hin
  have HB1 : Hid (Below w.heap.size w w1) := HB0.out.trans (hb1.mono (by simp))
  have HSL := Lib.hid hsl
  have HSC := Lib.hid hsc
  clear hin hsl hsc hb1 hz1
  go_wp2_with fail
  obtain ⟨z0, z1, z2, z3, z4⟩ := set5_in w1 w.heap.size 0 (.int .i64 f.kind) (.string f.name) (.int .i64 f.n) (.slice sa f.scopes.length scap) (.slice a1 f.kids.length cap1) HTH.out
  have hz5 := set5_size w1 w.heap.size 0 (.int .i64 f.kind) (.string f.name) (.int .i64 f.n) (.slice sa f.scopes.length scap) (.slice a1 f.kids.length cap1)
  have hbe5 := set5_below HB1.out (b := w.heap.size) (Nat.le_refl _) 0 (.int .i64 f.kind) (.string f.name) (.int .i64 f.n) (.slice sa f.scopes.length scap) (.slice a1 f.kids.length cap1)
  have hin5 : InV (fun k => w.heap.size ≤ k ∧ k < (set5 w1 w.heap.size 0 (.int .i64 f.kind) (.string f.name) (.int .i64 f.n) (.slice sa f.scopes.length scap) (.slice a1 f.kids.length cap1)).heap.size) (set5 w1 w.heap.size 0 (.int .i64 f.kind) (.string f.name) (.int .i64 f.n) (.slice sa f.scopes.length scap) (.slice a1 f.kids.length cap1)) f (.agg #[.int .i64 f.kind, .string f.name, .int .i64 f.n, .slice sa f.scopes.length scap, .slice a1 f.kids.length cap1]) := InV.mono (fun k hk => by rw [hz5]; omega) _ _ (InV.later (fun k hk => set5_block _ _ _ _ _ _ _ _ (by omega)) _ _ HIN.out)
  unfold set5 at z0 z1 z2 z3 z4 hbe5 hin5
  simp only [Nat.zero_add] at z0 z1 z2 z3 z4 hbe5 hin5
  refine bodyPost_ret (v := .tuple #[.agg #[.int .i64 f.kind, .string f.name, .int .i64 f.n, .slice sa f.scopes.length scap, .slice a1 f.kids.length cap1], .int .i64 scope]) (by simp [results, Try.results30, go_sem, z0, z1, z2, z3, z4]) rfl ?_
  exact ⟨f, sa, scap, a1, cap1, scope, rfl, hin5, HSL.out, HSC.out, hbe5⟩
theorem implSame_law (f g : Fm) (v u : Value) (w : World) (hv : InV (· < w.heap.size) w f v) (hu : InV (· < w.heap.size) w g u) (hc : f.count ≤ 4294967296) (hend : EndlessAt v w) (ok : Bool) (hok : sameB f g = ok) :
    Calls Try.prog 18 #[v, u] w fun e w' => e = .returned (.bool ok) ∧ Below w.heap.size w w' := by
  rw [← hok]
  exact implSame_any w.heap.size f g v u w (Nat.le_refl _) hv hu hc hend
end Go.Proofs.Ytmakaoomdnlebaa
