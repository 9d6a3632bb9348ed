/- The contracts of the program's dots, searches in lists of forms, and lists of names. -/
import Derived.Test.YtbclgmabidjegaaMaPat
import Derived.Test.YtbclgmabidjegaaForms
import Derived.Test.YtbclgmabidjegaaName
import Derived.Test.YtbclgmabidjegaaVisits
namespace Go.Proofs.Ytbclgmabidjegaa
open Go.RowKit
set_option linter.unusedVariables false
set_option linter.unusedSimpArgs false
set_option maxRecDepth 100000 in
set_option maxHeartbeats 400000 in
theorem isDots_any (f : Fm) (sa : Option Addr) (scap : Nat) (a : Option Addr) (cap : Nat) (w : World) :
    Calls Try.prog 154 #[(.agg #[.int .i64 f.kind, .string f.name, .int .i64 f.n, .slice sa f.scopes.length scap, .slice a f.kids.length cap])] w fun e w' => e = .returned (.bool (dotsB f)) ∧ Below w.heap.size w w' := by
  cases hk : (f.kind == 1) with
  | false =>
    have HD : Hid (dotsB f = false) := by unfold Hid dotsB; rw [hk]; rfl
    go_enter Try.func154, Try.ntmps154
    go_wp2_with fail
    go_ret
    exact ⟨ret_bool HD.out.symm, below_alloc w _⟩
  | true =>
    have HD : Hid (dotsB f = (f.name.toList == [46, 46, 46])) := by unfold Hid dotsB; rw [hk]; rfl
    go_enter Try.func154, Try.ntmps154
    go_wp2_with fail
    go_ret
    exact ⟨ret_bool HD.out.symm, below_alloc w _⟩
set_option maxRecDepth 100000 in
set_option maxHeartbeats 400000 in
theorem isReserved_any (s : ByteArray) (w : World) :
    Calls Try.prog 195 #[.string s] w fun e w' => e = .returned (.bool (resB s)) ∧ w' = w := by
  cases h3 : (s.toList == [46, 46, 46]) with
  | true =>
    have HD : Hid (resB s = true) := by unfold Hid resB; rw [h3]; rfl
    go_enter Try.func195, Try.ntmps195
    go_wp2_with fail
    go_ret
    exact ⟨ret_bool HD.out.symm, rfl⟩
  | false =>
    have HD : Hid (resB s = (s.toList == [95])) := by unfold Hid resB; rw [h3]; rfl
    go_enter Try.func195, Try.ntmps195
    go_wp2_with fail
    go_ret
    exact ⟨ret_bool HD.out.symm, rfl⟩
set_option maxRecDepth 100000 in
set_option maxHeartbeats 1000000 in
theorem isRow_any (B : Nat) (ks : List Fm) (a : Option Addr) (cap j : Nat) (w : World) (hB : B ≤ w.heap.size) (hl : FormsIn (· < B) w a cap ks) (hj : j < ks.length) :
    Calls Try.prog 155 #[.slice a ks.length cap, .int .i64 j] w fun e w' => e = .returned (.bool (dotsAt ks (j + 1))) ∧ Below w.heap.size w w' := by
  obtain ⟨hlen, hmax, hrow⟩ := hl
  unfold maxLen at hmax
  by_cases hl2 : j + 1 < ks.length
  · rcases hrow with h0 | ⟨b, off, rfl, hbB, hr⟩
    · exfalso; rw [h0] at hj; simp at hj
    · obtain ⟨ga, gcap, ka, kcap, c0, c1, c2, c3, c4, hin⟩ := hr.at' (j + 1) hl2
      have hjl2 : (j : Int) + 1 < (ks.length : Int) := by omega
      have hja : (0 : Int) ≤ (j : Int) + 1 := by omega
      have HDA := Lib.hid (dotsAt_eq hl2)
      clear hin hr
      go_enter Try.func155, Try.ntmps155
      go_wp2_with fail
      refine (isDots_any ks[j + 1] ga gcap ka kcap w).mono ?_
      rintro e w1 ⟨rfl, hb1⟩
      have HB1 := Lib.hid hb1
      clear hb1 c0 c1 c2 c3 c4
      go_wp2_with fail
      go_ret
      exact ⟨ret_bool HDA.out.symm, HB1.out⟩
  · have hjl2 : ¬ ((j : Int) + 1 < (ks.length : Int)) := by omega
    have HDA := Lib.hid (dotsAt_end (ks := ks) (i := j + 1) (by omega))
    clear hrow
    go_enter Try.func155, Try.ntmps155
    go_wp2_with fail
    go_ret
    exact ⟨ret_bool HDA.out.symm, Below.refl _ _⟩
/-- what is asked of a function that tells forms -/
structure PredF (B gf : Nat) (lb : Array Value) (P : Fm → Bool) (ks : List Fm) (Ok : World → Prop) : Prop where
  eg : ∀ args w, (callFunc gf args).run Try.prog w = .ok (.enter gf args) w
  still : ∀ W W', Ok W → Below W.heap.size W W' → Ok W'
  calls : ∀ g ∈ ks, ∀ (v : Value) (W : World), B ≤ W.heap.size → InV (· < B) W g v → Ok W → Calls Try.prog gf (#[v] ++ lb) W fun e W' => e = .returned (.bool (P g)) ∧ Below W.heap.size W W'
/-- where the first one is -/
def Idx (P : Fm → Bool) (ks : List Fm) (r : Int) : Prop := (r = -1 ∧ ks.any P = false) ∨ ∃ (j : Nat) (h : j < ks.length), r = j ∧ P ks[j] = true ∧ (ks.take j).any P = false
theorem any_take_succ (P : Fm → Bool) (ks : List Fm) (j : Nat) (h : j < ks.length) : (ks.take (j + 1)).any P = ((ks.take j).any P || P ks[j]) := by
  rw [List.take_succ_eq_append_getElem h, List.any_append]
  simp
theorem Idx.some {P : Fm → Bool} {ks : List Fm} {r : Int} (h : Idx P ks r) : decide (r ≥ 0) = ks.any P := by
  rcases h with ⟨rfl, h⟩ | ⟨j, hj, rfl, h, _⟩
  · rw [h]; rfl
  · have h1 : ks.any P = true := List.any_eq_true.2 ⟨ks[j], List.getElem_mem hj, h⟩
    rw [h1, decide_eq_true (by omega)]
set_option maxRecDepth 100000 in
set_option maxHeartbeats 1000000 in
theorem indexFunc_any (B gf : Nat) (lb : Array Value) (P : Fm → Bool) (ks : List Fm) (Ok : World → Prop) (hp : PredF B gf lb P ks Ok) (a : Option Addr) (cap : Nat) (w : World) (hB : B ≤ w.heap.size) (hl : FormsIn (· < B) w a cap ks) (hok : Ok w) :
    Calls Try.prog 197 #[.slice a ks.length cap, .func (.func gf) #[] lb] w fun e w' => (∃ r, e = .returned (.int .i64 r) ∧ Idx P ks r) ∧ Below w.heap.size w w' := by
  obtain ⟨hlen, hmax, hrow⟩ := hl
  unfold maxLen at hmax
  have HROW := Lib.hid hrow
  have HP := Lib.hid hp
  have HOK := Lib.hid hok
  have heg := hp.eg
  clear hrow hp hok
  go_enter Try.func197, Try.ntmps197
  go_wp2_with fail
  go_loopw [8, 5] (fun i u wr => ∃ j : Nat, j ≤ ks.length ∧ i = .int .i64 j ∧ (ks.take j).any P = false ∧ Below w.heap.size w wr) (fun i _ _ => ks.length - (intOf i).toNat)
  case atStart => exact ⟨0, Nat.zero_le _, rfl, by simp, Below.refl _ _⟩
  case round =>
    obtain ⟨j, hj, rfl, hno, hb⟩ := hrel
    have HNO := Lib.hid hno
    have HB := Lib.hid hb
    have hsz := hb.size
    clear hno hb
    by_cases hlt : j < ks.length
    · rcases HROW.out with h0 | ⟨b, off, rfl, hbB, hr⟩
      · exfalso; rw [h0] at hlt; simp at hlt
      · obtain ⟨ga, gcap, ka, kcap, c0, c1, c2, c3, c4, hin⟩ := (hr.later (same_below (HB.out.mono hB)) b hbB).at' j hlt
        have HIN := Lib.hid hin
        have HNX := Lib.hid (any_take_succ P ks j hlt)
        have HMEM := Lib.hid (List.getElem_mem hlt)
        have hji : (0 : Int) ≤ (j : Int) := by omega
        have hjl : (j : Int) < (ks.length : Int) := by omega
        clear hin hr
        go_wp2_with fail
        refine (HP.out.calls ks[j] HMEM.out _ wr (by omega) HIN.out (HP.out.still _ _ HOK.out HB.out)).mono ?_
        rintro e w1 ⟨rfl, hb1⟩
        have HB1 : Hid (Below w.heap.size w w1) := HB.out.trans (hb1.mono hsz)
        clear hb1 c0 c1 c2 c3 c4
        cases hx : P ks[j] with
        | true =>
          have HY : Hid (Idx P ks j) := .inr ⟨j, hlt, rfl, hx, HNO.out⟩
          go_wp2_with fail
          go_ret
          exact ⟨⟨_, rfl, HY.out⟩, HB1.out⟩
        | false =>
          have HY : Hid ((ks.take (j + 1)).any P = false) := by unfold Hid; rw [HNX.out, HNO.out, hx]; rfl
          go_wp2_with fail
          go_roundw
          case rel => exact ⟨j + 1, by omega, by go_num, HY.out, HB1.out⟩
          case measure => simp [intOf]; omega
    · obtain rfl : j = ks.length := by omega
      have HY : Hid (Idx P ks (-1)) := .inl ⟨rfl, by have := HNO.out; rw [List.take_length] at this; exact this⟩
      go_wp2_with fail
      go_ret
      exact ⟨⟨_, rfl, HY.out⟩, HB.out⟩
set_option maxRecDepth 100000 in
set_option maxHeartbeats 1000000 in
theorem containsFunc_any (B gf : Nat) (lb : Array Value) (P : Fm → Bool) (ks : List Fm) (Ok : World → Prop) (hp : PredF B gf lb P ks Ok) (a : Option Addr) (cap : Nat) (w : World) (hB : B ≤ w.heap.size) (hl : FormsIn (· < B) w a cap ks) (hok : Ok w) :
    Calls Try.prog 181 #[.slice a ks.length cap, .func (.func gf) #[] lb] w fun e w' => e = .returned (.bool (ks.any P)) ∧ Below w.heap.size w w' := by
  have HP := Lib.hid hp
  have HL := Lib.hid hl
  have HOK := Lib.hid hok
  clear hp hl hok
  go_enter Try.func181, Try.ntmps181
  go_wp2_with fail
  refine (indexFunc_any B gf lb P ks Ok HP.out a cap w hB HL.out HOK.out).mono ?_
  rintro e w1 ⟨⟨r, rfl, hi⟩, hb1⟩
  have HI := Lib.hid hi.some
  have HB1 := Lib.hid hb1
  clear hi hb1
  go_wp2_with fail
  go_ret
  exact ⟨ret_bool HI.out, HB1.out⟩
/-- is one of these the same name? -/
def inN (ls : List Fm) (f : Fm) : Bool := ls.any fun g => sameNameB g f
theorem sameNameB_name {g f : Fm} (h : isNameB f = true) : sameNameB g f = sameB g f := by
  rw [sameNameB_spec]
  cases hs : sameB g f with
  | false => simp
  | true =>
    obtain rfl := sameB_eq hs
    unfold isNameB at h
    rw [Bool.and_eq_true] at h
    rw [h.1, h.2]
    rfl
theorem inN_inF {ls : List Fm} {f : Fm} (h : isNameB f = true) : inN ls f = inF ls f := by
  unfold inN inF
  congr 1
  funext g
  exact sameNameB_name h
set_option maxRecDepth 100000 in
set_option maxHeartbeats 1000000 in
theorem hasName1_pred (B nb : Nat) (ls : List Fm) (f : Fm) (sa : Option Addr) (scap : Nat) (a : Option Addr) (cap : Nat) (w0 : World) (hB : B ≤ w0.heap.size) (hv : InV (· < B) w0 f (.agg #[.int .i64 f.kind, .string f.name, .int .i64 f.n, .slice sa f.scopes.length scap, .slice a f.kids.length cap])) :
    PredF B 182 #[.pointer (some ⟨nb, 0, none⟩)] (fun g => sameNameB g f) ls (fun W => Below w0.heap.size w0 W ∧ FormBox W nb f sa scap a cap) := by
  refine ⟨enters_of Try.func182 (by kernel_rfl) rfl, fun W W' h hb => ⟨h.1.trans (hb.mono h.1.size), h.2.later hb⟩, ?_⟩
  rintro g _ v W hBW hin ⟨hbW, hbox⟩
  have HIN := Lib.hid hin
  have HV := Lib.hid hv
  have HBW := Lib.hid hbW
  have HBOX := Lib.hid hbox
  obtain ⟨ga, gcap, ka, kcap, rfl⟩ := hin.form
  have hnb : nb < W.heap.size := cell_lt hbox.1
  have hb0 := below_alloc W (.cells #[.int .i64 g.kind, .string g.name, .int .i64 g.n, .slice ga g.scopes.length gcap, .slice ka g.kids.length kcap] 33)
  obtain ⟨x0, x1, x2, x3, x4⟩ := HBOX.out.later hb0
  have HB0 := Lib.hid hb0
  clear hin hv hbW hbox hb0
  show Calls Try.prog 182 #[.agg #[.int .i64 g.kind, .string g.name, .int .i64 g.n, .slice ga g.scopes.length gcap, .slice ka g.kids.length kcap], .pointer (some ⟨nb, 0, none⟩)] W _
  go_enter Try.func182, Try.ntmps182
  go_wp2_with fail
  refine (implSameName_any B g f _ _ _ (by simp; omega) (InV.later (same_below (HB0.out.mono hBW)) _ _ HIN.out) (InV.later (w := w0) (fun k (hk : k < B) => by rw [HB0.out.block k (by omega), HBW.out.block k (by omega)]) _ _ HV.out)).mono ?_
  rintro e w1 ⟨rfl, hb1⟩
  have HB1 : Hid (Below W.heap.size W w1) := HB0.out.trans (hb1.mono (by simp))
  clear hb1 x0 x1 x2 x3 x4
  go_wp2_with fail
  go_ret
  exact ⟨rfl, HB1.out⟩
set_option maxRecDepth 100000 in
set_option maxHeartbeats 1000000 in
theorem hasName_any (B : Nat) (ls : List Fm) (la : Option Addr) (lcap : Nat) (f : Fm) (v : Value) (w : World) (hB : B ≤ w.heap.size) (hl : FormsIn (· < B) w la lcap ls) (hv : InV (· < B) w f v) :
    Calls Try.prog 126 #[.slice la ls.length lcap, v] w fun e w' => e = .returned (.bool (inN ls f)) ∧ Below w.heap.size w w' := by
  have HL := Lib.hid hl
  have HV := Lib.hid hv
  obtain ⟨sa, scap, a, cap, rfl⟩ := hv.form
  have HB0 := Lib.hid (below_alloc w (.cells #[.int .i64 f.kind, .string f.name, .int .i64 f.n, .slice sa f.scopes.length scap, .slice a f.kids.length cap] 33))
  clear hl hv
  go_enter Try.func126, Try.ntmps126
  go_wp2_with fail
  refine (containsFunc_any B _ _ (fun g => sameNameB g f) ls _ (hasName1_pred B w.heap.size ls f sa scap a cap w hB HV.out) la lcap _ (by simp; omega) (HL.out.later (same_below (HB0.out.mono hB))) ⟨HB0.out, FormBox.fresh w f sa a scap cap _⟩).mono ?_
  rintro e w1 ⟨rfl, hb1⟩
  have HB1 : Hid (Below w.heap.size w w1) := HB0.out.trans (hb1.mono (by simp))
  clear hb1
  go_wp2_with fail
  go_ret
  exact ⟨rfl, HB1.out⟩
theorem hasName_take (B : Nat) (ls : List Fm) (j : Nat) (hj : j ≤ ls.length) (la : Option Addr) (lcap : Nat) (f : Fm) (v : Value) (w : World) (hB : B ≤ w.heap.size) (hl : FormsIn (· < B) w la lcap ls) (hv : InV (· < B) w f v) :
    Calls Try.prog 126 #[.slice la j lcap, v] w fun e w' => e = .returned (.bool (inN (ls.take j) f)) ∧ Below w.heap.size w w' := by
  have := hasName_any B (ls.take j) la lcap f v w hB (hl.take j) hv
  rw [List.length_take, Nat.min_eq_left hj] at this
  exact this
end Go.Proofs.Ytbclgmabidjegaa
