/- The contract of slices.Backward at forms: a range from the last element on. -/
import Derived.Test.YtmakaoomdnlebaaChecked
import Derived.Test.YtmakaoomdnlebaaData
import Derived.RangeFuncBox
import Derived.RangeFuncNested
import Derived.RangeFuncBound
import Derived.RangeFuncCalls
import Derived.RangeFuncLeaves
import Derived.Shelf.Abstract
import Derived.Shelf.RegionOpen
import Derived.WalkKit
import Derived.OwnWalkIn
import Derived.TacticsInMore
import Derived.LoopNIn
import Derived.LoopIn
namespace Go.Proofs.Ytmakaoomdnlebaa
open Go.RowKit Go.Shelf
set_option linter.unusedVariables false
set_option linter.unusedSimpArgs false
attribute [local go_sem] Oper.semAt_some
theorem backward_any (a : Option Addr) (len cap : Nat) (w : World) :
    Calls Try.prog 88 #[.slice a len cap] w fun e w' =>
      e = .returned (.func (.func 105) #[] #[.pointer (some ⟨w.heap.size, 0, none⟩)]) ∧ w' = w.alloc (.cells #[.slice a len cap] 23) := by
  go_enter Try.func88, Try.ntmps88
  go_wp2_with fail
  go_ret
  exact ⟨rfl, rfl⟩
/-- what a round keeps -/
def KeepB (B Bs : Nat) (W W' : World) : Prop := ∀ k, k < B ∨ k = Bs → W'.heap[k]? = W.heap[k]?
theorem KeepB.trans {B Bs : Nat} {a b c : World} (h : KeepB B Bs a b) (g : KeepB B Bs b c) : KeepB B Bs a c := fun k hk => (g k hk).trans (h k hk)
/-- what the iterator reads -/
structure KidRow (B : Nat) (x : Item) (its : _root_.Fin x.f.kids.length → Item) (w : World) : Prop where
  cap : x.f.kids.length ≤ x.cap ∧ x.cap ≤ maxLen
  row : 0 < x.f.kids.length → ∃ b off, x.a = some ⟨b, off, none⟩ ∧ b < B ∧ ∀ i : _root_.Fin x.f.kids.length, w.cell? ⟨b, off + i.val * 5, none⟩ = some (.int .i64 (its i).f.kind) ∧ w.cell? ⟨b, off + i.val * 5 + 1, none⟩ = some (.string (its i).f.name) ∧
      w.cell? ⟨b, off + i.val * 5 + 2, none⟩ = some (.int .i64 (its i).f.n) ∧ w.cell? ⟨b, off + i.val * 5 + 3, none⟩ = some (.slice (its i).sa (its i).f.scopes.length (its i).scap) ∧ w.cell? ⟨b, off + i.val * 5 + 4, none⟩ = some (.slice (its i).a (its i).f.kids.length (its i).cap)
theorem KidRow.keep {B Bs : Nat} {x : Item} {its : _root_.Fin x.f.kids.length → Item} {w w' : World} (h : KidRow B x its w) (hk : KeepB B Bs w w') : KidRow B x its w' := by
  refine ⟨h.cap, fun hp => ?_⟩
  obtain ⟨b, off, e, hb, hc⟩ := h.row hp
  refine ⟨b, off, e, hb, fun i => ?_⟩
  have hs : ∀ o, w'.cell? ⟨b, o, none⟩ = w.cell? ⟨b, o, none⟩ := fun o => World.cell?_of_block (a := ⟨b, o, none⟩) (hk b (.inl hb))
  rw [hs, hs, hs, hs, hs]
  exact hc i
set_option maxRecDepth 100000 in
set_option maxHeartbeats 2000000 in
theorem backward1_in (n : Nat) (hn : 1 ≤ n) (l Bs B : Nat) (x : Item) (its : _root_.Fin x.f.kids.length → Item) (J Jx : List (_root_.Fin x.f.kids.length) → World → Prop)
    (hY : ∀ pre i W, J pre W → pre.length < x.f.kids.length → YieldAt Fence.wide (n - 1) Try.prog l #[.int .i64 (i.val : Int), (its i).val] W fun e W' =>
      (e = .returned (.bool true) ∧ J (pre ++ [i]) W' ∧ KeepB B Bs W W') ∨ (e = .returned (.bool false) ∧ Jx (pre ++ [i]) W'))
    (W : World) (hBs : W.cell? ⟨Bs, 0, none⟩ = some (.slice x.a x.f.kids.length x.cap)) (hc : KidRow B x its W) (h0 : J [] W) :
    CallsIn Fence.wide n Try.prog 105 #[.func (.yield l) #[] #[], .pointer (some ⟨Bs, 0, none⟩)] W fun e W' => (∃ v, e = .returned v) ∧
      ((∃ ys, ys = downF x.f.kids.length ∧ J ys W') ∨ (∃ pre, True ∧ Jx pre W')) := by
  obtain ⟨hcap, hmax⟩ := hc.cap
  unfold maxLen at hmax
  refine callsIn_of_wp Try.func105 rfl trivial ?_ rfl
  simp only [Try.ntmps105, List.size_toArray, List.length_cons, List.length_nil, Nat.reduceAdd, Nat.reduceSub, Array.replicate_succ, Array.replicate_zero, List.push_toArray, List.append_toArray, List.nil_append, List.cons_append]
  have HC := Lib.hid hc
  clear hc
  gi_wp2
  gi_loopw [3] (fun i wr => ∃ k m : Nat, k + m = x.f.kids.length ∧ i = .int .i64 ((m : Int) - 1) ∧ J ((downF x.f.kids.length).take k) wr ∧ KeepB B Bs W wr)
    (fun i _ => (intOf i + 1).toNat)
  case atStart => exact ⟨0, x.f.kids.length, by omega, rfl, h0, fun _ _ => rfl⟩
  case round =>
    obtain ⟨k, m, hkm, rfl, hJs, hkp⟩ := hrel
    have HKP := Lib.hid hkp
    have hbs : wr.cell? ⟨Bs, 0, none⟩ = some (.slice x.a x.f.kids.length x.cap) := (World.cell?_of_block (a := ⟨Bs, 0, none⟩) (hkp Bs (.inr rfl))).trans hBs
    clear hkp
    cases m with
    | succ m =>
      have hlt : m < x.f.kids.length := by omega
      obtain ⟨fn, tmps, assign, body, hy, hR⟩ := hY _ ⟨m, hlt⟩ wr hJs (by rw [List.length_take, downF_length]; omega)
      have HTK : Hid ((downF x.f.kids.length).take (k + 1) = (downF x.f.kids.length).take k ++ [⟨m, hlt⟩]) := by
        unfold Hid
        rw [downF_take _ _ (by omega)]
        congr 3
        omega
      obtain ⟨b, off, ea, hb, hcs⟩ := (HC.out.keep HKP.out).row (by omega)
      obtain ⟨c0, c1, c2, c3, c4⟩ := hcs ⟨m, hlt⟩
      rw [ea] at hbs
      simp only at hy c0 c1 c2 c3 c4
      unfold Item.val at hy
      generalize its ⟨m, hlt⟩ = y at hy c0 c1 c2 c3 c4
      rw [show (((m + 1 : Nat) : Int) - 1) = (m : Int) by omega]
      have hlt' : (m : Int) < x.f.kids.length := by omega
      clear hcs hb ea
      gi_wp2
      refine hR.mono ?_
      rintro e W3 (⟨rfl, hJ3, hk3⟩ | ⟨rfl, hJx3⟩)
      · gi_wp2
        go_roundw
        case rel => exact ⟨k + 1, m, by omega, rfl, by rw [HTK.out]; exact hJ3, HKP.out.trans hk3⟩
        case measure => simp [intOf]
      · gi_wp2
        refine bodyPost_ret (results_none rfl _ _ _) rfl ?_
        exact ⟨⟨_, rfl⟩, .inr ⟨_, trivial, hJx3⟩⟩
    | zero =>
      obtain rfl : k = x.f.kids.length := by omega
      rw [downF_all] at hJs
      gi_wp2
      go_end0
      exact ⟨⟨_, rfl⟩, .inl ⟨_, rfl, hJs⟩⟩
theorem backward_stops (n : Nat) (hn : 1 ≤ n) (Bs B : Nat) (x : Item) (its : _root_.Fin x.f.kids.length → Item) (w : World) (hB : B ≤ w.heap.size) (hBl : Bs < w.heap.size)
    (hBs : w.cell? ⟨Bs, 0, none⟩ = some (.slice x.a x.f.kids.length x.cap)) (hc : KidRow B x its w) :
    SeqStopsK Fence.wide n Try.prog 105 #[.pointer (some ⟨Bs, 0, none⟩)] (fun i : _root_.Fin x.f.kids.length => #[Value.int .i64 (i.val : Int), (its i).val]) (KeepB B Bs)
      (fun ys => ys = downF x.f.kids.length) (fun _ => True) x.f.kids.length w := fun l J Jx W hW _ _ hY h0 => by
  have hk : KeepB B Bs w W := fun k hk => hW.block k (by omega)
  exact backward1_in n hn l Bs B x its J Jx hY W ((hW.cell (p := ⟨Bs, 0, none⟩) hBl).trans hBs) (hc.keep hk) h0
end Go.Proofs.Ytmakaoomdnlebaa
