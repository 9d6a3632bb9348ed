/- The contract of nodeOf. -/
import Derived.Test.YtilbjlngnpmhcaaChecked
import Derived.Test.YtilbjlngnpmhcaaFm
import Derived.Deep.QuietTactic
import Derived.BigQuiet
namespace Go.Proofs.Ytilbjlngnpmhcaa
open Go.RowKit
set_option maxRecDepth 100000 in
set_option maxHeartbeats 400000 in
theorem nodeOf_name (nm : ByteArray) (a s : Option Addr) (cap slen scap : Nat) (w : World) :
    Calls Try.prog 88 #[.agg #[.int .i64 1, .string nm, .int .i64 0, .slice s slen scap, .slice a 0 cap]] w
      fun e w' => e = .returned (.iface 118 (.agg #[.string nm, .slice s slen scap])) ∧ Below w.heap.size w w' := by
  go_enter Try.func88, Try.ntmps88
  go_wp2
  go_ret
  exact ⟨rfl, by repeat (first | exact Below.refl _ _ | refine Below.alloc ?_ (by simp) _)⟩
set_option maxRecDepth 100000 in
set_option maxHeartbeats 400000 in
theorem nodeOf_num (n : Int) (a s : Option Addr) (cap scap : Nat) (w : World) :
    Calls Try.prog 88 #[.agg #[.int .i64 2, .string ByteArray.empty, .int .i64 n, .slice s 0 scap, .slice a 0 cap]] w
      fun e w' => e = .returned (.iface 120 (.agg #[.int .i64 n])) ∧ Below w.heap.size w w' := by
  go_enter Try.func88, Try.ntmps88
  go_wp2
  go_ret
  exact ⟨rfl, by repeat (first | exact Below.refl _ _ | refine Below.alloc ?_ (by simp) _)⟩
set_option maxRecDepth 100000 in
set_option maxHeartbeats 400000 in
theorem nodeOf_list (a s : Option Addr) (len cap scap : Nat) (w : World) :
    Calls Try.prog 88 #[.agg #[.int .i64 3, .string ByteArray.empty, .int .i64 0, .slice s 0 scap, .slice a len cap]] w
      fun e w' => e = .returned (.iface 122 (.agg #[.slice a len cap])) ∧ Below w.heap.size w w' := by
  go_enter Try.func88, Try.ntmps88
  go_wp2
  go_ret
  exact ⟨rfl, by repeat (first | exact Below.refl _ _ | refine Below.alloc ?_ (by simp) _)⟩
set_option maxRecDepth 100000 in
set_option maxHeartbeats 1000000 in
theorem nodeOf_none (k n : Int) (nm : ByteArray) (a s : Option Addr) (slen scap len cap : Nat) (w : World)
    (h1 : ¬ (k = 1 ∧ n = 0 ∧ len = 0)) (h2 : ¬ (k = 2 ∧ nm.toList = [] ∧ slen = 0 ∧ len = 0)) (h3 : ¬ (k = 3 ∧ nm.toList = [] ∧ n = 0 ∧ slen = 0)) :
    Calls Try.prog 88 #[.agg #[.int .i64 k, .string nm, .int .i64 n, .slice s slen scap, .slice a len cap]] w
      fun e w' => e = .returned .nilIface ∧ Below w.heap.size w w' := by
  have H1 := Lib.hid h1
  have H2 := Lib.hid h2
  have H3 := Lib.hid h3
  clear h1 h2 h3
  go_enter Try.func88, Try.ntmps88
  go_wp2
  all_goals
    first
    | (go_ret; exact ⟨rfl, by repeat (first | exact Below.refl _ _ | refine Below.alloc ?_ (by simp) _)⟩)
    | (exfalso; have g1 := H1.out; have g2 := H2.out; have g3 := H3.out; clear H1 H2 H3; simp_all; done)
end Go.Proofs.Ytilbjlngnpmhcaa
