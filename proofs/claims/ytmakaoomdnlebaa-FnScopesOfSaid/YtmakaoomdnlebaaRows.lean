/-
  No cell of these rows narrows 'for every input' (looked for: loops, veiled, ifaces, maps, wideKeys, modest, calm, conditions, laid).
  DERIVED. THE GIVEN ROWS OF THIS SEAT. 12 by the template 'for every input the law returns true; each argument reads behind the call as it read before'; 0 by the template 'total and deterministic' (their statements: YtmakaoomdnlebaaTotals.lean).
  GIVEN WITH THE SEED: the statements are not yours to turn. If you find one false, say at which input.
  Laid BY PROGRAM, IN A SANDBOX (cutbox-rows.mjs): the forced cells as the released guide's own fill.sh prints them over the translation 32dfa044fdba5581… (all of the seat's roots in one cut). By AI agents, Wed Nov 11 2026. No macro, syntax, notation, axiom, sorry.
-/
import Derived.Test.YtmakaoomdnlebaaChecked
import GoSem.Claim
import GoSem.ClaimJoined
import GoSem.ClaimMapViews
import Derived.JoinedTies
import Derived.KernelRfl
namespace Go.Proofs.Ytmakaoomdnlebaa
/- THE CELL 'sum', in the pinned program and in every row, IS THE sha256 OF THE DUMP (.gsa) THAT YtmakaoomdnlebaaProg.lean LOADS. Nothing in Lean hashes anything: it is a label: what it is worth is what the hold of that sum in a sandbox is worth. -/
noncomputable def Try.pinned : Pinned := { name := "ytmakaoomdnlebaa", sum := "32dfa044fdba5581363ea306ae39a06ad5f0cd344aa8b5031ab2fe31f497bbb2", checked := Try.checked }
namespace Rows
def none {H : Type} : Left H := { results := [], args := [] }

/-- 'laws.FnListSame': WHATEVER THE INPUT: true; the input reads as it did. -/
def fnListSameSpec : ChangeSpec := { name := "fnListSame", fn := fun _ => fun
  | [d1, d2] => { results := [.lit (.bool true)], args := [d1, d2] }
  | _ => none }
def fnListSameRow : OpenClaim := { program := "ytmakaoomdnlebaa", sum := "32dfa044fdba5581363ea306ae39a06ad5f0cd344aa8b5031ab2fe31f497bbb2", func := "loop.example/macroexpander/laws.FnListSame", spec := "fnListSame", unfollowed := true, recurses := true, apart := false }
def FnListSameSaid : Prop := fnListSameRow.holds Try.pinned (OpenSpec.ofChange fnListSameSpec)

/-- ITS FALSE NEIGHBOUR: 'it returns false'. Refute it at one input. -/
def fnListSameWrong : ChangeSpec := { name := "fnListSame", fn := fun _ => fun
  | [d1, d2] => { results := [.lit (.bool false)], args := [d1, d2] }
  | _ => none }
def FnListSameWrongFalsely : Prop := fnListSameRow.holds Try.pinned (OpenSpec.ofChange fnListSameWrong)

/-- 'laws.FnFlipScope': WHATEVER THE INPUT: true; the input reads as it did. -/
def fnFlipScopeSpec : ChangeSpec := { name := "fnFlipScope", fn := fun _ => fun
  | [d] => { results := [.lit (.bool true)], args := [d] }
  | _ => none }
def fnFlipScopeRow : OpenClaim := { program := "ytmakaoomdnlebaa", sum := "32dfa044fdba5581363ea306ae39a06ad5f0cd344aa8b5031ab2fe31f497bbb2", func := "loop.example/macroexpander/laws.FnFlipScope", spec := "fnFlipScope", unfollowed := true, recurses := true, apart := false }
def FnFlipScopeSaid : Prop := fnFlipScopeRow.holds Try.pinned (OpenSpec.ofChange fnFlipScopeSpec)

/-- ITS FALSE NEIGHBOUR: 'it returns false'. Refute it at one input. -/
def fnFlipScopeWrong : ChangeSpec := { name := "fnFlipScope", fn := fun _ => fun
  | [d] => { results := [.lit (.bool false)], args := [d] }
  | _ => none }
def FnFlipScopeWrongFalsely : Prop := fnFlipScopeRow.holds Try.pinned (OpenSpec.ofChange fnFlipScopeWrong)

/-- 'laws.FnAddScope': WHATEVER THE INPUT: true; the input reads as it did. -/
def fnAddScopeSpec : ChangeSpec := { name := "fnAddScope", fn := fun _ => fun
  | [d] => { results := [.lit (.bool true)], args := [d] }
  | _ => none }
def fnAddScopeRow : OpenClaim := { program := "ytmakaoomdnlebaa", sum := "32dfa044fdba5581363ea306ae39a06ad5f0cd344aa8b5031ab2fe31f497bbb2", func := "loop.example/macroexpander/laws.FnAddScope", spec := "fnAddScope", unfollowed := true, recurses := true, apart := false }
def FnAddScopeSaid : Prop := fnAddScopeRow.holds Try.pinned (OpenSpec.ofChange fnAddScopeSpec)

/-- ITS FALSE NEIGHBOUR: 'it returns false'. Refute it at one input. -/
def fnAddScopeWrong : ChangeSpec := { name := "fnAddScope", fn := fun _ => fun
  | [d] => { results := [.lit (.bool false)], args := [d] }
  | _ => none }
def FnAddScopeWrongFalsely : Prop := fnAddScopeRow.holds Try.pinned (OpenSpec.ofChange fnAddScopeWrong)

/-- 'laws.FnDropScope': WHATEVER THE INPUT: true; the input reads as it did. -/
def fnDropScopeSpec : ChangeSpec := { name := "fnDropScope", fn := fun _ => fun
  | [d] => { results := [.lit (.bool true)], args := [d] }
  | _ => none }
def fnDropScopeRow : OpenClaim := { program := "ytmakaoomdnlebaa", sum := "32dfa044fdba5581363ea306ae39a06ad5f0cd344aa8b5031ab2fe31f497bbb2", func := "loop.example/macroexpander/laws.FnDropScope", spec := "fnDropScope", unfollowed := true, recurses := true, apart := false }
def FnDropScopeSaid : Prop := fnDropScopeRow.holds Try.pinned (OpenSpec.ofChange fnDropScopeSpec)

/-- ITS FALSE NEIGHBOUR: 'it returns false'. Refute it at one input. -/
def fnDropScopeWrong : ChangeSpec := { name := "fnDropScope", fn := fun _ => fun
  | [d] => { results := [.lit (.bool false)], args := [d] }
  | _ => none }
def FnDropScopeWrongFalsely : Prop := fnDropScopeRow.holds Try.pinned (OpenSpec.ofChange fnDropScopeWrong)

/-- 'laws.FnFlipOrder': WHATEVER THE INPUT: true; the input reads as it did. -/
def fnFlipOrderSpec : ChangeSpec := { name := "fnFlipOrder", fn := fun _ => fun
  | [d1, d2] => { results := [.lit (.bool true)], args := [d1, d2] }
  | _ => none }
def fnFlipOrderRow : OpenClaim := { program := "ytmakaoomdnlebaa", sum := "32dfa044fdba5581363ea306ae39a06ad5f0cd344aa8b5031ab2fe31f497bbb2", func := "loop.example/macroexpander/laws.FnFlipOrder", spec := "fnFlipOrder", unfollowed := true, recurses := true, apart := false }
def FnFlipOrderSaid : Prop := fnFlipOrderRow.holds Try.pinned (OpenSpec.ofChange fnFlipOrderSpec)

/-- ITS FALSE NEIGHBOUR: 'it returns false'. Refute it at one input. -/
def fnFlipOrderWrong : ChangeSpec := { name := "fnFlipOrder", fn := fun _ => fun
  | [d1, d2] => { results := [.lit (.bool false)], args := [d1, d2] }
  | _ => none }
def FnFlipOrderWrongFalsely : Prop := fnFlipOrderRow.holds Try.pinned (OpenSpec.ofChange fnFlipOrderWrong)

/-- 'laws.FnSameName': WHATEVER THE INPUT: true; the input reads as it did. -/
def fnSameNameSpec : ChangeSpec := { name := "fnSameName", fn := fun _ => fun
  | [d] => { results := [.lit (.bool true)], args := [d] }
  | _ => none }
def fnSameNameRow : OpenClaim := { program := "ytmakaoomdnlebaa", sum := "32dfa044fdba5581363ea306ae39a06ad5f0cd344aa8b5031ab2fe31f497bbb2", func := "loop.example/macroexpander/laws.FnSameName", spec := "fnSameName", unfollowed := true, recurses := true, apart := false }
def FnSameNameSaid : Prop := fnSameNameRow.holds Try.pinned (OpenSpec.ofChange fnSameNameSpec)

/-- ITS FALSE NEIGHBOUR: 'it returns false'. Refute it at one input. -/
def fnSameNameWrong : ChangeSpec := { name := "fnSameName", fn := fun _ => fun
  | [d] => { results := [.lit (.bool false)], args := [d] }
  | _ => none }
def FnSameNameWrongFalsely : Prop := fnSameNameRow.holds Try.pinned (OpenSpec.ofChange fnSameNameWrong)

/-- 'laws.FnDressLike': WHATEVER THE INPUT: true; the input reads as it did. -/
def fnDressLikeSpec : ChangeSpec := { name := "fnDressLike", fn := fun _ => fun
  | [d] => { results := [.lit (.bool true)], args := [d] }
  | _ => none }
def fnDressLikeRow : OpenClaim := { program := "ytmakaoomdnlebaa", sum := "32dfa044fdba5581363ea306ae39a06ad5f0cd344aa8b5031ab2fe31f497bbb2", func := "loop.example/macroexpander/laws.FnDressLike", spec := "fnDressLike", unfollowed := true, recurses := true, apart := false }
def FnDressLikeSaid : Prop := fnDressLikeRow.holds Try.pinned (OpenSpec.ofChange fnDressLikeSpec)

/-- ITS FALSE NEIGHBOUR: 'it returns false'. Refute it at one input. -/
def fnDressLikeWrong : ChangeSpec := { name := "fnDressLike", fn := fun _ => fun
  | [d] => { results := [.lit (.bool false)], args := [d] }
  | _ => none }
def FnDressLikeWrongFalsely : Prop := fnDressLikeRow.holds Try.pinned (OpenSpec.ofChange fnDressLikeWrong)

/-- 'laws.FnScopesOf': WHATEVER THE INPUT: true; the input reads as it did. -/
def fnScopesOfSpec : ChangeSpec := { name := "fnScopesOf", fn := fun _ => fun
  | [d] => { results := [.lit (.bool true)], args := [d] }
  | _ => none }
def fnScopesOfRow : OpenClaim := { program := "ytmakaoomdnlebaa", sum := "32dfa044fdba5581363ea306ae39a06ad5f0cd344aa8b5031ab2fe31f497bbb2", func := "loop.example/macroexpander/laws.FnScopesOf", spec := "fnScopesOf", unfollowed := true, recurses := true, apart := false }
def FnScopesOfSaid : Prop := fnScopesOfRow.holds Try.pinned (OpenSpec.ofChange fnScopesOfSpec)

/-- ITS FALSE NEIGHBOUR: 'it returns false'. Refute it at one input. -/
def fnScopesOfWrong : ChangeSpec := { name := "fnScopesOf", fn := fun _ => fun
  | [d] => { results := [.lit (.bool false)], args := [d] }
  | _ => none }
def FnScopesOfWrongFalsely : Prop := fnScopesOfRow.holds Try.pinned (OpenSpec.ofChange fnScopesOfWrong)

/-- 'laws.FnFlipParts': WHATEVER THE INPUT: true; the input reads as it did. -/
def fnFlipPartsSpec : ChangeSpec := { name := "fnFlipParts", fn := fun _ => fun
  | [d] => { results := [.lit (.bool true)], args := [d] }
  | _ => none }
def fnFlipPartsRow : OpenClaim := { program := "ytmakaoomdnlebaa", sum := "32dfa044fdba5581363ea306ae39a06ad5f0cd344aa8b5031ab2fe31f497bbb2", func := "loop.example/macroexpander/laws.FnFlipParts", spec := "fnFlipParts", unfollowed := true, recurses := true, apart := false }
def FnFlipPartsSaid : Prop := fnFlipPartsRow.holds Try.pinned (OpenSpec.ofChange fnFlipPartsSpec)

/-- ITS FALSE NEIGHBOUR: 'it returns false'. Refute it at one input. -/
def fnFlipPartsWrong : ChangeSpec := { name := "fnFlipParts", fn := fun _ => fun
  | [d] => { results := [.lit (.bool false)], args := [d] }
  | _ => none }
def FnFlipPartsWrongFalsely : Prop := fnFlipPartsRow.holds Try.pinned (OpenSpec.ofChange fnFlipPartsWrong)

/-- 'laws.FnAddOrder': WHATEVER THE INPUT: true; the input reads as it did. -/
def fnAddOrderSpec : ChangeSpec := { name := "fnAddOrder", fn := fun _ => fun
  | [d1, d2] => { results := [.lit (.bool true)], args := [d1, d2] }
  | _ => none }
def fnAddOrderRow : OpenClaim := { program := "ytmakaoomdnlebaa", sum := "32dfa044fdba5581363ea306ae39a06ad5f0cd344aa8b5031ab2fe31f497bbb2", func := "loop.example/macroexpander/laws.FnAddOrder", spec := "fnAddOrder", unfollowed := true, recurses := true, apart := false }
def FnAddOrderSaid : Prop := fnAddOrderRow.holds Try.pinned (OpenSpec.ofChange fnAddOrderSpec)

/-- ITS FALSE NEIGHBOUR: 'it returns false'. Refute it at one input. -/
def fnAddOrderWrong : ChangeSpec := { name := "fnAddOrder", fn := fun _ => fun
  | [d1, d2] => { results := [.lit (.bool false)], args := [d1, d2] }
  | _ => none }
def FnAddOrderWrongFalsely : Prop := fnAddOrderRow.holds Try.pinned (OpenSpec.ofChange fnAddOrderWrong)

/-- 'laws.FnDropAll': WHATEVER THE INPUT: true; the input reads as it did. -/
def fnDropAllSpec : ChangeSpec := { name := "fnDropAll", fn := fun _ => fun
  | [d] => { results := [.lit (.bool true)], args := [d] }
  | _ => none }
def fnDropAllRow : OpenClaim := { program := "ytmakaoomdnlebaa", sum := "32dfa044fdba5581363ea306ae39a06ad5f0cd344aa8b5031ab2fe31f497bbb2", func := "loop.example/macroexpander/laws.FnDropAll", spec := "fnDropAll", unfollowed := true, recurses := true, apart := false }
def FnDropAllSaid : Prop := fnDropAllRow.holds Try.pinned (OpenSpec.ofChange fnDropAllSpec)

/-- ITS FALSE NEIGHBOUR: 'it returns false'. Refute it at one input. -/
def fnDropAllWrong : ChangeSpec := { name := "fnDropAll", fn := fun _ => fun
  | [d] => { results := [.lit (.bool false)], args := [d] }
  | _ => none }
def FnDropAllWrongFalsely : Prop := fnDropAllRow.holds Try.pinned (OpenSpec.ofChange fnDropAllWrong)

/-- 'laws.FnDressTwice': WHATEVER THE INPUT: true; the input reads as it did. -/
def fnDressTwiceSpec : ChangeSpec := { name := "fnDressTwice", fn := fun _ => fun
  | [d] => { results := [.lit (.bool true)], args := [d] }
  | _ => none }
def fnDressTwiceRow : OpenClaim := { program := "ytmakaoomdnlebaa", sum := "32dfa044fdba5581363ea306ae39a06ad5f0cd344aa8b5031ab2fe31f497bbb2", func := "loop.example/macroexpander/laws.FnDressTwice", spec := "fnDressTwice", unfollowed := true, recurses := true, apart := false }
def FnDressTwiceSaid : Prop := fnDressTwiceRow.holds Try.pinned (OpenSpec.ofChange fnDressTwiceSpec)

/-- ITS FALSE NEIGHBOUR: 'it returns false'. Refute it at one input. -/
def fnDressTwiceWrong : ChangeSpec := { name := "fnDressTwice", fn := fun _ => fun
  | [d] => { results := [.lit (.bool false)], args := [d] }
  | _ => none }
def FnDressTwiceWrongFalsely : Prop := fnDressTwiceRow.holds Try.pinned (OpenSpec.ofChange fnDressTwiceWrong)

/- THE SECOND FORM. 'bulk': how many values and letters a reading holds, each counted each time it is reached (what is shared counts as often as it is met; a slice's spare places count too). A statement '..UptoSaid' is the law's where the arguments, and the package variables that the reading takes, are together of bulk at most 1048576: NARROWER than '..Said'. Prove '..Said' where nothing that the law and all that it calls make is longer than what came in: it says more and counts as full. Else prove '..UptoSaid'. A law counts once. -/
mutual
def uptoBulk {H : Type} : DataW H → Nat
  | .lit (.string bytes) => bytes.length + 1
  | .lit _ => 1
  | .nil => 1
  | .ptr d => uptoBulk d + 1
  | .slice elems spare => uptoBulkAll elems + uptoBulkAll spare + 1
  | .agg parts => uptoBulkAll parts + 1
  | .iface _ d => uptoBulk d + 1
  | .map entries => uptoBulkEntries entries + 1
  | .held _ => 1
def uptoBulkAll {H : Type} : List (DataW H) → Nat
  | [] => 0
  | d :: r => uptoBulk d + uptoBulkAll r
def uptoBulkEntries {H : Type} : List (Lit × DataW H) → Nat
  | [] => 0
  | x :: r => uptoBulkEntry x + uptoBulkEntries r
def uptoBulkEntry {H : Type} : Lit × DataW H → Nat
  | (.string bytes, d) => bytes.length + uptoBulk d + 1
  | (_, d) => uptoBulk d + 1
 end
def uptoSmall : (H : Type) → List (DataW H) → Bool := fun _ ds => decide (uptoBulkAll ds ≤ 1048576)
def OpenSpec.upto (s : _root_.Go.ChangeSpec) : _root_.Go.OpenSpec := { _root_.Go.OpenSpec.ofChange s with cond := some uptoSmall }

/-- 'laws.FnListSame', WHERE WHAT IT READS IS OF BULK AT MOST 1048576: true; the input reads as it did. -/
def fnListSameUptoRow : OpenClaim := { program := "ytmakaoomdnlebaa", sum := "32dfa044fdba5581363ea306ae39a06ad5f0cd344aa8b5031ab2fe31f497bbb2", func := "loop.example/macroexpander/laws.FnListSame", spec := "fnListSame", unfollowed := true, recurses := true, apart := false, narrowed := true }
def FnListSameUptoSaid : Prop := fnListSameUptoRow.holds Try.pinned (OpenSpec.upto fnListSameSpec)

/-- 'laws.FnFlipScope', WHERE WHAT IT READS IS OF BULK AT MOST 1048576: true; the input reads as it did. -/
def fnFlipScopeUptoRow : OpenClaim := { program := "ytmakaoomdnlebaa", sum := "32dfa044fdba5581363ea306ae39a06ad5f0cd344aa8b5031ab2fe31f497bbb2", func := "loop.example/macroexpander/laws.FnFlipScope", spec := "fnFlipScope", unfollowed := true, recurses := true, apart := false, narrowed := true }
def FnFlipScopeUptoSaid : Prop := fnFlipScopeUptoRow.holds Try.pinned (OpenSpec.upto fnFlipScopeSpec)

/-- 'laws.FnAddScope', WHERE WHAT IT READS IS OF BULK AT MOST 1048576: true; the input reads as it did. -/
def fnAddScopeUptoRow : OpenClaim := { program := "ytmakaoomdnlebaa", sum := "32dfa044fdba5581363ea306ae39a06ad5f0cd344aa8b5031ab2fe31f497bbb2", func := "loop.example/macroexpander/laws.FnAddScope", spec := "fnAddScope", unfollowed := true, recurses := true, apart := false, narrowed := true }
def FnAddScopeUptoSaid : Prop := fnAddScopeUptoRow.holds Try.pinned (OpenSpec.upto fnAddScopeSpec)

/-- 'laws.FnDropScope', WHERE WHAT IT READS IS OF BULK AT MOST 1048576: true; the input reads as it did. -/
def fnDropScopeUptoRow : OpenClaim := { program := "ytmakaoomdnlebaa", sum := "32dfa044fdba5581363ea306ae39a06ad5f0cd344aa8b5031ab2fe31f497bbb2", func := "loop.example/macroexpander/laws.FnDropScope", spec := "fnDropScope", unfollowed := true, recurses := true, apart := false, narrowed := true }
def FnDropScopeUptoSaid : Prop := fnDropScopeUptoRow.holds Try.pinned (OpenSpec.upto fnDropScopeSpec)

/-- 'laws.FnFlipOrder', WHERE WHAT IT READS IS OF BULK AT MOST 1048576: true; the input reads as it did. -/
def fnFlipOrderUptoRow : OpenClaim := { program := "ytmakaoomdnlebaa", sum := "32dfa044fdba5581363ea306ae39a06ad5f0cd344aa8b5031ab2fe31f497bbb2", func := "loop.example/macroexpander/laws.FnFlipOrder", spec := "fnFlipOrder", unfollowed := true, recurses := true, apart := false, narrowed := true }
def FnFlipOrderUptoSaid : Prop := fnFlipOrderUptoRow.holds Try.pinned (OpenSpec.upto fnFlipOrderSpec)

/-- 'laws.FnSameName', WHERE WHAT IT READS IS OF BULK AT MOST 1048576: true; the input reads as it did. -/
def fnSameNameUptoRow : OpenClaim := { program := "ytmakaoomdnlebaa", sum := "32dfa044fdba5581363ea306ae39a06ad5f0cd344aa8b5031ab2fe31f497bbb2", func := "loop.example/macroexpander/laws.FnSameName", spec := "fnSameName", unfollowed := true, recurses := true, apart := false, narrowed := true }
def FnSameNameUptoSaid : Prop := fnSameNameUptoRow.holds Try.pinned (OpenSpec.upto fnSameNameSpec)

/-- 'laws.FnDressLike', WHERE WHAT IT READS IS OF BULK AT MOST 1048576: true; the input reads as it did. -/
def fnDressLikeUptoRow : OpenClaim := { program := "ytmakaoomdnlebaa", sum := "32dfa044fdba5581363ea306ae39a06ad5f0cd344aa8b5031ab2fe31f497bbb2", func := "loop.example/macroexpander/laws.FnDressLike", spec := "fnDressLike", unfollowed := true, recurses := true, apart := false, narrowed := true }
def FnDressLikeUptoSaid : Prop := fnDressLikeUptoRow.holds Try.pinned (OpenSpec.upto fnDressLikeSpec)

/-- 'laws.FnScopesOf', WHERE WHAT IT READS IS OF BULK AT MOST 1048576: true; the input reads as it did. -/
def fnScopesOfUptoRow : OpenClaim := { program := "ytmakaoomdnlebaa", sum := "32dfa044fdba5581363ea306ae39a06ad5f0cd344aa8b5031ab2fe31f497bbb2", func := "loop.example/macroexpander/laws.FnScopesOf", spec := "fnScopesOf", unfollowed := true, recurses := true, apart := false, narrowed := true }
def FnScopesOfUptoSaid : Prop := fnScopesOfUptoRow.holds Try.pinned (OpenSpec.upto fnScopesOfSpec)

/-- 'laws.FnFlipParts', WHERE WHAT IT READS IS OF BULK AT MOST 1048576: true; the input reads as it did. -/
def fnFlipPartsUptoRow : OpenClaim := { program := "ytmakaoomdnlebaa", sum := "32dfa044fdba5581363ea306ae39a06ad5f0cd344aa8b5031ab2fe31f497bbb2", func := "loop.example/macroexpander/laws.FnFlipParts", spec := "fnFlipParts", unfollowed := true, recurses := true, apart := false, narrowed := true }
def FnFlipPartsUptoSaid : Prop := fnFlipPartsUptoRow.holds Try.pinned (OpenSpec.upto fnFlipPartsSpec)

/-- 'laws.FnAddOrder', WHERE WHAT IT READS IS OF BULK AT MOST 1048576: true; the input reads as it did. -/
def fnAddOrderUptoRow : OpenClaim := { program := "ytmakaoomdnlebaa", sum := "32dfa044fdba5581363ea306ae39a06ad5f0cd344aa8b5031ab2fe31f497bbb2", func := "loop.example/macroexpander/laws.FnAddOrder", spec := "fnAddOrder", unfollowed := true, recurses := true, apart := false, narrowed := true }
def FnAddOrderUptoSaid : Prop := fnAddOrderUptoRow.holds Try.pinned (OpenSpec.upto fnAddOrderSpec)

/-- 'laws.FnDropAll', WHERE WHAT IT READS IS OF BULK AT MOST 1048576: true; the input reads as it did. -/
def fnDropAllUptoRow : OpenClaim := { program := "ytmakaoomdnlebaa", sum := "32dfa044fdba5581363ea306ae39a06ad5f0cd344aa8b5031ab2fe31f497bbb2", func := "loop.example/macroexpander/laws.FnDropAll", spec := "fnDropAll", unfollowed := true, recurses := true, apart := false, narrowed := true }
def FnDropAllUptoSaid : Prop := fnDropAllUptoRow.holds Try.pinned (OpenSpec.upto fnDropAllSpec)

/-- 'laws.FnDressTwice', WHERE WHAT IT READS IS OF BULK AT MOST 1048576: true; the input reads as it did. -/
def fnDressTwiceUptoRow : OpenClaim := { program := "ytmakaoomdnlebaa", sum := "32dfa044fdba5581363ea306ae39a06ad5f0cd344aa8b5031ab2fe31f497bbb2", func := "loop.example/macroexpander/laws.FnDressTwice", spec := "fnDressTwice", unfollowed := true, recurses := true, apart := false, narrowed := true }
def FnDressTwiceUptoSaid : Prop := fnDressTwiceUptoRow.holds Try.pinned (OpenSpec.upto fnDressTwiceSpec)

end Rows
end Go.Proofs.Ytmakaoomdnlebaa
