/-
  NARROWER THAN 'FOR EVERY INPUT', by the rows' own cells (each row's printed sentence says how): FnExactFormSize: loops · FnExactNamesOf: loops · FnExactAddScope: loops · FnExactFlipScope: loops · FnExactDropScope: loops · FnExactScopesOf: loops · FnExactDressLike: loops · FnExactAddBind: loops · FnExactFormatForm: loops.
  DERIVED. THE GIVEN ROWS OF THIS SEAT. 11 by the template 'for every input the law returns true; each argument reads behind the call as it read before'; 0 by the template 'total and deterministic' (their statements: YtilbjlngnpmhcaaTotals.lean).
  GIVEN WITH THE SEED: the statements are not yours to turn. If you find one false, say at which input.
  Laid BY PROGRAM, IN A SANDBOX (cutbox-rows.mjs): the forced cells as the released guide's own fill.sh prints them over the translation 876e14e8f02373f5… (all of the seat's roots in one cut). By AI agents, Wed Nov 11 2026. No macro, syntax, notation, axiom, sorry.
-/
import Derived.Test.YtilbjlngnpmhcaaChecked
import GoSem.Claim
import GoSem.ClaimJoined
import GoSem.ClaimMapViews
import Derived.JoinedTies
import Derived.KernelRfl
namespace Go.Proofs.Ytilbjlngnpmhcaa
/- THE CELL 'sum', in the pinned program and in every row, IS THE sha256 OF THE DUMP (.gsa) THAT YtilbjlngnpmhcaaProg.lean LOADS. Nothing in Lean hashes anything: it is a label: what it is worth is what the hold of that sum in a sandbox is worth. -/
noncomputable def Try.pinned : Pinned := { name := "ytilbjlngnpmhcaa", sum := "876e14e8f02373f560e84157261b741d87e211f60f427432a6384bb5bbb40643", checked := Try.checked }
namespace Rows
def none {H : Type} : Left H := { results := [], args := [] }

/-- 'laws.FnExactFormSize': WHATEVER THE INPUT: true; the input reads as it did. -/
def fnExactFormSizeSpec : ChangeSpec := { name := "fnExactFormSize", fn := fun _ => fun
  | [d] => { results := [.lit (.bool true)], args := [d] }
  | _ => none }
def fnExactFormSizeRow : OpenClaim := { program := "ytilbjlngnpmhcaa", sum := "876e14e8f02373f560e84157261b741d87e211f60f427432a6384bb5bbb40643", func := "loop.example/macroexpander/laws.FnExactFormSize", spec := "fnExactFormSize", unfollowed := true, recurses := true, loops := true, apart := false }
def FnExactFormSizeSaid : Prop := fnExactFormSizeRow.holds Try.pinned (OpenSpec.ofChange fnExactFormSizeSpec)

/-- ITS FALSE NEIGHBOUR: 'it returns false'. Refute it at one input. -/
def fnExactFormSizeWrong : ChangeSpec := { name := "fnExactFormSize", fn := fun _ => fun
  | [d] => { results := [.lit (.bool false)], args := [d] }
  | _ => none }
def FnExactFormSizeWrongFalsely : Prop := fnExactFormSizeRow.holds Try.pinned (OpenSpec.ofChange fnExactFormSizeWrong)

/-- 'laws.FnExactNamesOf': WHATEVER THE INPUT: true; the input reads as it did. -/
def fnExactNamesOfSpec : ChangeSpec := { name := "fnExactNamesOf", fn := fun _ => fun
  | [d] => { results := [.lit (.bool true)], args := [d] }
  | _ => none }
def fnExactNamesOfRow : OpenClaim := { program := "ytilbjlngnpmhcaa", sum := "876e14e8f02373f560e84157261b741d87e211f60f427432a6384bb5bbb40643", func := "loop.example/macroexpander/laws.FnExactNamesOf", spec := "fnExactNamesOf", unfollowed := true, recurses := true, loops := true, apart := false }
def FnExactNamesOfSaid : Prop := fnExactNamesOfRow.holds Try.pinned (OpenSpec.ofChange fnExactNamesOfSpec)

/-- ITS FALSE NEIGHBOUR: 'it returns false'. Refute it at one input. -/
def fnExactNamesOfWrong : ChangeSpec := { name := "fnExactNamesOf", fn := fun _ => fun
  | [d] => { results := [.lit (.bool false)], args := [d] }
  | _ => none }
def FnExactNamesOfWrongFalsely : Prop := fnExactNamesOfRow.holds Try.pinned (OpenSpec.ofChange fnExactNamesOfWrong)

/-- 'laws.FnExactAddScope': WHATEVER THE INPUT: true; the input reads as it did. -/
def fnExactAddScopeSpec : ChangeSpec := { name := "fnExactAddScope", fn := fun _ => fun
  | [d1, d2] => { results := [.lit (.bool true)], args := [d1, d2] }
  | _ => none }
def fnExactAddScopeRow : OpenClaim := { program := "ytilbjlngnpmhcaa", sum := "876e14e8f02373f560e84157261b741d87e211f60f427432a6384bb5bbb40643", func := "loop.example/macroexpander/laws.FnExactAddScope", spec := "fnExactAddScope", unfollowed := true, recurses := true, loops := true, apart := false }
def FnExactAddScopeSaid : Prop := fnExactAddScopeRow.holds Try.pinned (OpenSpec.ofChange fnExactAddScopeSpec)

/-- ITS FALSE NEIGHBOUR: 'it returns false'. Refute it at one input. -/
def fnExactAddScopeWrong : ChangeSpec := { name := "fnExactAddScope", fn := fun _ => fun
  | [d1, d2] => { results := [.lit (.bool false)], args := [d1, d2] }
  | _ => none }
def FnExactAddScopeWrongFalsely : Prop := fnExactAddScopeRow.holds Try.pinned (OpenSpec.ofChange fnExactAddScopeWrong)

/-- 'laws.FnExactFlipScope': WHATEVER THE INPUT: true; the input reads as it did. -/
def fnExactFlipScopeSpec : ChangeSpec := { name := "fnExactFlipScope", fn := fun _ => fun
  | [d1, d2] => { results := [.lit (.bool true)], args := [d1, d2] }
  | _ => none }
def fnExactFlipScopeRow : OpenClaim := { program := "ytilbjlngnpmhcaa", sum := "876e14e8f02373f560e84157261b741d87e211f60f427432a6384bb5bbb40643", func := "loop.example/macroexpander/laws.FnExactFlipScope", spec := "fnExactFlipScope", unfollowed := true, recurses := true, loops := true, apart := false }
def FnExactFlipScopeSaid : Prop := fnExactFlipScopeRow.holds Try.pinned (OpenSpec.ofChange fnExactFlipScopeSpec)

/-- ITS FALSE NEIGHBOUR: 'it returns false'. Refute it at one input. -/
def fnExactFlipScopeWrong : ChangeSpec := { name := "fnExactFlipScope", fn := fun _ => fun
  | [d1, d2] => { results := [.lit (.bool false)], args := [d1, d2] }
  | _ => none }
def FnExactFlipScopeWrongFalsely : Prop := fnExactFlipScopeRow.holds Try.pinned (OpenSpec.ofChange fnExactFlipScopeWrong)

/-- 'laws.FnExactDropScope': WHATEVER THE INPUT: true; the input reads as it did. -/
def fnExactDropScopeSpec : ChangeSpec := { name := "fnExactDropScope", fn := fun _ => fun
  | [d1, d2] => { results := [.lit (.bool true)], args := [d1, d2] }
  | _ => none }
def fnExactDropScopeRow : OpenClaim := { program := "ytilbjlngnpmhcaa", sum := "876e14e8f02373f560e84157261b741d87e211f60f427432a6384bb5bbb40643", func := "loop.example/macroexpander/laws.FnExactDropScope", spec := "fnExactDropScope", unfollowed := true, recurses := true, loops := true, apart := false }
def FnExactDropScopeSaid : Prop := fnExactDropScopeRow.holds Try.pinned (OpenSpec.ofChange fnExactDropScopeSpec)

/-- ITS FALSE NEIGHBOUR: 'it returns false'. Refute it at one input. -/
def fnExactDropScopeWrong : ChangeSpec := { name := "fnExactDropScope", fn := fun _ => fun
  | [d1, d2] => { results := [.lit (.bool false)], args := [d1, d2] }
  | _ => none }
def FnExactDropScopeWrongFalsely : Prop := fnExactDropScopeRow.holds Try.pinned (OpenSpec.ofChange fnExactDropScopeWrong)

/-- 'laws.FnExactScopesOf': WHATEVER THE INPUT: true; the input reads as it did. -/
def fnExactScopesOfSpec : ChangeSpec := { name := "fnExactScopesOf", fn := fun _ => fun
  | [d] => { results := [.lit (.bool true)], args := [d] }
  | _ => none }
def fnExactScopesOfRow : OpenClaim := { program := "ytilbjlngnpmhcaa", sum := "876e14e8f02373f560e84157261b741d87e211f60f427432a6384bb5bbb40643", func := "loop.example/macroexpander/laws.FnExactScopesOf", spec := "fnExactScopesOf", unfollowed := true, recurses := true, loops := true, apart := false }
def FnExactScopesOfSaid : Prop := fnExactScopesOfRow.holds Try.pinned (OpenSpec.ofChange fnExactScopesOfSpec)

/-- ITS FALSE NEIGHBOUR: 'it returns false'. Refute it at one input. -/
def fnExactScopesOfWrong : ChangeSpec := { name := "fnExactScopesOf", fn := fun _ => fun
  | [d] => { results := [.lit (.bool false)], args := [d] }
  | _ => none }
def FnExactScopesOfWrongFalsely : Prop := fnExactScopesOfRow.holds Try.pinned (OpenSpec.ofChange fnExactScopesOfWrong)

/-- 'laws.FnExactScopesWithin': WHATEVER THE INPUT: true; the input reads as it did. -/
def fnExactScopesWithinSpec : ChangeSpec := { name := "fnExactScopesWithin", fn := fun _ => fun
  | [d1, d2] => { results := [.lit (.bool true)], args := [d1, d2] }
  | _ => none }
def fnExactScopesWithinRow : OpenClaim := { program := "ytilbjlngnpmhcaa", sum := "876e14e8f02373f560e84157261b741d87e211f60f427432a6384bb5bbb40643", func := "loop.example/macroexpander/laws.FnExactScopesWithin", spec := "fnExactScopesWithin", unfollowed := true, recurses := true, apart := false }
def FnExactScopesWithinSaid : Prop := fnExactScopesWithinRow.holds Try.pinned (OpenSpec.ofChange fnExactScopesWithinSpec)

/-- ITS FALSE NEIGHBOUR: 'it returns false'. Refute it at one input. -/
def fnExactScopesWithinWrong : ChangeSpec := { name := "fnExactScopesWithin", fn := fun _ => fun
  | [d1, d2] => { results := [.lit (.bool false)], args := [d1, d2] }
  | _ => none }
def FnExactScopesWithinWrongFalsely : Prop := fnExactScopesWithinRow.holds Try.pinned (OpenSpec.ofChange fnExactScopesWithinWrong)

/-- 'laws.FnExactDressLike': WHATEVER THE INPUT: true; the input reads as it did. -/
def fnExactDressLikeSpec : ChangeSpec := { name := "fnExactDressLike", fn := fun _ => fun
  | [d1, d2] => { results := [.lit (.bool true)], args := [d1, d2] }
  | _ => none }
def fnExactDressLikeRow : OpenClaim := { program := "ytilbjlngnpmhcaa", sum := "876e14e8f02373f560e84157261b741d87e211f60f427432a6384bb5bbb40643", func := "loop.example/macroexpander/laws.FnExactDressLike", spec := "fnExactDressLike", unfollowed := true, recurses := true, loops := true, apart := false }
def FnExactDressLikeSaid : Prop := fnExactDressLikeRow.holds Try.pinned (OpenSpec.ofChange fnExactDressLikeSpec)

/-- ITS FALSE NEIGHBOUR: 'it returns false'. Refute it at one input. -/
def fnExactDressLikeWrong : ChangeSpec := { name := "fnExactDressLike", fn := fun _ => fun
  | [d1, d2] => { results := [.lit (.bool false)], args := [d1, d2] }
  | _ => none }
def FnExactDressLikeWrongFalsely : Prop := fnExactDressLikeRow.holds Try.pinned (OpenSpec.ofChange fnExactDressLikeWrong)

/-- 'laws.FnExactBindsValid': WHATEVER THE INPUT: true; the input reads as it did. -/
def fnExactBindsValidSpec : ChangeSpec := { name := "fnExactBindsValid", fn := fun _ => fun
  | [d] => { results := [.lit (.bool true)], args := [d] }
  | _ => none }
def fnExactBindsValidRow : OpenClaim := { program := "ytilbjlngnpmhcaa", sum := "876e14e8f02373f560e84157261b741d87e211f60f427432a6384bb5bbb40643", func := "loop.example/macroexpander/laws.FnExactBindsValid", spec := "fnExactBindsValid", apart := false }
def FnExactBindsValidSaid : Prop := fnExactBindsValidRow.holds Try.pinned (OpenSpec.ofChange fnExactBindsValidSpec)

/-- ITS FALSE NEIGHBOUR: 'it returns false'. Refute it at one input. -/
def fnExactBindsValidWrong : ChangeSpec := { name := "fnExactBindsValid", fn := fun _ => fun
  | [d] => { results := [.lit (.bool false)], args := [d] }
  | _ => none }
def FnExactBindsValidWrongFalsely : Prop := fnExactBindsValidRow.holds Try.pinned (OpenSpec.ofChange fnExactBindsValidWrong)

/-- 'laws.FnExactAddBind': WHATEVER THE INPUT: true; the input reads as it did. -/
def fnExactAddBindSpec : ChangeSpec := { name := "fnExactAddBind", fn := fun _ => fun
  | [d1, d2, d3] => { results := [.lit (.bool true)], args := [d1, d2, d3] }
  | _ => none }
def fnExactAddBindRow : OpenClaim := { program := "ytilbjlngnpmhcaa", sum := "876e14e8f02373f560e84157261b741d87e211f60f427432a6384bb5bbb40643", func := "loop.example/macroexpander/laws.FnExactAddBind", spec := "fnExactAddBind", recurses := true, loops := true, apart := false }
def FnExactAddBindSaid : Prop := fnExactAddBindRow.holds Try.pinned (OpenSpec.ofChange fnExactAddBindSpec)

/-- ITS FALSE NEIGHBOUR: 'it returns false'. Refute it at one input. -/
def fnExactAddBindWrong : ChangeSpec := { name := "fnExactAddBind", fn := fun _ => fun
  | [d1, d2, d3] => { results := [.lit (.bool false)], args := [d1, d2, d3] }
  | _ => none }
def FnExactAddBindWrongFalsely : Prop := fnExactAddBindRow.holds Try.pinned (OpenSpec.ofChange fnExactAddBindWrong)

/-- 'laws.FnExactFormatForm': WHATEVER THE INPUT: true; the input reads as it did. -/
def fnExactFormatFormSpec : ChangeSpec := { name := "fnExactFormatForm", fn := fun _ => fun
  | [d] => { results := [.lit (.bool true)], args := [d] }
  | _ => none }
def fnExactFormatFormRow : OpenClaim := { program := "ytilbjlngnpmhcaa", sum := "876e14e8f02373f560e84157261b741d87e211f60f427432a6384bb5bbb40643", func := "loop.example/macroexpander/laws.FnExactFormatForm", spec := "fnExactFormatForm", unfollowed := true, recurses := true, loops := true, apart := false }
def FnExactFormatFormSaid : Prop := fnExactFormatFormRow.holds Try.pinned (OpenSpec.ofChange fnExactFormatFormSpec)

/-- ITS FALSE NEIGHBOUR: 'it returns false'. Refute it at one input. -/
def fnExactFormatFormWrong : ChangeSpec := { name := "fnExactFormatForm", fn := fun _ => fun
  | [d] => { results := [.lit (.bool false)], args := [d] }
  | _ => none }
def FnExactFormatFormWrongFalsely : Prop := fnExactFormatFormRow.holds Try.pinned (OpenSpec.ofChange fnExactFormatFormWrong)

/- THE SECOND FORM. 'bulk': how many values and letters a reading holds, each counted each time it is reached (what is shared counts as often as it is met; a slice's spare places count too). A statement '..UptoSaid' is the law's where the arguments, and the package variables that the reading takes, are together of bulk at most 1048576: NARROWER than '..Said'. Prove '..Said' where nothing that the law and all that it calls make is longer than what came in: it says more and counts as full. Else prove '..UptoSaid'. A law counts once. -/
mutual
def uptoBulk {H : Type} : DataW H → Nat
  | .lit (.string bytes) => bytes.length + 1
  | .lit _ => 1
  | .nil => 1
  | .ptr d => uptoBulk d + 1
  | .slice elems spare => uptoBulkAll elems + uptoBulkAll spare + 1
  | .agg parts => uptoBulkAll parts + 1
  | .iface _ d => uptoBulk d + 1
  | .map entries => uptoBulkEntries entries + 1
  | .held _ => 1
def uptoBulkAll {H : Type} : List (DataW H) → Nat
  | [] => 0
  | d :: r => uptoBulk d + uptoBulkAll r
def uptoBulkEntries {H : Type} : List (Lit × DataW H) → Nat
  | [] => 0
  | x :: r => uptoBulkEntry x + uptoBulkEntries r
def uptoBulkEntry {H : Type} : Lit × DataW H → Nat
  | (.string bytes, d) => bytes.length + uptoBulk d + 1
  | (_, d) => uptoBulk d + 1
 end
def uptoSmall : (H : Type) → List (DataW H) → Bool := fun _ ds => decide (uptoBulkAll ds ≤ 1048576)
def OpenSpec.upto (s : _root_.Go.ChangeSpec) : _root_.Go.OpenSpec := { _root_.Go.OpenSpec.ofChange s with cond := some uptoSmall }

/-- 'laws.FnExactFormSize', WHERE WHAT IT READS IS OF BULK AT MOST 1048576: true; the input reads as it did. -/
def fnExactFormSizeUptoRow : OpenClaim := { program := "ytilbjlngnpmhcaa", sum := "876e14e8f02373f560e84157261b741d87e211f60f427432a6384bb5bbb40643", func := "loop.example/macroexpander/laws.FnExactFormSize", spec := "fnExactFormSize", unfollowed := true, recurses := true, loops := true, apart := false, narrowed := true }
def FnExactFormSizeUptoSaid : Prop := fnExactFormSizeUptoRow.holds Try.pinned (OpenSpec.upto fnExactFormSizeSpec)

/-- 'laws.FnExactNamesOf', WHERE WHAT IT READS IS OF BULK AT MOST 1048576: true; the input reads as it did. -/
def fnExactNamesOfUptoRow : OpenClaim := { program := "ytilbjlngnpmhcaa", sum := "876e14e8f02373f560e84157261b741d87e211f60f427432a6384bb5bbb40643", func := "loop.example/macroexpander/laws.FnExactNamesOf", spec := "fnExactNamesOf", unfollowed := true, recurses := true, loops := true, apart := false, narrowed := true }
def FnExactNamesOfUptoSaid : Prop := fnExactNamesOfUptoRow.holds Try.pinned (OpenSpec.upto fnExactNamesOfSpec)

/-- 'laws.FnExactAddScope', WHERE WHAT IT READS IS OF BULK AT MOST 1048576: true; the input reads as it did. -/
def fnExactAddScopeUptoRow : OpenClaim := { program := "ytilbjlngnpmhcaa", sum := "876e14e8f02373f560e84157261b741d87e211f60f427432a6384bb5bbb40643", func := "loop.example/macroexpander/laws.FnExactAddScope", spec := "fnExactAddScope", unfollowed := true, recurses := true, loops := true, apart := false, narrowed := true }
def FnExactAddScopeUptoSaid : Prop := fnExactAddScopeUptoRow.holds Try.pinned (OpenSpec.upto fnExactAddScopeSpec)

/-- 'laws.FnExactFlipScope', WHERE WHAT IT READS IS OF BULK AT MOST 1048576: true; the input reads as it did. -/
def fnExactFlipScopeUptoRow : OpenClaim := { program := "ytilbjlngnpmhcaa", sum := "876e14e8f02373f560e84157261b741d87e211f60f427432a6384bb5bbb40643", func := "loop.example/macroexpander/laws.FnExactFlipScope", spec := "fnExactFlipScope", unfollowed := true, recurses := true, loops := true, apart := false, narrowed := true }
def FnExactFlipScopeUptoSaid : Prop := fnExactFlipScopeUptoRow.holds Try.pinned (OpenSpec.upto fnExactFlipScopeSpec)

/-- 'laws.FnExactDropScope', WHERE WHAT IT READS IS OF BULK AT MOST 1048576: true; the input reads as it did. -/
def fnExactDropScopeUptoRow : OpenClaim := { program := "ytilbjlngnpmhcaa", sum := "876e14e8f02373f560e84157261b741d87e211f60f427432a6384bb5bbb40643", func := "loop.example/macroexpander/laws.FnExactDropScope", spec := "fnExactDropScope", unfollowed := true, recurses := true, loops := true, apart := false, narrowed := true }
def FnExactDropScopeUptoSaid : Prop := fnExactDropScopeUptoRow.holds Try.pinned (OpenSpec.upto fnExactDropScopeSpec)

/-- 'laws.FnExactScopesOf', WHERE WHAT IT READS IS OF BULK AT MOST 1048576: true; the input reads as it did. -/
def fnExactScopesOfUptoRow : OpenClaim := { program := "ytilbjlngnpmhcaa", sum := "876e14e8f02373f560e84157261b741d87e211f60f427432a6384bb5bbb40643", func := "loop.example/macroexpander/laws.FnExactScopesOf", spec := "fnExactScopesOf", unfollowed := true, recurses := true, loops := true, apart := false, narrowed := true }
def FnExactScopesOfUptoSaid : Prop := fnExactScopesOfUptoRow.holds Try.pinned (OpenSpec.upto fnExactScopesOfSpec)

/-- 'laws.FnExactScopesWithin', WHERE WHAT IT READS IS OF BULK AT MOST 1048576: true; the input reads as it did. -/
def fnExactScopesWithinUptoRow : OpenClaim := { program := "ytilbjlngnpmhcaa", sum := "876e14e8f02373f560e84157261b741d87e211f60f427432a6384bb5bbb40643", func := "loop.example/macroexpander/laws.FnExactScopesWithin", spec := "fnExactScopesWithin", unfollowed := true, recurses := true, apart := false, narrowed := true }
def FnExactScopesWithinUptoSaid : Prop := fnExactScopesWithinUptoRow.holds Try.pinned (OpenSpec.upto fnExactScopesWithinSpec)

/-- 'laws.FnExactDressLike', WHERE WHAT IT READS IS OF BULK AT MOST 1048576: true; the input reads as it did. -/
def fnExactDressLikeUptoRow : OpenClaim := { program := "ytilbjlngnpmhcaa", sum := "876e14e8f02373f560e84157261b741d87e211f60f427432a6384bb5bbb40643", func := "loop.example/macroexpander/laws.FnExactDressLike", spec := "fnExactDressLike", unfollowed := true, recurses := true, loops := true, apart := false, narrowed := true }
def FnExactDressLikeUptoSaid : Prop := fnExactDressLikeUptoRow.holds Try.pinned (OpenSpec.upto fnExactDressLikeSpec)

/-- 'laws.FnExactBindsValid', WHERE WHAT IT READS IS OF BULK AT MOST 1048576: true; the input reads as it did. -/
def fnExactBindsValidUptoRow : OpenClaim := { program := "ytilbjlngnpmhcaa", sum := "876e14e8f02373f560e84157261b741d87e211f60f427432a6384bb5bbb40643", func := "loop.example/macroexpander/laws.FnExactBindsValid", spec := "fnExactBindsValid", apart := false, narrowed := true }
def FnExactBindsValidUptoSaid : Prop := fnExactBindsValidUptoRow.holds Try.pinned (OpenSpec.upto fnExactBindsValidSpec)

/-- 'laws.FnExactAddBind', WHERE WHAT IT READS IS OF BULK AT MOST 1048576: true; the input reads as it did. -/
def fnExactAddBindUptoRow : OpenClaim := { program := "ytilbjlngnpmhcaa", sum := "876e14e8f02373f560e84157261b741d87e211f60f427432a6384bb5bbb40643", func := "loop.example/macroexpander/laws.FnExactAddBind", spec := "fnExactAddBind", recurses := true, loops := true, apart := false, narrowed := true }
def FnExactAddBindUptoSaid : Prop := fnExactAddBindUptoRow.holds Try.pinned (OpenSpec.upto fnExactAddBindSpec)

/-- 'laws.FnExactFormatForm', WHERE WHAT IT READS IS OF BULK AT MOST 1048576: true; the input reads as it did. -/
def fnExactFormatFormUptoRow : OpenClaim := { program := "ytilbjlngnpmhcaa", sum := "876e14e8f02373f560e84157261b741d87e211f60f427432a6384bb5bbb40643", func := "loop.example/macroexpander/laws.FnExactFormatForm", spec := "fnExactFormatForm", unfollowed := true, recurses := true, loops := true, apart := false, narrowed := true }
def FnExactFormatFormUptoSaid : Prop := fnExactFormatFormUptoRow.holds Try.pinned (OpenSpec.upto fnExactFormatFormSpec)

end Rows
end Go.Proofs.Ytilbjlngnpmhcaa
