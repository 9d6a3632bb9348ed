/-
  NARROWER THAN 'FOR EVERY INPUT', by the rows' own cells (each row's printed sentence says how): FnExactStripForm: loops · FnExactListForm: loops · FnExactDressLike: loops · FnExactAddBind: loops.
  DERIVED. THE GIVEN ROWS OF THIS SEAT. 8 by the template 'for every input the law returns true; each argument reads behind the call as it read before'; 0 by the template 'total and deterministic' (their statements: YtcckhcedfmadeaaTotals.lean).
  GIVEN WITH THE SEED: the statements are not yours to turn. If you find one false, say at which input.
  Laid BY PROGRAM, IN A SANDBOX (cutbox-rows.mjs): the forced cells as the released guide's own fill.sh prints them over the translation e53bd61b2906900d… (all of the seat's roots in one cut). By AI agents, Wed Nov 11 2026. No macro, syntax, notation, axiom, sorry.
-/
import Derived.Test.YtcckhcedfmadeaaChecked
import GoSem.Claim
import GoSem.ClaimJoined
import GoSem.ClaimMapViews
import Derived.JoinedTies
import Derived.KernelRfl
namespace Go.Proofs.Ytcckhcedfmadeaa
/- THE CELL 'sum', in the pinned program and in every row, IS THE sha256 OF THE DUMP (.gsa) THAT YtcckhcedfmadeaaProg.lean LOADS. Nothing in Lean hashes anything: it is a label: what it is worth is what the hold of that sum in a sandbox is worth. -/
noncomputable def Try.pinned : Pinned := { name := "ytcckhcedfmadeaa", sum := "e53bd61b2906900d1c3a031958b8ca525c82270d06529114a6452d39d40b20fa", checked := Try.checked }
namespace Rows
def none {H : Type} : Left H := { results := [], args := [] }

/-- 'laws.FnNamesOf': WHATEVER THE INPUT: true; the input reads as it did. -/
def fnNamesOfSpec : ChangeSpec := { name := "fnNamesOf", fn := fun _ => fun
  | [d] => { results := [.lit (.bool true)], args := [d] }
  | _ => none }
def fnNamesOfRow : OpenClaim := { program := "ytcckhcedfmadeaa", sum := "e53bd61b2906900d1c3a031958b8ca525c82270d06529114a6452d39d40b20fa", func := "loop.example/macroexpander/laws.FnNamesOf", spec := "fnNamesOf", unfollowed := true, recurses := true, apart := false }
def FnNamesOfSaid : Prop := fnNamesOfRow.holds Try.pinned (OpenSpec.ofChange fnNamesOfSpec)

/-- ITS FALSE NEIGHBOUR: 'it returns false'. Refute it at one input. -/
def fnNamesOfWrong : ChangeSpec := { name := "fnNamesOf", fn := fun _ => fun
  | [d] => { results := [.lit (.bool false)], args := [d] }
  | _ => none }
def FnNamesOfWrongFalsely : Prop := fnNamesOfRow.holds Try.pinned (OpenSpec.ofChange fnNamesOfWrong)

/-- 'laws.FnListForm': WHATEVER THE INPUT: true; the input reads as it did. -/
def fnListFormSpec : ChangeSpec := { name := "fnListForm", fn := fun _ => fun
  | [d] => { results := [.lit (.bool true)], args := [d] }
  | _ => none }
def fnListFormRow : OpenClaim := { program := "ytcckhcedfmadeaa", sum := "e53bd61b2906900d1c3a031958b8ca525c82270d06529114a6452d39d40b20fa", func := "loop.example/macroexpander/laws.FnListForm", spec := "fnListForm", unfollowed := true, recurses := true, apart := false }
def FnListFormSaid : Prop := fnListFormRow.holds Try.pinned (OpenSpec.ofChange fnListFormSpec)

/-- ITS FALSE NEIGHBOUR: 'it returns false'. Refute it at one input. -/
def fnListFormWrong : ChangeSpec := { name := "fnListForm", fn := fun _ => fun
  | [d] => { results := [.lit (.bool false)], args := [d] }
  | _ => none }
def FnListFormWrongFalsely : Prop := fnListFormRow.holds Try.pinned (OpenSpec.ofChange fnListFormWrong)

/-- 'laws.FnFormParts': WHATEVER THE INPUT: true; the input reads as it did. -/
def fnFormPartsSpec : ChangeSpec := { name := "fnFormParts", fn := fun _ => fun
  | [d] => { results := [.lit (.bool true)], args := [d] }
  | _ => none }
def fnFormPartsRow : OpenClaim := { program := "ytcckhcedfmadeaa", sum := "e53bd61b2906900d1c3a031958b8ca525c82270d06529114a6452d39d40b20fa", func := "loop.example/macroexpander/laws.FnFormParts", spec := "fnFormParts", unfollowed := true, recurses := true, apart := false }
def FnFormPartsSaid : Prop := fnFormPartsRow.holds Try.pinned (OpenSpec.ofChange fnFormPartsSpec)

/-- ITS FALSE NEIGHBOUR: 'it returns false'. Refute it at one input. -/
def fnFormPartsWrong : ChangeSpec := { name := "fnFormParts", fn := fun _ => fun
  | [d] => { results := [.lit (.bool false)], args := [d] }
  | _ => none }
def FnFormPartsWrongFalsely : Prop := fnFormPartsRow.holds Try.pinned (OpenSpec.ofChange fnFormPartsWrong)

/-- 'laws.FnBindsParts': WHATEVER THE INPUT: true; the input reads as it did. -/
def fnBindsPartsSpec : ChangeSpec := { name := "fnBindsParts", fn := fun _ => fun
  | [d] => { results := [.lit (.bool true)], args := [d] }
  | _ => none }
def fnBindsPartsRow : OpenClaim := { program := "ytcckhcedfmadeaa", sum := "e53bd61b2906900d1c3a031958b8ca525c82270d06529114a6452d39d40b20fa", func := "loop.example/macroexpander/laws.FnBindsParts", spec := "fnBindsParts", recurses := true, apart := false }
def FnBindsPartsSaid : Prop := fnBindsPartsRow.holds Try.pinned (OpenSpec.ofChange fnBindsPartsSpec)

/-- ITS FALSE NEIGHBOUR: 'it returns false'. Refute it at one input. -/
def fnBindsPartsWrong : ChangeSpec := { name := "fnBindsParts", fn := fun _ => fun
  | [d] => { results := [.lit (.bool false)], args := [d] }
  | _ => none }
def FnBindsPartsWrongFalsely : Prop := fnBindsPartsRow.holds Try.pinned (OpenSpec.ofChange fnBindsPartsWrong)

/-- 'laws.FnExactStripForm': WHATEVER THE INPUT: true; the input reads as it did. -/
def fnExactStripFormSpec : ChangeSpec := { name := "fnExactStripForm", fn := fun _ => fun
  | [d] => { results := [.lit (.bool true)], args := [d] }
  | _ => none }
def fnExactStripFormRow : OpenClaim := { program := "ytcckhcedfmadeaa", sum := "e53bd61b2906900d1c3a031958b8ca525c82270d06529114a6452d39d40b20fa", func := "loop.example/macroexpander/laws.FnExactStripForm", spec := "fnExactStripForm", unfollowed := true, recurses := true, loops := true, apart := false }
def FnExactStripFormSaid : Prop := fnExactStripFormRow.holds Try.pinned (OpenSpec.ofChange fnExactStripFormSpec)

/-- ITS FALSE NEIGHBOUR: 'it returns false'. Refute it at one input. -/
def fnExactStripFormWrong : ChangeSpec := { name := "fnExactStripForm", fn := fun _ => fun
  | [d] => { results := [.lit (.bool false)], args := [d] }
  | _ => none }
def FnExactStripFormWrongFalsely : Prop := fnExactStripFormRow.holds Try.pinned (OpenSpec.ofChange fnExactStripFormWrong)

/-- 'laws.FnExactListForm': WHATEVER THE INPUT: true; the input reads as it did. -/
def fnExactListFormSpec : ChangeSpec := { name := "fnExactListForm", fn := fun _ => fun
  | [d] => { results := [.lit (.bool true)], args := [d] }
  | _ => none }
def fnExactListFormRow : OpenClaim := { program := "ytcckhcedfmadeaa", sum := "e53bd61b2906900d1c3a031958b8ca525c82270d06529114a6452d39d40b20fa", func := "loop.example/macroexpander/laws.FnExactListForm", spec := "fnExactListForm", unfollowed := true, recurses := true, loops := true, apart := false }
def FnExactListFormSaid : Prop := fnExactListFormRow.holds Try.pinned (OpenSpec.ofChange fnExactListFormSpec)

/-- ITS FALSE NEIGHBOUR: 'it returns false'. Refute it at one input. -/
def fnExactListFormWrong : ChangeSpec := { name := "fnExactListForm", fn := fun _ => fun
  | [d] => { results := [.lit (.bool false)], args := [d] }
  | _ => none }
def FnExactListFormWrongFalsely : Prop := fnExactListFormRow.holds Try.pinned (OpenSpec.ofChange fnExactListFormWrong)

/-- 'laws.FnExactDressLike': WHATEVER THE INPUT: true; the input reads as it did. -/
def fnExactDressLikeSpec : ChangeSpec := { name := "fnExactDressLike", fn := fun _ => fun
  | [d1, d2] => { results := [.lit (.bool true)], args := [d1, d2] }
  | _ => none }
def fnExactDressLikeRow : OpenClaim := { program := "ytcckhcedfmadeaa", sum := "e53bd61b2906900d1c3a031958b8ca525c82270d06529114a6452d39d40b20fa", func := "loop.example/macroexpander/laws.FnExactDressLike", spec := "fnExactDressLike", unfollowed := true, recurses := true, loops := true, apart := false }
def FnExactDressLikeSaid : Prop := fnExactDressLikeRow.holds Try.pinned (OpenSpec.ofChange fnExactDressLikeSpec)

/-- ITS FALSE NEIGHBOUR: 'it returns false'. Refute it at one input. -/
def fnExactDressLikeWrong : ChangeSpec := { name := "fnExactDressLike", fn := fun _ => fun
  | [d1, d2] => { results := [.lit (.bool false)], args := [d1, d2] }
  | _ => none }
def FnExactDressLikeWrongFalsely : Prop := fnExactDressLikeRow.holds Try.pinned (OpenSpec.ofChange fnExactDressLikeWrong)

/-- 'laws.FnExactAddBind': WHATEVER THE INPUT: true; the input reads as it did. -/
def fnExactAddBindSpec : ChangeSpec := { name := "fnExactAddBind", fn := fun _ => fun
  | [d1, d2, d3] => { results := [.lit (.bool true)], args := [d1, d2, d3] }
  | _ => none }
def fnExactAddBindRow : OpenClaim := { program := "ytcckhcedfmadeaa", sum := "e53bd61b2906900d1c3a031958b8ca525c82270d06529114a6452d39d40b20fa", func := "loop.example/macroexpander/laws.FnExactAddBind", spec := "fnExactAddBind", recurses := true, loops := true, apart := false }
def FnExactAddBindSaid : Prop := fnExactAddBindRow.holds Try.pinned (OpenSpec.ofChange fnExactAddBindSpec)

/-- ITS FALSE NEIGHBOUR: 'it returns false'. Refute it at one input. -/
def fnExactAddBindWrong : ChangeSpec := { name := "fnExactAddBind", fn := fun _ => fun
  | [d1, d2, d3] => { results := [.lit (.bool false)], args := [d1, d2, d3] }
  | _ => none }
def FnExactAddBindWrongFalsely : Prop := fnExactAddBindRow.holds Try.pinned (OpenSpec.ofChange fnExactAddBindWrong)

/- THE SECOND FORM. 'bulk': how many values and letters a reading holds, each counted each time it is reached (what is shared counts as often as it is met; a slice's spare places count too). A statement '..UptoSaid' is the law's where the arguments, and the package variables that the reading takes, are together of bulk at most 1048576: NARROWER than '..Said'. Prove '..Said' where nothing that the law and all that it calls make is longer than what came in: it says more and counts as full. Else prove '..UptoSaid'. A law counts once. -/
mutual
def uptoBulk {H : Type} : DataW H → Nat
  | .lit (.string bytes) => bytes.length + 1
  | .lit _ => 1
  | .nil => 1
  | .ptr d => uptoBulk d + 1
  | .slice elems spare => uptoBulkAll elems + uptoBulkAll spare + 1
  | .agg parts => uptoBulkAll parts + 1
  | .iface _ d => uptoBulk d + 1
  | .map entries => uptoBulkEntries entries + 1
  | .held _ => 1
def uptoBulkAll {H : Type} : List (DataW H) → Nat
  | [] => 0
  | d :: r => uptoBulk d + uptoBulkAll r
def uptoBulkEntries {H : Type} : List (Lit × DataW H) → Nat
  | [] => 0
  | x :: r => uptoBulkEntry x + uptoBulkEntries r
def uptoBulkEntry {H : Type} : Lit × DataW H → Nat
  | (.string bytes, d) => bytes.length + uptoBulk d + 1
  | (_, d) => uptoBulk d + 1
 end
def uptoSmall : (H : Type) → List (DataW H) → Bool := fun _ ds => decide (uptoBulkAll ds ≤ 1048576)
def OpenSpec.upto (s : _root_.Go.ChangeSpec) : _root_.Go.OpenSpec := { _root_.Go.OpenSpec.ofChange s with cond := some uptoSmall }

/-- 'laws.FnNamesOf', WHERE WHAT IT READS IS OF BULK AT MOST 1048576: true; the input reads as it did. -/
def fnNamesOfUptoRow : OpenClaim := { program := "ytcckhcedfmadeaa", sum := "e53bd61b2906900d1c3a031958b8ca525c82270d06529114a6452d39d40b20fa", func := "loop.example/macroexpander/laws.FnNamesOf", spec := "fnNamesOf", unfollowed := true, recurses := true, apart := false, narrowed := true }
def FnNamesOfUptoSaid : Prop := fnNamesOfUptoRow.holds Try.pinned (OpenSpec.upto fnNamesOfSpec)

/-- 'laws.FnListForm', WHERE WHAT IT READS IS OF BULK AT MOST 1048576: true; the input reads as it did. -/
def fnListFormUptoRow : OpenClaim := { program := "ytcckhcedfmadeaa", sum := "e53bd61b2906900d1c3a031958b8ca525c82270d06529114a6452d39d40b20fa", func := "loop.example/macroexpander/laws.FnListForm", spec := "fnListForm", unfollowed := true, recurses := true, apart := false, narrowed := true }
def FnListFormUptoSaid : Prop := fnListFormUptoRow.holds Try.pinned (OpenSpec.upto fnListFormSpec)

/-- 'laws.FnFormParts', WHERE WHAT IT READS IS OF BULK AT MOST 1048576: true; the input reads as it did. -/
def fnFormPartsUptoRow : OpenClaim := { program := "ytcckhcedfmadeaa", sum := "e53bd61b2906900d1c3a031958b8ca525c82270d06529114a6452d39d40b20fa", func := "loop.example/macroexpander/laws.FnFormParts", spec := "fnFormParts", unfollowed := true, recurses := true, apart := false, narrowed := true }
def FnFormPartsUptoSaid : Prop := fnFormPartsUptoRow.holds Try.pinned (OpenSpec.upto fnFormPartsSpec)

/-- 'laws.FnBindsParts', WHERE WHAT IT READS IS OF BULK AT MOST 1048576: true; the input reads as it did. -/
def fnBindsPartsUptoRow : OpenClaim := { program := "ytcckhcedfmadeaa", sum := "e53bd61b2906900d1c3a031958b8ca525c82270d06529114a6452d39d40b20fa", func := "loop.example/macroexpander/laws.FnBindsParts", spec := "fnBindsParts", recurses := true, apart := false, narrowed := true }
def FnBindsPartsUptoSaid : Prop := fnBindsPartsUptoRow.holds Try.pinned (OpenSpec.upto fnBindsPartsSpec)

/-- 'laws.FnExactStripForm', WHERE WHAT IT READS IS OF BULK AT MOST 1048576: true; the input reads as it did. -/
def fnExactStripFormUptoRow : OpenClaim := { program := "ytcckhcedfmadeaa", sum := "e53bd61b2906900d1c3a031958b8ca525c82270d06529114a6452d39d40b20fa", func := "loop.example/macroexpander/laws.FnExactStripForm", spec := "fnExactStripForm", unfollowed := true, recurses := true, loops := true, apart := false, narrowed := true }
def FnExactStripFormUptoSaid : Prop := fnExactStripFormUptoRow.holds Try.pinned (OpenSpec.upto fnExactStripFormSpec)

/-- 'laws.FnExactListForm', WHERE WHAT IT READS IS OF BULK AT MOST 1048576: true; the input reads as it did. -/
def fnExactListFormUptoRow : OpenClaim := { program := "ytcckhcedfmadeaa", sum := "e53bd61b2906900d1c3a031958b8ca525c82270d06529114a6452d39d40b20fa", func := "loop.example/macroexpander/laws.FnExactListForm", spec := "fnExactListForm", unfollowed := true, recurses := true, loops := true, apart := false, narrowed := true }
def FnExactListFormUptoSaid : Prop := fnExactListFormUptoRow.holds Try.pinned (OpenSpec.upto fnExactListFormSpec)

/-- 'laws.FnExactDressLike', WHERE WHAT IT READS IS OF BULK AT MOST 1048576: true; the input reads as it did. -/
def fnExactDressLikeUptoRow : OpenClaim := { program := "ytcckhcedfmadeaa", sum := "e53bd61b2906900d1c3a031958b8ca525c82270d06529114a6452d39d40b20fa", func := "loop.example/macroexpander/laws.FnExactDressLike", spec := "fnExactDressLike", unfollowed := true, recurses := true, loops := true, apart := false, narrowed := true }
def FnExactDressLikeUptoSaid : Prop := fnExactDressLikeUptoRow.holds Try.pinned (OpenSpec.upto fnExactDressLikeSpec)

/-- 'laws.FnExactAddBind', WHERE WHAT IT READS IS OF BULK AT MOST 1048576: true; the input reads as it did. -/
def fnExactAddBindUptoRow : OpenClaim := { program := "ytcckhcedfmadeaa", sum := "e53bd61b2906900d1c3a031958b8ca525c82270d06529114a6452d39d40b20fa", func := "loop.example/macroexpander/laws.FnExactAddBind", spec := "fnExactAddBind", recurses := true, loops := true, apart := false, narrowed := true }
def FnExactAddBindUptoSaid : Prop := fnExactAddBindUptoRow.holds Try.pinned (OpenSpec.upto fnExactAddBindSpec)

end Rows
end Go.Proofs.Ytcckhcedfmadeaa
