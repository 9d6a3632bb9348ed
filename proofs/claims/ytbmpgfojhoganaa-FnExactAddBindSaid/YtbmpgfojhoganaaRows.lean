/-
  NARROWER THAN 'FOR EVERY INPUT', by the rows' own cells (each row's printed sentence says how): FnExactAddBind: loops.
  DERIVED. THE GIVEN ROWS OF THIS SEAT. 8 by the template 'for every input the law returns true; each argument reads behind the call as it read before'; 0 by the template 'total and deterministic' (their statements: YtbmpgfojhoganaaTotals.lean).
  GIVEN WITH THE SEED: the statements are not yours to turn. If you find one false, say at which input.
  Laid BY PROGRAM, IN A SANDBOX (cutbox-rows.mjs): the forced cells as the released guide's own fill.sh prints them over the translation a19ce301232cce52… (all of the seat's roots in one cut). By AI agents, Wed Nov 11 2026. No macro, syntax, notation, axiom, sorry.
-/
import Derived.Test.YtbmpgfojhoganaaChecked
import GoSem.Claim
import GoSem.ClaimJoined
import GoSem.ClaimMapViews
import Derived.JoinedTies
import Derived.KernelRfl
namespace Go.Proofs.Ytbmpgfojhoganaa
/- THE CELL 'sum', in the pinned program and in every row, IS THE sha256 OF THE DUMP (.gsa) THAT YtbmpgfojhoganaaProg.lean LOADS. Nothing in Lean hashes anything: it is a label: what it is worth is what the hold of that sum in a sandbox is worth. -/
noncomputable def Try.pinned : Pinned := { name := "ytbmpgfojhoganaa", sum := "a19ce301232cce52f6793bf816c7ba95340b4fa5dc7c6bf4e3c7797dede93224", checked := Try.checked }
namespace Rows
def none {H : Type} : Left H := { results := [], args := [] }

/-- 'laws.FnStripForm': WHATEVER THE INPUT: true; the input reads as it did. -/
def fnStripFormSpec : ChangeSpec := { name := "fnStripForm", fn := fun _ => fun
  | [d] => { results := [.lit (.bool true)], args := [d] }
  | _ => none }
def fnStripFormRow : OpenClaim := { program := "ytbmpgfojhoganaa", sum := "a19ce301232cce52f6793bf816c7ba95340b4fa5dc7c6bf4e3c7797dede93224", func := "loop.example/macroexpander/laws.FnStripForm", spec := "fnStripForm", unfollowed := true, recurses := true, apart := false }
def FnStripFormSaid : Prop := fnStripFormRow.holds Try.pinned (OpenSpec.ofChange fnStripFormSpec)

/-- ITS FALSE NEIGHBOUR: 'it returns false'. Refute it at one input. -/
def fnStripFormWrong : ChangeSpec := { name := "fnStripForm", fn := fun _ => fun
  | [d] => { results := [.lit (.bool false)], args := [d] }
  | _ => none }
def FnStripFormWrongFalsely : Prop := fnStripFormRow.holds Try.pinned (OpenSpec.ofChange fnStripFormWrong)

/-- 'laws.FnNamesOf': WHATEVER THE INPUT: true; the input reads as it did. -/
def fnNamesOfSpec : ChangeSpec := { name := "fnNamesOf", fn := fun _ => fun
  | [d] => { results := [.lit (.bool true)], args := [d] }
  | _ => none }
def fnNamesOfRow : OpenClaim := { program := "ytbmpgfojhoganaa", sum := "a19ce301232cce52f6793bf816c7ba95340b4fa5dc7c6bf4e3c7797dede93224", func := "loop.example/macroexpander/laws.FnNamesOf", spec := "fnNamesOf", unfollowed := true, recurses := true, apart := false }
def FnNamesOfSaid : Prop := fnNamesOfRow.holds Try.pinned (OpenSpec.ofChange fnNamesOfSpec)

/-- ITS FALSE NEIGHBOUR: 'it returns false'. Refute it at one input. -/
def fnNamesOfWrong : ChangeSpec := { name := "fnNamesOf", fn := fun _ => fun
  | [d] => { results := [.lit (.bool false)], args := [d] }
  | _ => none }
def FnNamesOfWrongFalsely : Prop := fnNamesOfRow.holds Try.pinned (OpenSpec.ofChange fnNamesOfWrong)

/-- 'laws.FnListForm': WHATEVER THE INPUT: true; the input reads as it did. -/
def fnListFormSpec : ChangeSpec := { name := "fnListForm", fn := fun _ => fun
  | [d] => { results := [.lit (.bool true)], args := [d] }
  | _ => none }
def fnListFormRow : OpenClaim := { program := "ytbmpgfojhoganaa", sum := "a19ce301232cce52f6793bf816c7ba95340b4fa5dc7c6bf4e3c7797dede93224", func := "loop.example/macroexpander/laws.FnListForm", spec := "fnListForm", unfollowed := true, recurses := true, apart := false }
def FnListFormSaid : Prop := fnListFormRow.holds Try.pinned (OpenSpec.ofChange fnListFormSpec)

/-- ITS FALSE NEIGHBOUR: 'it returns false'. Refute it at one input. -/
def fnListFormWrong : ChangeSpec := { name := "fnListForm", fn := fun _ => fun
  | [d] => { results := [.lit (.bool false)], args := [d] }
  | _ => none }
def FnListFormWrongFalsely : Prop := fnListFormRow.holds Try.pinned (OpenSpec.ofChange fnListFormWrong)

/-- 'laws.FnFormParts': WHATEVER THE INPUT: true; the input reads as it did. -/
def fnFormPartsSpec : ChangeSpec := { name := "fnFormParts", fn := fun _ => fun
  | [d] => { results := [.lit (.bool true)], args := [d] }
  | _ => none }
def fnFormPartsRow : OpenClaim := { program := "ytbmpgfojhoganaa", sum := "a19ce301232cce52f6793bf816c7ba95340b4fa5dc7c6bf4e3c7797dede93224", func := "loop.example/macroexpander/laws.FnFormParts", spec := "fnFormParts", unfollowed := true, recurses := true, apart := false }
def FnFormPartsSaid : Prop := fnFormPartsRow.holds Try.pinned (OpenSpec.ofChange fnFormPartsSpec)

/-- ITS FALSE NEIGHBOUR: 'it returns false'. Refute it at one input. -/
def fnFormPartsWrong : ChangeSpec := { name := "fnFormParts", fn := fun _ => fun
  | [d] => { results := [.lit (.bool false)], args := [d] }
  | _ => none }
def FnFormPartsWrongFalsely : Prop := fnFormPartsRow.holds Try.pinned (OpenSpec.ofChange fnFormPartsWrong)

/-- 'laws.FnFormSize': WHATEVER THE INPUT: true; the input reads as it did. -/
def fnFormSizeSpec : ChangeSpec := { name := "fnFormSize", fn := fun _ => fun
  | [d] => { results := [.lit (.bool true)], args := [d] }
  | _ => none }
def fnFormSizeRow : OpenClaim := { program := "ytbmpgfojhoganaa", sum := "a19ce301232cce52f6793bf816c7ba95340b4fa5dc7c6bf4e3c7797dede93224", func := "loop.example/macroexpander/laws.FnFormSize", spec := "fnFormSize", unfollowed := true, recurses := true, apart := false }
def FnFormSizeSaid : Prop := fnFormSizeRow.holds Try.pinned (OpenSpec.ofChange fnFormSizeSpec)

/-- ITS FALSE NEIGHBOUR: 'it returns false'. Refute it at one input. -/
def fnFormSizeWrong : ChangeSpec := { name := "fnFormSize", fn := fun _ => fun
  | [d] => { results := [.lit (.bool false)], args := [d] }
  | _ => none }
def FnFormSizeWrongFalsely : Prop := fnFormSizeRow.holds Try.pinned (OpenSpec.ofChange fnFormSizeWrong)

/-- 'laws.FnNamesParts': WHATEVER THE INPUT: true; the input reads as it did. -/
def fnNamesPartsSpec : ChangeSpec := { name := "fnNamesParts", fn := fun _ => fun
  | [d] => { results := [.lit (.bool true)], args := [d] }
  | _ => none }
def fnNamesPartsRow : OpenClaim := { program := "ytbmpgfojhoganaa", sum := "a19ce301232cce52f6793bf816c7ba95340b4fa5dc7c6bf4e3c7797dede93224", func := "loop.example/macroexpander/laws.FnNamesParts", spec := "fnNamesParts", unfollowed := true, recurses := true, apart := false }
def FnNamesPartsSaid : Prop := fnNamesPartsRow.holds Try.pinned (OpenSpec.ofChange fnNamesPartsSpec)

/-- ITS FALSE NEIGHBOUR: 'it returns false'. Refute it at one input. -/
def fnNamesPartsWrong : ChangeSpec := { name := "fnNamesParts", fn := fun _ => fun
  | [d] => { results := [.lit (.bool false)], args := [d] }
  | _ => none }
def FnNamesPartsWrongFalsely : Prop := fnNamesPartsRow.holds Try.pinned (OpenSpec.ofChange fnNamesPartsWrong)

/-- 'laws.FnListSame': WHATEVER THE INPUT: true; the input reads as it did. -/
def fnListSameSpec : ChangeSpec := { name := "fnListSame", fn := fun _ => fun
  | [d1, d2] => { results := [.lit (.bool true)], args := [d1, d2] }
  | _ => none }
def fnListSameRow : OpenClaim := { program := "ytbmpgfojhoganaa", sum := "a19ce301232cce52f6793bf816c7ba95340b4fa5dc7c6bf4e3c7797dede93224", func := "loop.example/macroexpander/laws.FnListSame", spec := "fnListSame", unfollowed := true, recurses := true, apart := false }
def FnListSameSaid : Prop := fnListSameRow.holds Try.pinned (OpenSpec.ofChange fnListSameSpec)

/-- ITS FALSE NEIGHBOUR: 'it returns false'. Refute it at one input. -/
def fnListSameWrong : ChangeSpec := { name := "fnListSame", fn := fun _ => fun
  | [d1, d2] => { results := [.lit (.bool false)], args := [d1, d2] }
  | _ => none }
def FnListSameWrongFalsely : Prop := fnListSameRow.holds Try.pinned (OpenSpec.ofChange fnListSameWrong)

/-- 'laws.FnExactAddBind': WHATEVER THE INPUT: true; the input reads as it did. -/
def fnExactAddBindSpec : ChangeSpec := { name := "fnExactAddBind", fn := fun _ => fun
  | [d1, d2, d3] => { results := [.lit (.bool true)], args := [d1, d2, d3] }
  | _ => none }
def fnExactAddBindRow : OpenClaim := { program := "ytbmpgfojhoganaa", sum := "a19ce301232cce52f6793bf816c7ba95340b4fa5dc7c6bf4e3c7797dede93224", func := "loop.example/macroexpander/laws.FnExactAddBind", spec := "fnExactAddBind", recurses := true, loops := true, apart := false }
def FnExactAddBindSaid : Prop := fnExactAddBindRow.holds Try.pinned (OpenSpec.ofChange fnExactAddBindSpec)

/-- ITS FALSE NEIGHBOUR: 'it returns false'. Refute it at one input. -/
def fnExactAddBindWrong : ChangeSpec := { name := "fnExactAddBind", fn := fun _ => fun
  | [d1, d2, d3] => { results := [.lit (.bool false)], args := [d1, d2, d3] }
  | _ => none }
def FnExactAddBindWrongFalsely : Prop := fnExactAddBindRow.holds Try.pinned (OpenSpec.ofChange fnExactAddBindWrong)

/- THE SECOND FORM. 'bulk': how many values and letters a reading holds, each counted each time it is reached (what is shared counts as often as it is met; a slice's spare places count too). A statement '..UptoSaid' is the law's where the arguments, and the package variables that the reading takes, are together of bulk at most 1048576: NARROWER than '..Said'. Prove '..Said' where nothing that the law and all that it calls make is longer than what came in: it says more and counts as full. Else prove '..UptoSaid'. A law counts once. -/
mutual
def uptoBulk {H : Type} : DataW H → Nat
  | .lit (.string bytes) => bytes.length + 1
  | .lit _ => 1
  | .nil => 1
  | .ptr d => uptoBulk d + 1
  | .slice elems spare => uptoBulkAll elems + uptoBulkAll spare + 1
  | .agg parts => uptoBulkAll parts + 1
  | .iface _ d => uptoBulk d + 1
  | .map entries => uptoBulkEntries entries + 1
  | .held _ => 1
def uptoBulkAll {H : Type} : List (DataW H) → Nat
  | [] => 0
  | d :: r => uptoBulk d + uptoBulkAll r
def uptoBulkEntries {H : Type} : List (Lit × DataW H) → Nat
  | [] => 0
  | x :: r => uptoBulkEntry x + uptoBulkEntries r
def uptoBulkEntry {H : Type} : Lit × DataW H → Nat
  | (.string bytes, d) => bytes.length + uptoBulk d + 1
  | (_, d) => uptoBulk d + 1
 end
def uptoSmall : (H : Type) → List (DataW H) → Bool := fun _ ds => decide (uptoBulkAll ds ≤ 1048576)
def OpenSpec.upto (s : _root_.Go.ChangeSpec) : _root_.Go.OpenSpec := { _root_.Go.OpenSpec.ofChange s with cond := some uptoSmall }

/-- 'laws.FnStripForm', WHERE WHAT IT READS IS OF BULK AT MOST 1048576: true; the input reads as it did. -/
def fnStripFormUptoRow : OpenClaim := { program := "ytbmpgfojhoganaa", sum := "a19ce301232cce52f6793bf816c7ba95340b4fa5dc7c6bf4e3c7797dede93224", func := "loop.example/macroexpander/laws.FnStripForm", spec := "fnStripForm", unfollowed := true, recurses := true, apart := false, narrowed := true }
def FnStripFormUptoSaid : Prop := fnStripFormUptoRow.holds Try.pinned (OpenSpec.upto fnStripFormSpec)

/-- 'laws.FnNamesOf', WHERE WHAT IT READS IS OF BULK AT MOST 1048576: true; the input reads as it did. -/
def fnNamesOfUptoRow : OpenClaim := { program := "ytbmpgfojhoganaa", sum := "a19ce301232cce52f6793bf816c7ba95340b4fa5dc7c6bf4e3c7797dede93224", func := "loop.example/macroexpander/laws.FnNamesOf", spec := "fnNamesOf", unfollowed := true, recurses := true, apart := false, narrowed := true }
def FnNamesOfUptoSaid : Prop := fnNamesOfUptoRow.holds Try.pinned (OpenSpec.upto fnNamesOfSpec)

/-- 'laws.FnListForm', WHERE WHAT IT READS IS OF BULK AT MOST 1048576: true; the input reads as it did. -/
def fnListFormUptoRow : OpenClaim := { program := "ytbmpgfojhoganaa", sum := "a19ce301232cce52f6793bf816c7ba95340b4fa5dc7c6bf4e3c7797dede93224", func := "loop.example/macroexpander/laws.FnListForm", spec := "fnListForm", unfollowed := true, recurses := true, apart := false, narrowed := true }
def FnListFormUptoSaid : Prop := fnListFormUptoRow.holds Try.pinned (OpenSpec.upto fnListFormSpec)

/-- 'laws.FnFormParts', WHERE WHAT IT READS IS OF BULK AT MOST 1048576: true; the input reads as it did. -/
def fnFormPartsUptoRow : OpenClaim := { program := "ytbmpgfojhoganaa", sum := "a19ce301232cce52f6793bf816c7ba95340b4fa5dc7c6bf4e3c7797dede93224", func := "loop.example/macroexpander/laws.FnFormParts", spec := "fnFormParts", unfollowed := true, recurses := true, apart := false, narrowed := true }
def FnFormPartsUptoSaid : Prop := fnFormPartsUptoRow.holds Try.pinned (OpenSpec.upto fnFormPartsSpec)

/-- 'laws.FnFormSize', WHERE WHAT IT READS IS OF BULK AT MOST 1048576: true; the input reads as it did. -/
def fnFormSizeUptoRow : OpenClaim := { program := "ytbmpgfojhoganaa", sum := "a19ce301232cce52f6793bf816c7ba95340b4fa5dc7c6bf4e3c7797dede93224", func := "loop.example/macroexpander/laws.FnFormSize", spec := "fnFormSize", unfollowed := true, recurses := true, apart := false, narrowed := true }
def FnFormSizeUptoSaid : Prop := fnFormSizeUptoRow.holds Try.pinned (OpenSpec.upto fnFormSizeSpec)

/-- 'laws.FnNamesParts', WHERE WHAT IT READS IS OF BULK AT MOST 1048576: true; the input reads as it did. -/
def fnNamesPartsUptoRow : OpenClaim := { program := "ytbmpgfojhoganaa", sum := "a19ce301232cce52f6793bf816c7ba95340b4fa5dc7c6bf4e3c7797dede93224", func := "loop.example/macroexpander/laws.FnNamesParts", spec := "fnNamesParts", unfollowed := true, recurses := true, apart := false, narrowed := true }
def FnNamesPartsUptoSaid : Prop := fnNamesPartsUptoRow.holds Try.pinned (OpenSpec.upto fnNamesPartsSpec)

/-- 'laws.FnListSame', WHERE WHAT IT READS IS OF BULK AT MOST 1048576: true; the input reads as it did. -/
def fnListSameUptoRow : OpenClaim := { program := "ytbmpgfojhoganaa", sum := "a19ce301232cce52f6793bf816c7ba95340b4fa5dc7c6bf4e3c7797dede93224", func := "loop.example/macroexpander/laws.FnListSame", spec := "fnListSame", unfollowed := true, recurses := true, apart := false, narrowed := true }
def FnListSameUptoSaid : Prop := fnListSameUptoRow.holds Try.pinned (OpenSpec.upto fnListSameSpec)

/-- 'laws.FnExactAddBind', WHERE WHAT IT READS IS OF BULK AT MOST 1048576: true; the input reads as it did. -/
def fnExactAddBindUptoRow : OpenClaim := { program := "ytbmpgfojhoganaa", sum := "a19ce301232cce52f6793bf816c7ba95340b4fa5dc7c6bf4e3c7797dede93224", func := "loop.example/macroexpander/laws.FnExactAddBind", spec := "fnExactAddBind", recurses := true, loops := true, apart := false, narrowed := true }
def FnExactAddBindUptoSaid : Prop := fnExactAddBindUptoRow.holds Try.pinned (OpenSpec.upto fnExactAddBindSpec)

end Rows
end Go.Proofs.Ytbmpgfojhoganaa
