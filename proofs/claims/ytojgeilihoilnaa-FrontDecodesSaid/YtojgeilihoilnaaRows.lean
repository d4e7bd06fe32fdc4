/-
  No cell of these rows narrows 'for every input' (looked for: loops, veiled, ifaces, maps, wideKeys, modest, calm, conditions, laid).
  DERIVED. THE GIVEN ROWS OF THIS SEAT. 5 by the template 'for every input the law returns true; each argument reads behind the call as it read before'; 0 by the template 'total and deterministic' (their statements: YtojgeilihoilnaaTotals.lean).
  GIVEN WITH THE SEED: the statements are not yours to turn. If you find one false, say at which input.
  Laid BY PROGRAM, IN A SANDBOX (cutbox-rows.mjs): the forced cells as the released guide's own fill.sh prints them over the translation bcff9ac7783e6588… (all of the seat's roots in one cut). By AI agents, Wed Nov 11 2026. No macro, syntax, notation, axiom, sorry.
-/
import Derived.Test.YtojgeilihoilnaaChecked
import GoSem.Claim
import GoSem.ClaimJoined
import GoSem.ClaimMapViews
import Derived.JoinedTies
import Derived.KernelRfl
namespace Go.Proofs.Ytojgeilihoilnaa
/- THE CELL 'sum', in the pinned program and in every row, IS THE sha256 OF THE DUMP (.gsa) THAT YtojgeilihoilnaaProg.lean LOADS. Nothing in Lean hashes anything: it is a label: what it is worth is what the hold of that sum in a sandbox is worth. -/
noncomputable def Try.pinned : Pinned := { name := "ytojgeilihoilnaa", sum := "bcff9ac7783e6588d7c827bba6c54364f5fb9905f791ab12ea9bf723ebc99cee", checked := Try.checked }
namespace Rows
def none {H : Type} : Left H := { results := [], args := [] }

/-- 'pontoonlaw03.FrontDecodes': WHATEVER THE INPUT: true; the input reads as it did. -/
def frontDecodesSpec : ChangeSpec := { name := "frontDecodes", fn := fun _ => fun
  | [d] => { results := [.lit (.bool true)], args := [d] }
  | _ => none }
def frontDecodesRow : OpenClaim := { program := "ytojgeilihoilnaa", sum := "bcff9ac7783e6588d7c827bba6c54364f5fb9905f791ab12ea9bf723ebc99cee", func := "pontoon/pontoonlaw03.FrontDecodes", spec := "frontDecodes", inPlace := ["internal/bytealg.IndexByteString", "internal/bytealg.IndexString"], unfollowed := true, recurses := true, named := ["internal/bytealg.MaxLen"], apart := false }
def FrontDecodesSaid : Prop := frontDecodesRow.holds Try.pinned (OpenSpec.ofChange frontDecodesSpec)

/-- ITS FALSE NEIGHBOUR: 'it returns false'. Refute it at one input. -/
def frontDecodesWrong : ChangeSpec := { name := "frontDecodes", fn := fun _ => fun
  | [d] => { results := [.lit (.bool false)], args := [d] }
  | _ => none }
def FrontDecodesWrongFalsely : Prop := frontDecodesRow.holds Try.pinned (OpenSpec.ofChange frontDecodesWrong)

/-- 'pontoonlaw03.FrontEncodes': WHATEVER THE INPUT: true; the input reads as it did. -/
def frontEncodesSpec : ChangeSpec := { name := "frontEncodes", fn := fun _ => fun
  | [d] => { results := [.lit (.bool true)], args := [d] }
  | _ => none }
def frontEncodesRow : OpenClaim := { program := "ytojgeilihoilnaa", sum := "bcff9ac7783e6588d7c827bba6c54364f5fb9905f791ab12ea9bf723ebc99cee", func := "pontoon/pontoonlaw03.FrontEncodes", spec := "frontEncodes", inPlace := ["internal/bytealg.IndexByteString", "internal/bytealg.IndexString"], unfollowed := true, recurses := true, named := ["internal/bytealg.MaxLen"], apart := false }
def FrontEncodesSaid : Prop := frontEncodesRow.holds Try.pinned (OpenSpec.ofChange frontEncodesSpec)

/-- ITS FALSE NEIGHBOUR: 'it returns false'. Refute it at one input. -/
def frontEncodesWrong : ChangeSpec := { name := "frontEncodes", fn := fun _ => fun
  | [d] => { results := [.lit (.bool false)], args := [d] }
  | _ => none }
def FrontEncodesWrongFalsely : Prop := frontEncodesRow.holds Try.pinned (OpenSpec.ofChange frontEncodesWrong)

/-- 'pontoonlaw03.FrontBack': WHATEVER THE INPUT: true; the input reads as it did. -/
def frontBackSpec : ChangeSpec := { name := "frontBack", fn := fun _ => fun
  | [d1, d2] => { results := [.lit (.bool true)], args := [d1, d2] }
  | _ => none }
def frontBackRow : OpenClaim := { program := "ytojgeilihoilnaa", sum := "bcff9ac7783e6588d7c827bba6c54364f5fb9905f791ab12ea9bf723ebc99cee", func := "pontoon/pontoonlaw03.FrontBack", spec := "frontBack", inPlace := ["internal/bytealg.IndexByteString", "internal/bytealg.IndexString"], unfollowed := true, recurses := true, named := ["internal/bytealg.MaxLen"], apart := false }
def FrontBackSaid : Prop := frontBackRow.holds Try.pinned (OpenSpec.ofChange frontBackSpec)

/-- ITS FALSE NEIGHBOUR: 'it returns false'. Refute it at one input. -/
def frontBackWrong : ChangeSpec := { name := "frontBack", fn := fun _ => fun
  | [d1, d2] => { results := [.lit (.bool false)], args := [d1, d2] }
  | _ => none }
def FrontBackWrongFalsely : Prop := frontBackRow.holds Try.pinned (OpenSpec.ofChange frontBackWrong)

/-- 'pontoonlaw03.FrontLonger': WHATEVER THE INPUT: true; the input reads as it did. -/
def frontLongerSpec : ChangeSpec := { name := "frontLonger", fn := fun _ => fun
  | [d] => { results := [.lit (.bool true)], args := [d] }
  | _ => none }
def frontLongerRow : OpenClaim := { program := "ytojgeilihoilnaa", sum := "bcff9ac7783e6588d7c827bba6c54364f5fb9905f791ab12ea9bf723ebc99cee", func := "pontoon/pontoonlaw03.FrontLonger", spec := "frontLonger", inPlace := ["internal/bytealg.IndexByteString", "internal/bytealg.IndexString"], unfollowed := true, recurses := true, named := ["internal/bytealg.MaxLen"], apart := false }
def FrontLongerSaid : Prop := frontLongerRow.holds Try.pinned (OpenSpec.ofChange frontLongerSpec)

/-- ITS FALSE NEIGHBOUR: 'it returns false'. Refute it at one input. -/
def frontLongerWrong : ChangeSpec := { name := "frontLonger", fn := fun _ => fun
  | [d] => { results := [.lit (.bool false)], args := [d] }
  | _ => none }
def FrontLongerWrongFalsely : Prop := frontLongerRow.holds Try.pinned (OpenSpec.ofChange frontLongerWrong)

/-- 'pontoonlaw03.FrontOnce': WHATEVER THE INPUT: true; the input reads as it did. -/
def frontOnceSpec : ChangeSpec := { name := "frontOnce", fn := fun _ => fun
  | [d1, d2] => { results := [.lit (.bool true)], args := [d1, d2] }
  | _ => none }
def frontOnceRow : OpenClaim := { program := "ytojgeilihoilnaa", sum := "bcff9ac7783e6588d7c827bba6c54364f5fb9905f791ab12ea9bf723ebc99cee", func := "pontoon/pontoonlaw03.FrontOnce", spec := "frontOnce", inPlace := ["internal/bytealg.IndexByteString", "internal/bytealg.IndexString"], unfollowed := true, recurses := true, named := ["internal/bytealg.MaxLen"], apart := false }
def FrontOnceSaid : Prop := frontOnceRow.holds Try.pinned (OpenSpec.ofChange frontOnceSpec)

/-- ITS FALSE NEIGHBOUR: 'it returns false'. Refute it at one input. -/
def frontOnceWrong : ChangeSpec := { name := "frontOnce", fn := fun _ => fun
  | [d1, d2] => { results := [.lit (.bool false)], args := [d1, d2] }
  | _ => none }
def FrontOnceWrongFalsely : Prop := frontOnceRow.holds Try.pinned (OpenSpec.ofChange frontOnceWrong)

/- THE SECOND FORM. 'bulk': how many values and letters a reading holds, each counted each time it is reached (what is shared counts as often as it is met; a slice's spare places count too). A statement '..UptoSaid' is the law's where the arguments, and the package variables that the reading takes, are together of bulk at most 1048576: NARROWER than '..Said'. Prove '..Said' where nothing that the law and all that it calls make is longer than what came in: it says more and counts as full. Else prove '..UptoSaid'. A law counts once. -/
mutual
def uptoBulk {H : Type} : DataW H → Nat
  | .lit (.string bytes) => bytes.length + 1
  | .lit _ => 1
  | .nil => 1
  | .ptr d => uptoBulk d + 1
  | .slice elems spare => uptoBulkAll elems + uptoBulkAll spare + 1
  | .agg parts => uptoBulkAll parts + 1
  | .iface _ d => uptoBulk d + 1
  | .map entries => uptoBulkEntries entries + 1
  | .held _ => 1
def uptoBulkAll {H : Type} : List (DataW H) → Nat
  | [] => 0
  | d :: r => uptoBulk d + uptoBulkAll r
def uptoBulkEntries {H : Type} : List (Lit × DataW H) → Nat
  | [] => 0
  | x :: r => uptoBulkEntry x + uptoBulkEntries r
def uptoBulkEntry {H : Type} : Lit × DataW H → Nat
  | (.string bytes, d) => bytes.length + uptoBulk d + 1
  | (_, d) => uptoBulk d + 1
 end
def uptoSmall : (H : Type) → List (DataW H) → Bool := fun _ ds => decide (uptoBulkAll ds ≤ 1048576)
def OpenSpec.upto (s : _root_.Go.ChangeSpec) : _root_.Go.OpenSpec := { _root_.Go.OpenSpec.ofChange s with cond := some uptoSmall }

/-- 'pontoonlaw03.FrontDecodes', WHERE WHAT IT READS IS OF BULK AT MOST 1048576: true; the input reads as it did. -/
def frontDecodesUptoRow : OpenClaim := { program := "ytojgeilihoilnaa", sum := "bcff9ac7783e6588d7c827bba6c54364f5fb9905f791ab12ea9bf723ebc99cee", func := "pontoon/pontoonlaw03.FrontDecodes", spec := "frontDecodes", inPlace := ["internal/bytealg.IndexByteString", "internal/bytealg.IndexString"], unfollowed := true, recurses := true, named := ["internal/bytealg.MaxLen"], apart := false, narrowed := true }
def FrontDecodesUptoSaid : Prop := frontDecodesUptoRow.holds Try.pinned (OpenSpec.upto frontDecodesSpec)

/-- 'pontoonlaw03.FrontEncodes', WHERE WHAT IT READS IS OF BULK AT MOST 1048576: true; the input reads as it did. -/
def frontEncodesUptoRow : OpenClaim := { program := "ytojgeilihoilnaa", sum := "bcff9ac7783e6588d7c827bba6c54364f5fb9905f791ab12ea9bf723ebc99cee", func := "pontoon/pontoonlaw03.FrontEncodes", spec := "frontEncodes", inPlace := ["internal/bytealg.IndexByteString", "internal/bytealg.IndexString"], unfollowed := true, recurses := true, named := ["internal/bytealg.MaxLen"], apart := false, narrowed := true }
def FrontEncodesUptoSaid : Prop := frontEncodesUptoRow.holds Try.pinned (OpenSpec.upto frontEncodesSpec)

/-- 'pontoonlaw03.FrontBack', WHERE WHAT IT READS IS OF BULK AT MOST 1048576: true; the input reads as it did. -/
def frontBackUptoRow : OpenClaim := { program := "ytojgeilihoilnaa", sum := "bcff9ac7783e6588d7c827bba6c54364f5fb9905f791ab12ea9bf723ebc99cee", func := "pontoon/pontoonlaw03.FrontBack", spec := "frontBack", inPlace := ["internal/bytealg.IndexByteString", "internal/bytealg.IndexString"], unfollowed := true, recurses := true, named := ["internal/bytealg.MaxLen"], apart := false, narrowed := true }
def FrontBackUptoSaid : Prop := frontBackUptoRow.holds Try.pinned (OpenSpec.upto frontBackSpec)

/-- 'pontoonlaw03.FrontLonger', WHERE WHAT IT READS IS OF BULK AT MOST 1048576: true; the input reads as it did. -/
def frontLongerUptoRow : OpenClaim := { program := "ytojgeilihoilnaa", sum := "bcff9ac7783e6588d7c827bba6c54364f5fb9905f791ab12ea9bf723ebc99cee", func := "pontoon/pontoonlaw03.FrontLonger", spec := "frontLonger", inPlace := ["internal/bytealg.IndexByteString", "internal/bytealg.IndexString"], unfollowed := true, recurses := true, named := ["internal/bytealg.MaxLen"], apart := false, narrowed := true }
def FrontLongerUptoSaid : Prop := frontLongerUptoRow.holds Try.pinned (OpenSpec.upto frontLongerSpec)

/-- 'pontoonlaw03.FrontOnce', WHERE WHAT IT READS IS OF BULK AT MOST 1048576: true; the input reads as it did. -/
def frontOnceUptoRow : OpenClaim := { program := "ytojgeilihoilnaa", sum := "bcff9ac7783e6588d7c827bba6c54364f5fb9905f791ab12ea9bf723ebc99cee", func := "pontoon/pontoonlaw03.FrontOnce", spec := "frontOnce", inPlace := ["internal/bytealg.IndexByteString", "internal/bytealg.IndexString"], unfollowed := true, recurses := true, named := ["internal/bytealg.MaxLen"], apart := false, narrowed := true }
def FrontOnceUptoSaid : Prop := frontOnceUptoRow.holds Try.pinned (OpenSpec.upto frontOnceSpec)

end Rows
end Go.Proofs.Ytojgeilihoilnaa
