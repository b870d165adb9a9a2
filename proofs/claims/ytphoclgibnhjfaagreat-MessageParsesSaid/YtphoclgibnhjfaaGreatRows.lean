/-
  No cell of these rows narrows 'for every input' (looked for: loops, veiled, ifaces, maps, wideKeys, modest, calm, conditions, laid).
  DERIVED. THE GIVEN ROWS OF THIS SEAT. 9 by the template 'for every input the law returns true; each argument reads behind the call as it read before'; 0 by the template 'total and deterministic' (their statements: YtphoclgibnhjfaaGreatTotals.lean).
  GIVEN WITH THE SEED: the statements are not yours to turn. If you find one false, say at which input.
  Laid BY PROGRAM, IN A SANDBOX (cutbox-rows.mjs): the forced cells as the released guide's own fill.sh prints them over the translation 99f0889349adba3c… (all of the seat's roots in one cut). By AI agents, Wed Nov 11 2026. No macro, syntax, notation, axiom, sorry.
-/
import Derived.Test.YtphoclgibnhjfaaGreatChecked
import GoSem.Claim
import GoSem.ClaimJoined
import GoSem.ClaimMapViews
import Derived.JoinedTies
import Derived.KernelRfl
namespace Go.Proofs.YtphoclgibnhjfaaGreat
/- THE CELL 'sum', in the pinned program and in every row, IS THE sha256 OF THE DUMP (.gsa) THAT YtphoclgibnhjfaaGreatProg.lean LOADS. Nothing in Lean hashes anything: it is a label: what it is worth is what the hold of that sum in a sandbox is worth. -/
noncomputable def Tryz.pinned : Pinned := { name := "ytphoclgibnhjfaagreat", sum := "99f0889349adba3cccdc694347d4c4a331aa16884f511b101ea3e07575b44b29", checked := Tryz.checked }
namespace Rows
def none {H : Type} : Left H := { results := [], args := [] }

/-- 'turnroundlaw02.MessageParses': WHATEVER THE INPUT: true; the input reads as it did. -/
def messageParsesSpec : ChangeSpec := { name := "messageParses", fn := fun _ => fun
  | [d] => { results := [.lit (.bool true)], args := [d] }
  | _ => none }
def messageParsesRow : OpenClaim := { program := "ytphoclgibnhjfaagreat", sum := "99f0889349adba3cccdc694347d4c4a331aa16884f511b101ea3e07575b44b29", func := "turnround/turnroundlaw02.MessageParses", spec := "messageParses", inPlace := ["internal/abi.NoEscape", "internal/bytealg.MakeNoZero", "internal/bytealg.CountString", "internal/bytealg.IndexByteString", "internal/bytealg.IndexString"], unfollowed := true, recurses := true, named := ["internal/bytealg.MaxLen"], apart := false }
def MessageParsesSaid : Prop := messageParsesRow.holds Tryz.pinned (OpenSpec.ofChange messageParsesSpec)

/-- ITS FALSE NEIGHBOUR: 'it returns false'. Refute it at one input. -/
def messageParsesWrong : ChangeSpec := { name := "messageParses", fn := fun _ => fun
  | [d] => { results := [.lit (.bool false)], args := [d] }
  | _ => none }
def MessageParsesWrongFalsely : Prop := messageParsesRow.holds Tryz.pinned (OpenSpec.ofChange messageParsesWrong)

/-- 'turnroundlaw02.MessageLeaves': WHATEVER THE INPUT: true; the input reads as it did. -/
def messageLeavesSpec : ChangeSpec := { name := "messageLeaves", fn := fun _ => fun
  | [d] => { results := [.lit (.bool true)], args := [d] }
  | _ => none }
def messageLeavesRow : OpenClaim := { program := "ytphoclgibnhjfaagreat", sum := "99f0889349adba3cccdc694347d4c4a331aa16884f511b101ea3e07575b44b29", func := "turnround/turnroundlaw02.MessageLeaves", spec := "messageLeaves", inPlace := ["internal/abi.NoEscape", "internal/bytealg.MakeNoZero", "internal/bytealg.CountString", "internal/bytealg.IndexByteString", "internal/bytealg.IndexString"], unfollowed := true, recurses := true, named := ["internal/bytealg.MaxLen"], apart := false }
def MessageLeavesSaid : Prop := messageLeavesRow.holds Tryz.pinned (OpenSpec.ofChange messageLeavesSpec)

/-- ITS FALSE NEIGHBOUR: 'it returns false'. Refute it at one input. -/
def messageLeavesWrong : ChangeSpec := { name := "messageLeaves", fn := fun _ => fun
  | [d] => { results := [.lit (.bool false)], args := [d] }
  | _ => none }
def MessageLeavesWrongFalsely : Prop := messageLeavesRow.holds Tryz.pinned (OpenSpec.ofChange messageLeavesWrong)

/-- 'turnroundlaw02.MessageChanges': WHATEVER THE INPUT: true; the input reads as it did. -/
def messageChangesSpec : ChangeSpec := { name := "messageChanges", fn := fun _ => fun
  | [d1, d2] => { results := [.lit (.bool true)], args := [d1, d2] }
  | _ => none }
def messageChangesRow : OpenClaim := { program := "ytphoclgibnhjfaagreat", sum := "99f0889349adba3cccdc694347d4c4a331aa16884f511b101ea3e07575b44b29", func := "turnround/turnroundlaw02.MessageChanges", spec := "messageChanges", inPlace := ["internal/abi.NoEscape", "internal/bytealg.MakeNoZero", "internal/bytealg.CountString", "internal/bytealg.IndexByteString", "internal/bytealg.IndexString"], unfollowed := true, recurses := true, named := ["internal/bytealg.MaxLen"], apart := false }
def MessageChangesSaid : Prop := messageChangesRow.holds Tryz.pinned (OpenSpec.ofChange messageChangesSpec)

/-- ITS FALSE NEIGHBOUR: 'it returns false'. Refute it at one input. -/
def messageChangesWrong : ChangeSpec := { name := "messageChanges", fn := fun _ => fun
  | [d1, d2] => { results := [.lit (.bool false)], args := [d1, d2] }
  | _ => none }
def MessageChangesWrongFalsely : Prop := messageChangesRow.holds Tryz.pinned (OpenSpec.ofChange messageChangesWrong)

/-- 'turnroundlaw02.MessageAnswers': WHATEVER THE INPUT: true; the input reads as it did. -/
def messageAnswersSpec : ChangeSpec := { name := "messageAnswers", fn := fun _ => fun
  | [d1, d2, d3] => { results := [.lit (.bool true)], args := [d1, d2, d3] }
  | _ => none }
def messageAnswersRow : OpenClaim := { program := "ytphoclgibnhjfaagreat", sum := "99f0889349adba3cccdc694347d4c4a331aa16884f511b101ea3e07575b44b29", func := "turnround/turnroundlaw02.MessageAnswers", spec := "messageAnswers", inPlace := ["internal/abi.NoEscape", "internal/bytealg.MakeNoZero", "internal/bytealg.CountString", "internal/bytealg.IndexByteString", "internal/bytealg.IndexString"], unfollowed := true, recurses := true, named := ["internal/bytealg.MaxLen"], apart := false }
def MessageAnswersSaid : Prop := messageAnswersRow.holds Tryz.pinned (OpenSpec.ofChange messageAnswersSpec)

/-- ITS FALSE NEIGHBOUR: 'it returns false'. Refute it at one input. -/
def messageAnswersWrong : ChangeSpec := { name := "messageAnswers", fn := fun _ => fun
  | [d1, d2, d3] => { results := [.lit (.bool false)], args := [d1, d2, d3] }
  | _ => none }
def MessageAnswersWrongFalsely : Prop := messageAnswersRow.holds Tryz.pinned (OpenSpec.ofChange messageAnswersWrong)

/-- 'turnroundlaw02.MessageBack': WHATEVER THE INPUT: true; the input reads as it did. -/
def messageBackSpec : ChangeSpec := { name := "messageBack", fn := fun _ => fun
  | [d1, d2] => { results := [.lit (.bool true)], args := [d1, d2] }
  | _ => none }
def messageBackRow : OpenClaim := { program := "ytphoclgibnhjfaagreat", sum := "99f0889349adba3cccdc694347d4c4a331aa16884f511b101ea3e07575b44b29", func := "turnround/turnroundlaw02.MessageBack", spec := "messageBack", inPlace := ["internal/abi.NoEscape", "internal/bytealg.MakeNoZero", "internal/bytealg.CountString", "internal/bytealg.IndexByteString", "internal/bytealg.IndexString"], unfollowed := true, recurses := true, named := ["internal/bytealg.MaxLen"], apart := false }
def MessageBackSaid : Prop := messageBackRow.holds Tryz.pinned (OpenSpec.ofChange messageBackSpec)

/-- ITS FALSE NEIGHBOUR: 'it returns false'. Refute it at one input. -/
def messageBackWrong : ChangeSpec := { name := "messageBack", fn := fun _ => fun
  | [d1, d2] => { results := [.lit (.bool false)], args := [d1, d2] }
  | _ => none }
def MessageBackWrongFalsely : Prop := messageBackRow.holds Tryz.pinned (OpenSpec.ofChange messageBackWrong)

/-- 'turnroundlaw02.MessageStrict': WHATEVER THE INPUT: true; the input reads as it did. -/
def messageStrictSpec : ChangeSpec := { name := "messageStrict", fn := fun _ => fun
  | [d1, d2, d3] => { results := [.lit (.bool true)], args := [d1, d2, d3] }
  | _ => none }
def messageStrictRow : OpenClaim := { program := "ytphoclgibnhjfaagreat", sum := "99f0889349adba3cccdc694347d4c4a331aa16884f511b101ea3e07575b44b29", func := "turnround/turnroundlaw02.MessageStrict", spec := "messageStrict", inPlace := ["internal/abi.NoEscape", "internal/bytealg.MakeNoZero", "internal/bytealg.CountString", "internal/bytealg.IndexByteString", "internal/bytealg.IndexString"], unfollowed := true, recurses := true, named := ["internal/bytealg.MaxLen"], apart := false }
def MessageStrictSaid : Prop := messageStrictRow.holds Tryz.pinned (OpenSpec.ofChange messageStrictSpec)

/-- ITS FALSE NEIGHBOUR: 'it returns false'. Refute it at one input. -/
def messageStrictWrong : ChangeSpec := { name := "messageStrict", fn := fun _ => fun
  | [d1, d2, d3] => { results := [.lit (.bool false)], args := [d1, d2, d3] }
  | _ => none }
def MessageStrictWrongFalsely : Prop := messageStrictRow.holds Tryz.pinned (OpenSpec.ofChange messageStrictWrong)

/-- 'turnroundlaw02.MessageLeads': WHATEVER THE INPUT: true; the input reads as it did. -/
def messageLeadsSpec : ChangeSpec := { name := "messageLeads", fn := fun _ => fun
  | [d1, d2] => { results := [.lit (.bool true)], args := [d1, d2] }
  | _ => none }
def messageLeadsRow : OpenClaim := { program := "ytphoclgibnhjfaagreat", sum := "99f0889349adba3cccdc694347d4c4a331aa16884f511b101ea3e07575b44b29", func := "turnround/turnroundlaw02.MessageLeads", spec := "messageLeads", inPlace := ["internal/abi.NoEscape", "internal/bytealg.MakeNoZero", "internal/bytealg.CountString", "internal/bytealg.IndexByteString", "internal/bytealg.IndexString"], unfollowed := true, recurses := true, named := ["internal/bytealg.MaxLen"], apart := false }
def MessageLeadsSaid : Prop := messageLeadsRow.holds Tryz.pinned (OpenSpec.ofChange messageLeadsSpec)

/-- ITS FALSE NEIGHBOUR: 'it returns false'. Refute it at one input. -/
def messageLeadsWrong : ChangeSpec := { name := "messageLeads", fn := fun _ => fun
  | [d1, d2] => { results := [.lit (.bool false)], args := [d1, d2] }
  | _ => none }
def MessageLeadsWrongFalsely : Prop := messageLeadsRow.holds Tryz.pinned (OpenSpec.ofChange messageLeadsWrong)

/-- 'turnroundlaw02.MessageReplies': WHATEVER THE INPUT: true; the input reads as it did. -/
def messageRepliesSpec : ChangeSpec := { name := "messageReplies", fn := fun _ => fun
  | [d1, d2] => { results := [.lit (.bool true)], args := [d1, d2] }
  | _ => none }
def messageRepliesRow : OpenClaim := { program := "ytphoclgibnhjfaagreat", sum := "99f0889349adba3cccdc694347d4c4a331aa16884f511b101ea3e07575b44b29", func := "turnround/turnroundlaw02.MessageReplies", spec := "messageReplies", inPlace := ["internal/abi.NoEscape", "internal/bytealg.MakeNoZero", "internal/bytealg.CountString", "internal/bytealg.IndexByteString", "internal/bytealg.IndexString"], unfollowed := true, recurses := true, named := ["internal/bytealg.MaxLen"], apart := false }
def MessageRepliesSaid : Prop := messageRepliesRow.holds Tryz.pinned (OpenSpec.ofChange messageRepliesSpec)

/-- ITS FALSE NEIGHBOUR: 'it returns false'. Refute it at one input. -/
def messageRepliesWrong : ChangeSpec := { name := "messageReplies", fn := fun _ => fun
  | [d1, d2] => { results := [.lit (.bool false)], args := [d1, d2] }
  | _ => none }
def MessageRepliesWrongFalsely : Prop := messageRepliesRow.holds Tryz.pinned (OpenSpec.ofChange messageRepliesWrong)

/-- 'turnroundlaw02.MessageLinks': WHATEVER THE INPUT: true; the input reads as it did. -/
def messageLinksSpec : ChangeSpec := { name := "messageLinks", fn := fun _ => fun
  | [d] => { results := [.lit (.bool true)], args := [d] }
  | _ => none }
def messageLinksRow : OpenClaim := { program := "ytphoclgibnhjfaagreat", sum := "99f0889349adba3cccdc694347d4c4a331aa16884f511b101ea3e07575b44b29", func := "turnround/turnroundlaw02.MessageLinks", spec := "messageLinks", inPlace := ["internal/abi.NoEscape", "internal/bytealg.MakeNoZero", "internal/bytealg.CountString", "internal/bytealg.IndexByteString", "internal/bytealg.IndexString"], unfollowed := true, recurses := true, named := ["internal/bytealg.MaxLen"], apart := false }
def MessageLinksSaid : Prop := messageLinksRow.holds Tryz.pinned (OpenSpec.ofChange messageLinksSpec)

/-- ITS FALSE NEIGHBOUR: 'it returns false'. Refute it at one input. -/
def messageLinksWrong : ChangeSpec := { name := "messageLinks", fn := fun _ => fun
  | [d] => { results := [.lit (.bool false)], args := [d] }
  | _ => none }
def MessageLinksWrongFalsely : Prop := messageLinksRow.holds Tryz.pinned (OpenSpec.ofChange messageLinksWrong)

/- THE SECOND FORM. 'bulk': how many values and letters a reading holds, each counted each time it is reached (what is shared counts as often as it is met; a slice's spare places count too). A statement '..UptoSaid' is the law's where the arguments, and the package variables that the reading takes, are together of bulk at most 1048576: NARROWER than '..Said'. Prove '..Said' where nothing that the law and all that it calls make is longer than what came in: it says more and counts as full. Else prove '..UptoSaid'. A law counts once. -/
mutual
def uptoBulk {H : Type} : DataW H → Nat
  | .lit (.string bytes) => bytes.length + 1
  | .lit _ => 1
  | .nil => 1
  | .ptr d => uptoBulk d + 1
  | .slice elems spare => uptoBulkAll elems + uptoBulkAll spare + 1
  | .agg parts => uptoBulkAll parts + 1
  | .iface _ d => uptoBulk d + 1
  | .map entries => uptoBulkEntries entries + 1
  | .held _ => 1
def uptoBulkAll {H : Type} : List (DataW H) → Nat
  | [] => 0
  | d :: r => uptoBulk d + uptoBulkAll r
def uptoBulkEntries {H : Type} : List (Lit × DataW H) → Nat
  | [] => 0
  | x :: r => uptoBulkEntry x + uptoBulkEntries r
def uptoBulkEntry {H : Type} : Lit × DataW H → Nat
  | (.string bytes, d) => bytes.length + uptoBulk d + 1
  | (_, d) => uptoBulk d + 1
 end
def uptoSmall : (H : Type) → List (DataW H) → Bool := fun _ ds => decide (uptoBulkAll ds ≤ 1048576)
def OpenSpec.upto (s : _root_.Go.ChangeSpec) : _root_.Go.OpenSpec := { _root_.Go.OpenSpec.ofChange s with cond := some uptoSmall }

/-- 'turnroundlaw02.MessageParses', WHERE WHAT IT READS IS OF BULK AT MOST 1048576: true; the input reads as it did. -/
def messageParsesUptoRow : OpenClaim := { program := "ytphoclgibnhjfaagreat", sum := "99f0889349adba3cccdc694347d4c4a331aa16884f511b101ea3e07575b44b29", func := "turnround/turnroundlaw02.MessageParses", spec := "messageParses", inPlace := ["internal/abi.NoEscape", "internal/bytealg.MakeNoZero", "internal/bytealg.CountString", "internal/bytealg.IndexByteString", "internal/bytealg.IndexString"], unfollowed := true, recurses := true, named := ["internal/bytealg.MaxLen"], apart := false, narrowed := true }
def MessageParsesUptoSaid : Prop := messageParsesUptoRow.holds Tryz.pinned (OpenSpec.upto messageParsesSpec)

/-- 'turnroundlaw02.MessageLeaves', WHERE WHAT IT READS IS OF BULK AT MOST 1048576: true; the input reads as it did. -/
def messageLeavesUptoRow : OpenClaim := { program := "ytphoclgibnhjfaagreat", sum := "99f0889349adba3cccdc694347d4c4a331aa16884f511b101ea3e07575b44b29", func := "turnround/turnroundlaw02.MessageLeaves", spec := "messageLeaves", inPlace := ["internal/abi.NoEscape", "internal/bytealg.MakeNoZero", "internal/bytealg.CountString", "internal/bytealg.IndexByteString", "internal/bytealg.IndexString"], unfollowed := true, recurses := true, named := ["internal/bytealg.MaxLen"], apart := false, narrowed := true }
def MessageLeavesUptoSaid : Prop := messageLeavesUptoRow.holds Tryz.pinned (OpenSpec.upto messageLeavesSpec)

/-- 'turnroundlaw02.MessageChanges', WHERE WHAT IT READS IS OF BULK AT MOST 1048576: true; the input reads as it did. -/
def messageChangesUptoRow : OpenClaim := { program := "ytphoclgibnhjfaagreat", sum := "99f0889349adba3cccdc694347d4c4a331aa16884f511b101ea3e07575b44b29", func := "turnround/turnroundlaw02.MessageChanges", spec := "messageChanges", inPlace := ["internal/abi.NoEscape", "internal/bytealg.MakeNoZero", "internal/bytealg.CountString", "internal/bytealg.IndexByteString", "internal/bytealg.IndexString"], unfollowed := true, recurses := true, named := ["internal/bytealg.MaxLen"], apart := false, narrowed := true }
def MessageChangesUptoSaid : Prop := messageChangesUptoRow.holds Tryz.pinned (OpenSpec.upto messageChangesSpec)

/-- 'turnroundlaw02.MessageAnswers', WHERE WHAT IT READS IS OF BULK AT MOST 1048576: true; the input reads as it did. -/
def messageAnswersUptoRow : OpenClaim := { program := "ytphoclgibnhjfaagreat", sum := "99f0889349adba3cccdc694347d4c4a331aa16884f511b101ea3e07575b44b29", func := "turnround/turnroundlaw02.MessageAnswers", spec := "messageAnswers", inPlace := ["internal/abi.NoEscape", "internal/bytealg.MakeNoZero", "internal/bytealg.CountString", "internal/bytealg.IndexByteString", "internal/bytealg.IndexString"], unfollowed := true, recurses := true, named := ["internal/bytealg.MaxLen"], apart := false, narrowed := true }
def MessageAnswersUptoSaid : Prop := messageAnswersUptoRow.holds Tryz.pinned (OpenSpec.upto messageAnswersSpec)

/-- 'turnroundlaw02.MessageBack', WHERE WHAT IT READS IS OF BULK AT MOST 1048576: true; the input reads as it did. -/
def messageBackUptoRow : OpenClaim := { program := "ytphoclgibnhjfaagreat", sum := "99f0889349adba3cccdc694347d4c4a331aa16884f511b101ea3e07575b44b29", func := "turnround/turnroundlaw02.MessageBack", spec := "messageBack", inPlace := ["internal/abi.NoEscape", "internal/bytealg.MakeNoZero", "internal/bytealg.CountString", "internal/bytealg.IndexByteString", "internal/bytealg.IndexString"], unfollowed := true, recurses := true, named := ["internal/bytealg.MaxLen"], apart := false, narrowed := true }
def MessageBackUptoSaid : Prop := messageBackUptoRow.holds Tryz.pinned (OpenSpec.upto messageBackSpec)

/-- 'turnroundlaw02.MessageStrict', WHERE WHAT IT READS IS OF BULK AT MOST 1048576: true; the input reads as it did. -/
def messageStrictUptoRow : OpenClaim := { program := "ytphoclgibnhjfaagreat", sum := "99f0889349adba3cccdc694347d4c4a331aa16884f511b101ea3e07575b44b29", func := "turnround/turnroundlaw02.MessageStrict", spec := "messageStrict", inPlace := ["internal/abi.NoEscape", "internal/bytealg.MakeNoZero", "internal/bytealg.CountString", "internal/bytealg.IndexByteString", "internal/bytealg.IndexString"], unfollowed := true, recurses := true, named := ["internal/bytealg.MaxLen"], apart := false, narrowed := true }
def MessageStrictUptoSaid : Prop := messageStrictUptoRow.holds Tryz.pinned (OpenSpec.upto messageStrictSpec)

/-- 'turnroundlaw02.MessageLeads', WHERE WHAT IT READS IS OF BULK AT MOST 1048576: true; the input reads as it did. -/
def messageLeadsUptoRow : OpenClaim := { program := "ytphoclgibnhjfaagreat", sum := "99f0889349adba3cccdc694347d4c4a331aa16884f511b101ea3e07575b44b29", func := "turnround/turnroundlaw02.MessageLeads", spec := "messageLeads", inPlace := ["internal/abi.NoEscape", "internal/bytealg.MakeNoZero", "internal/bytealg.CountString", "internal/bytealg.IndexByteString", "internal/bytealg.IndexString"], unfollowed := true, recurses := true, named := ["internal/bytealg.MaxLen"], apart := false, narrowed := true }
def MessageLeadsUptoSaid : Prop := messageLeadsUptoRow.holds Tryz.pinned (OpenSpec.upto messageLeadsSpec)

/-- 'turnroundlaw02.MessageReplies', WHERE WHAT IT READS IS OF BULK AT MOST 1048576: true; the input reads as it did. -/
def messageRepliesUptoRow : OpenClaim := { program := "ytphoclgibnhjfaagreat", sum := "99f0889349adba3cccdc694347d4c4a331aa16884f511b101ea3e07575b44b29", func := "turnround/turnroundlaw02.MessageReplies", spec := "messageReplies", inPlace := ["internal/abi.NoEscape", "internal/bytealg.MakeNoZero", "internal/bytealg.CountString", "internal/bytealg.IndexByteString", "internal/bytealg.IndexString"], unfollowed := true, recurses := true, named := ["internal/bytealg.MaxLen"], apart := false, narrowed := true }
def MessageRepliesUptoSaid : Prop := messageRepliesUptoRow.holds Tryz.pinned (OpenSpec.upto messageRepliesSpec)

/-- 'turnroundlaw02.MessageLinks', WHERE WHAT IT READS IS OF BULK AT MOST 1048576: true; the input reads as it did. -/
def messageLinksUptoRow : OpenClaim := { program := "ytphoclgibnhjfaagreat", sum := "99f0889349adba3cccdc694347d4c4a331aa16884f511b101ea3e07575b44b29", func := "turnround/turnroundlaw02.MessageLinks", spec := "messageLinks", inPlace := ["internal/abi.NoEscape", "internal/bytealg.MakeNoZero", "internal/bytealg.CountString", "internal/bytealg.IndexByteString", "internal/bytealg.IndexString"], unfollowed := true, recurses := true, named := ["internal/bytealg.MaxLen"], apart := false, narrowed := true }
def MessageLinksUptoSaid : Prop := messageLinksUptoRow.holds Tryz.pinned (OpenSpec.upto messageLinksSpec)

end Rows
end Go.Proofs.YtphoclgibnhjfaaGreat
