/-
  No cell of these rows narrows 'for every input' (looked for: loops, veiled, ifaces, maps, wideKeys, modest, calm, conditions, laid).
  DERIVED. THE GIVEN ROWS OF THIS SEAT. 12 by the template 'for every input the law returns true; each argument reads behind the call as it read before'; 0 by the template 'total and deterministic' (their statements: YthcppbmkacbbiaaGreatTotals.lean).
  GIVEN WITH THE SEED: the statements are not yours to turn. If you find one false, say at which input.
  Laid BY PROGRAM, IN A SANDBOX (cutbox-rows.mjs): the forced cells as the released guide's own fill.sh prints them over the translation 49d08dbc161dd838… (all of the seat's roots in one cut). By AI agents, Wed Nov 11 2026. No macro, syntax, notation, axiom, sorry.
-/
import Derived.Test.YthcppbmkacbbiaaGreatChecked
import GoSem.Claim
import GoSem.ClaimJoined
import GoSem.ClaimMapViews
import Derived.JoinedTies
import Derived.KernelRfl
namespace Go.Proofs.YthcppbmkacbbiaaGreat
/- THE CELL 'sum', in the pinned program and in every row, IS THE sha256 OF THE DUMP (.gsa) THAT YthcppbmkacbbiaaGreatProg.lean LOADS. Nothing in Lean hashes anything: it is a label: what it is worth is what the hold of that sum in a sandbox is worth. -/
noncomputable def Tryz.pinned : Pinned := { name := "ythcppbmkacbbiaagreat", sum := "49d08dbc161dd8382d68f8b095f45f12419ab6786817bb7e832cf153dcadd66e", checked := Tryz.checked }
namespace Rows
def none {H : Type} : Left H := { results := [], args := [] }

/-- 'akinlaw.Checks': WHATEVER THE INPUT: true; the input reads as it did. -/
def checksSpec : ChangeSpec := { name := "checks", fn := fun _ => fun
  | [d] => { results := [.lit (.bool true)], args := [d] }
  | _ => none }
def checksRow : OpenClaim := { program := "ythcppbmkacbbiaagreat", sum := "49d08dbc161dd8382d68f8b095f45f12419ab6786817bb7e832cf153dcadd66e", func := "akin/akinlaw.Checks", spec := "checks", inPlace := ["internal/abi.NoEscape", "internal/bytealg.MakeNoZero"], unfollowed := true, recurses := true, plainKeys := false, apart := false }
def ChecksSaid : Prop := checksRow.holds Tryz.pinned (OpenSpec.ofChange checksSpec)

/-- ITS FALSE NEIGHBOUR: 'it returns false'. Refute it at one input. -/
def checksWrong : ChangeSpec := { name := "checks", fn := fun _ => fun
  | [d] => { results := [.lit (.bool false)], args := [d] }
  | _ => none }
def ChecksWrongFalsely : Prop := checksRow.holds Tryz.pinned (OpenSpec.ofChange checksWrong)

/-- 'akinlaw.Partings': WHATEVER THE INPUT: true; the input reads as it did. -/
def partingsSpec : ChangeSpec := { name := "partings", fn := fun _ => fun
  | [d] => { results := [.lit (.bool true)], args := [d] }
  | _ => none }
def partingsRow : OpenClaim := { program := "ythcppbmkacbbiaagreat", sum := "49d08dbc161dd8382d68f8b095f45f12419ab6786817bb7e832cf153dcadd66e", func := "akin/akinlaw.Partings", spec := "partings", inPlace := ["internal/abi.NoEscape", "internal/bytealg.MakeNoZero"], unfollowed := true, recurses := true, plainKeys := false, apart := false }
def PartingsSaid : Prop := partingsRow.holds Tryz.pinned (OpenSpec.ofChange partingsSpec)

/-- ITS FALSE NEIGHBOUR: 'it returns false'. Refute it at one input. -/
def partingsWrong : ChangeSpec := { name := "partings", fn := fun _ => fun
  | [d] => { results := [.lit (.bool false)], args := [d] }
  | _ => none }
def PartingsWrongFalsely : Prop := partingsRow.holds Tryz.pinned (OpenSpec.ofChange partingsWrong)

/-- 'akinlaw.Models': WHATEVER THE INPUT: true; the input reads as it did. -/
def modelsSpec : ChangeSpec := { name := "models", fn := fun _ => fun
  | [d] => { results := [.lit (.bool true)], args := [d] }
  | _ => none }
def modelsRow : OpenClaim := { program := "ythcppbmkacbbiaagreat", sum := "49d08dbc161dd8382d68f8b095f45f12419ab6786817bb7e832cf153dcadd66e", func := "akin/akinlaw.Models", spec := "models", inPlace := ["internal/abi.NoEscape", "internal/bytealg.MakeNoZero"], unfollowed := true, recurses := true, plainKeys := false, apart := false }
def ModelsSaid : Prop := modelsRow.holds Tryz.pinned (OpenSpec.ofChange modelsSpec)

/-- ITS FALSE NEIGHBOUR: 'it returns false'. Refute it at one input. -/
def modelsWrong : ChangeSpec := { name := "models", fn := fun _ => fun
  | [d] => { results := [.lit (.bool false)], args := [d] }
  | _ => none }
def ModelsWrongFalsely : Prop := modelsRow.holds Tryz.pinned (OpenSpec.ofChange modelsWrong)

/-- 'akinlaw.Counts': WHATEVER THE INPUT: true; the input reads as it did. -/
def countsSpec : ChangeSpec := { name := "counts", fn := fun _ => fun
  | [d] => { results := [.lit (.bool true)], args := [d] }
  | _ => none }
def countsRow : OpenClaim := { program := "ythcppbmkacbbiaagreat", sum := "49d08dbc161dd8382d68f8b095f45f12419ab6786817bb7e832cf153dcadd66e", func := "akin/akinlaw.Counts", spec := "counts", inPlace := ["internal/abi.NoEscape", "internal/bytealg.MakeNoZero"], unfollowed := true, recurses := true, plainKeys := false, apart := false }
def CountsSaid : Prop := countsRow.holds Tryz.pinned (OpenSpec.ofChange countsSpec)

/-- ITS FALSE NEIGHBOUR: 'it returns false'. Refute it at one input. -/
def countsWrong : ChangeSpec := { name := "counts", fn := fun _ => fun
  | [d] => { results := [.lit (.bool false)], args := [d] }
  | _ => none }
def CountsWrongFalsely : Prop := countsRow.holds Tryz.pinned (OpenSpec.ofChange countsWrong)

/-- 'akinkeep.Whole': WHATEVER THE INPUT: true; the input reads as it did. -/
def wholeSpec : ChangeSpec := { name := "whole", fn := fun _ => fun
  | [d] => { results := [.lit (.bool true)], args := [d] }
  | _ => none }
def wholeRow : OpenClaim := { program := "ythcppbmkacbbiaagreat", sum := "49d08dbc161dd8382d68f8b095f45f12419ab6786817bb7e832cf153dcadd66e", func := "akin/akinkeep.Whole", spec := "whole", unfollowed := true, recurses := true, plainKeys := false, apart := false }
def WholeSaid : Prop := wholeRow.holds Tryz.pinned (OpenSpec.ofChange wholeSpec)

/-- ITS FALSE NEIGHBOUR: 'it returns false'. Refute it at one input. -/
def wholeWrong : ChangeSpec := { name := "whole", fn := fun _ => fun
  | [d] => { results := [.lit (.bool false)], args := [d] }
  | _ => none }
def WholeWrongFalsely : Prop := wholeRow.holds Tryz.pinned (OpenSpec.ofChange wholeWrong)

/-- 'akinkeep.Joined': WHATEVER THE INPUT: true; the input reads as it did. -/
def joinedSpec : ChangeSpec := { name := "joined", fn := fun _ => fun
  | [d1, d2] => { results := [.lit (.bool true)], args := [d1, d2] }
  | _ => none }
def joinedRow : OpenClaim := { program := "ythcppbmkacbbiaagreat", sum := "49d08dbc161dd8382d68f8b095f45f12419ab6786817bb7e832cf153dcadd66e", func := "akin/akinkeep.Joined", spec := "joined", unfollowed := true, recurses := true, plainKeys := false, apart := false }
def JoinedSaid : Prop := joinedRow.holds Tryz.pinned (OpenSpec.ofChange joinedSpec)

/-- ITS FALSE NEIGHBOUR: 'it returns false'. Refute it at one input. -/
def joinedWrong : ChangeSpec := { name := "joined", fn := fun _ => fun
  | [d1, d2] => { results := [.lit (.bool false)], args := [d1, d2] }
  | _ => none }
def JoinedWrongFalsely : Prop := joinedRow.holds Tryz.pinned (OpenSpec.ofChange joinedWrong)

/-- 'akinkeep.Named': WHATEVER THE INPUT: true; the input reads as it did. -/
def namedSpec : ChangeSpec := { name := "named", fn := fun _ => fun
  | [d1, d2] => { results := [.lit (.bool true)], args := [d1, d2] }
  | _ => none }
def namedRow : OpenClaim := { program := "ythcppbmkacbbiaagreat", sum := "49d08dbc161dd8382d68f8b095f45f12419ab6786817bb7e832cf153dcadd66e", func := "akin/akinkeep.Named", spec := "named", unfollowed := true, recurses := true, plainKeys := false, apart := false }
def NamedSaid : Prop := namedRow.holds Tryz.pinned (OpenSpec.ofChange namedSpec)

/-- ITS FALSE NEIGHBOUR: 'it returns false'. Refute it at one input. -/
def namedWrong : ChangeSpec := { name := "named", fn := fun _ => fun
  | [d1, d2] => { results := [.lit (.bool false)], args := [d1, d2] }
  | _ => none }
def NamedWrongFalsely : Prop := namedRow.holds Tryz.pinned (OpenSpec.ofChange namedWrong)

/-- 'akinlaw.Decides': WHATEVER THE INPUT: true; the input reads as it did. -/
def decidesSpec : ChangeSpec := { name := "decides", fn := fun _ => fun
  | [d] => { results := [.lit (.bool true)], args := [d] }
  | _ => none }
def decidesRow : OpenClaim := { program := "ythcppbmkacbbiaagreat", sum := "49d08dbc161dd8382d68f8b095f45f12419ab6786817bb7e832cf153dcadd66e", func := "akin/akinlaw.Decides", spec := "decides", inPlace := ["internal/abi.NoEscape", "internal/bytealg.MakeNoZero"], unfollowed := true, recurses := true, plainKeys := false, apart := false }
def DecidesSaid : Prop := decidesRow.holds Tryz.pinned (OpenSpec.ofChange decidesSpec)

/-- ITS FALSE NEIGHBOUR: 'it returns false'. Refute it at one input. -/
def decidesWrong : ChangeSpec := { name := "decides", fn := fun _ => fun
  | [d] => { results := [.lit (.bool false)], args := [d] }
  | _ => none }
def DecidesWrongFalsely : Prop := decidesRow.holds Tryz.pinned (OpenSpec.ofChange decidesWrong)

/-- 'akinkeep.Agree': WHATEVER THE INPUT: true; the input reads as it did. -/
def agreeSpec : ChangeSpec := { name := "agree", fn := fun _ => fun
  | [d1, d2, d3] => { results := [.lit (.bool true)], args := [d1, d2, d3] }
  | _ => none }
def agreeRow : OpenClaim := { program := "ythcppbmkacbbiaagreat", sum := "49d08dbc161dd8382d68f8b095f45f12419ab6786817bb7e832cf153dcadd66e", func := "akin/akinkeep.Agree", spec := "agree", inPlace := ["internal/abi.NoEscape"], unfollowed := true, recurses := true, plainKeys := false, apart := false }
def AgreeSaid : Prop := agreeRow.holds Tryz.pinned (OpenSpec.ofChange agreeSpec)

/-- ITS FALSE NEIGHBOUR: 'it returns false'. Refute it at one input. -/
def agreeWrong : ChangeSpec := { name := "agree", fn := fun _ => fun
  | [d1, d2, d3] => { results := [.lit (.bool false)], args := [d1, d2, d3] }
  | _ => none }
def AgreeWrongFalsely : Prop := agreeRow.holds Tryz.pinned (OpenSpec.ofChange agreeWrong)

/-- 'akinkeep.Stronger': WHATEVER THE INPUT: true; the input reads as it did. -/
def strongerSpec : ChangeSpec := { name := "stronger", fn := fun _ => fun
  | [d1, d2, d3] => { results := [.lit (.bool true)], args := [d1, d2, d3] }
  | _ => none }
def strongerRow : OpenClaim := { program := "ythcppbmkacbbiaagreat", sum := "49d08dbc161dd8382d68f8b095f45f12419ab6786817bb7e832cf153dcadd66e", func := "akin/akinkeep.Stronger", spec := "stronger", inPlace := ["internal/abi.NoEscape"], unfollowed := true, recurses := true, plainKeys := false, apart := false }
def StrongerSaid : Prop := strongerRow.holds Tryz.pinned (OpenSpec.ofChange strongerSpec)

/-- ITS FALSE NEIGHBOUR: 'it returns false'. Refute it at one input. -/
def strongerWrong : ChangeSpec := { name := "stronger", fn := fun _ => fun
  | [d1, d2, d3] => { results := [.lit (.bool false)], args := [d1, d2, d3] }
  | _ => none }
def StrongerWrongFalsely : Prop := strongerRow.holds Tryz.pinned (OpenSpec.ofChange strongerWrong)

/-- 'akinkeep.Equality': WHATEVER THE INPUT: true; the input reads as it did. -/
def equalitySpec : ChangeSpec := { name := "equality", fn := fun _ => fun
  | [d1, d2, d3, d4, d5] => { results := [.lit (.bool true)], args := [d1, d2, d3, d4, d5] }
  | _ => none }
def equalityRow : OpenClaim := { program := "ythcppbmkacbbiaagreat", sum := "49d08dbc161dd8382d68f8b095f45f12419ab6786817bb7e832cf153dcadd66e", func := "akin/akinkeep.Equality", spec := "equality", inPlace := ["internal/abi.NoEscape"], unfollowed := true, recurses := true, plainKeys := false, apart := false }
def EqualitySaid : Prop := equalityRow.holds Tryz.pinned (OpenSpec.ofChange equalitySpec)

/-- ITS FALSE NEIGHBOUR: 'it returns false'. Refute it at one input. -/
def equalityWrong : ChangeSpec := { name := "equality", fn := fun _ => fun
  | [d1, d2, d3, d4, d5] => { results := [.lit (.bool false)], args := [d1, d2, d3, d4, d5] }
  | _ => none }
def EqualityWrongFalsely : Prop := equalityRow.holds Tryz.pinned (OpenSpec.ofChange equalityWrong)

/-- 'akinkeep.Freedom': WHATEVER THE INPUT: true; the input reads as it did. -/
def freedomSpec : ChangeSpec := { name := "freedom", fn := fun _ => fun
  | [d1, d2, d3, d4] => { results := [.lit (.bool true)], args := [d1, d2, d3, d4] }
  | _ => none }
def freedomRow : OpenClaim := { program := "ythcppbmkacbbiaagreat", sum := "49d08dbc161dd8382d68f8b095f45f12419ab6786817bb7e832cf153dcadd66e", func := "akin/akinkeep.Freedom", spec := "freedom", inPlace := ["internal/abi.NoEscape"], unfollowed := true, recurses := true, plainKeys := false, apart := false }
def FreedomSaid : Prop := freedomRow.holds Tryz.pinned (OpenSpec.ofChange freedomSpec)

/-- ITS FALSE NEIGHBOUR: 'it returns false'. Refute it at one input. -/
def freedomWrong : ChangeSpec := { name := "freedom", fn := fun _ => fun
  | [d1, d2, d3, d4] => { results := [.lit (.bool false)], args := [d1, d2, d3, d4] }
  | _ => none }
def FreedomWrongFalsely : Prop := freedomRow.holds Tryz.pinned (OpenSpec.ofChange freedomWrong)

/- THE SECOND FORM. 'bulk': how many values and letters a reading holds, each counted each time it is reached (what is shared counts as often as it is met; a slice's spare places count too). A statement '..UptoSaid' is the law's where the arguments, and the package variables that the reading takes, are together of bulk at most 1048576: NARROWER than '..Said'. Prove '..Said' where nothing that the law and all that it calls make is longer than what came in: it says more and counts as full. Else prove '..UptoSaid'. A law counts once. -/
mutual
def uptoBulk {H : Type} : DataW H → Nat
  | .lit (.string bytes) => bytes.length + 1
  | .lit _ => 1
  | .nil => 1
  | .ptr d => uptoBulk d + 1
  | .slice elems spare => uptoBulkAll elems + uptoBulkAll spare + 1
  | .agg parts => uptoBulkAll parts + 1
  | .iface _ d => uptoBulk d + 1
  | .map entries => uptoBulkEntries entries + 1
  | .held _ => 1
def uptoBulkAll {H : Type} : List (DataW H) → Nat
  | [] => 0
  | d :: r => uptoBulk d + uptoBulkAll r
def uptoBulkEntries {H : Type} : List (Lit × DataW H) → Nat
  | [] => 0
  | x :: r => uptoBulkEntry x + uptoBulkEntries r
def uptoBulkEntry {H : Type} : Lit × DataW H → Nat
  | (.string bytes, d) => bytes.length + uptoBulk d + 1
  | (_, d) => uptoBulk d + 1
 end
def uptoSmall : (H : Type) → List (DataW H) → Bool := fun _ ds => decide (uptoBulkAll ds ≤ 1048576)
def OpenSpec.upto (s : _root_.Go.ChangeSpec) : _root_.Go.OpenSpec := { _root_.Go.OpenSpec.ofChange s with cond := some uptoSmall }

/-- 'akinlaw.Checks', WHERE WHAT IT READS IS OF BULK AT MOST 1048576: true; the input reads as it did. -/
def checksUptoRow : OpenClaim := { program := "ythcppbmkacbbiaagreat", sum := "49d08dbc161dd8382d68f8b095f45f12419ab6786817bb7e832cf153dcadd66e", func := "akin/akinlaw.Checks", spec := "checks", inPlace := ["internal/abi.NoEscape", "internal/bytealg.MakeNoZero"], unfollowed := true, recurses := true, plainKeys := false, apart := false, narrowed := true }
def ChecksUptoSaid : Prop := checksUptoRow.holds Tryz.pinned (OpenSpec.upto checksSpec)

/-- 'akinlaw.Partings', WHERE WHAT IT READS IS OF BULK AT MOST 1048576: true; the input reads as it did. -/
def partingsUptoRow : OpenClaim := { program := "ythcppbmkacbbiaagreat", sum := "49d08dbc161dd8382d68f8b095f45f12419ab6786817bb7e832cf153dcadd66e", func := "akin/akinlaw.Partings", spec := "partings", inPlace := ["internal/abi.NoEscape", "internal/bytealg.MakeNoZero"], unfollowed := true, recurses := true, plainKeys := false, apart := false, narrowed := true }
def PartingsUptoSaid : Prop := partingsUptoRow.holds Tryz.pinned (OpenSpec.upto partingsSpec)

/-- 'akinlaw.Models', WHERE WHAT IT READS IS OF BULK AT MOST 1048576: true; the input reads as it did. -/
def modelsUptoRow : OpenClaim := { program := "ythcppbmkacbbiaagreat", sum := "49d08dbc161dd8382d68f8b095f45f12419ab6786817bb7e832cf153dcadd66e", func := "akin/akinlaw.Models", spec := "models", inPlace := ["internal/abi.NoEscape", "internal/bytealg.MakeNoZero"], unfollowed := true, recurses := true, plainKeys := false, apart := false, narrowed := true }
def ModelsUptoSaid : Prop := modelsUptoRow.holds Tryz.pinned (OpenSpec.upto modelsSpec)

/-- 'akinlaw.Counts', WHERE WHAT IT READS IS OF BULK AT MOST 1048576: true; the input reads as it did. -/
def countsUptoRow : OpenClaim := { program := "ythcppbmkacbbiaagreat", sum := "49d08dbc161dd8382d68f8b095f45f12419ab6786817bb7e832cf153dcadd66e", func := "akin/akinlaw.Counts", spec := "counts", inPlace := ["internal/abi.NoEscape", "internal/bytealg.MakeNoZero"], unfollowed := true, recurses := true, plainKeys := false, apart := false, narrowed := true }
def CountsUptoSaid : Prop := countsUptoRow.holds Tryz.pinned (OpenSpec.upto countsSpec)

/-- 'akinkeep.Whole', WHERE WHAT IT READS IS OF BULK AT MOST 1048576: true; the input reads as it did. -/
def wholeUptoRow : OpenClaim := { program := "ythcppbmkacbbiaagreat", sum := "49d08dbc161dd8382d68f8b095f45f12419ab6786817bb7e832cf153dcadd66e", func := "akin/akinkeep.Whole", spec := "whole", unfollowed := true, recurses := true, plainKeys := false, apart := false, narrowed := true }
def WholeUptoSaid : Prop := wholeUptoRow.holds Tryz.pinned (OpenSpec.upto wholeSpec)

/-- 'akinkeep.Joined', WHERE WHAT IT READS IS OF BULK AT MOST 1048576: true; the input reads as it did. -/
def joinedUptoRow : OpenClaim := { program := "ythcppbmkacbbiaagreat", sum := "49d08dbc161dd8382d68f8b095f45f12419ab6786817bb7e832cf153dcadd66e", func := "akin/akinkeep.Joined", spec := "joined", unfollowed := true, recurses := true, plainKeys := false, apart := false, narrowed := true }
def JoinedUptoSaid : Prop := joinedUptoRow.holds Tryz.pinned (OpenSpec.upto joinedSpec)

/-- 'akinkeep.Named', WHERE WHAT IT READS IS OF BULK AT MOST 1048576: true; the input reads as it did. -/
def namedUptoRow : OpenClaim := { program := "ythcppbmkacbbiaagreat", sum := "49d08dbc161dd8382d68f8b095f45f12419ab6786817bb7e832cf153dcadd66e", func := "akin/akinkeep.Named", spec := "named", unfollowed := true, recurses := true, plainKeys := false, apart := false, narrowed := true }
def NamedUptoSaid : Prop := namedUptoRow.holds Tryz.pinned (OpenSpec.upto namedSpec)

/-- 'akinlaw.Decides', WHERE WHAT IT READS IS OF BULK AT MOST 1048576: true; the input reads as it did. -/
def decidesUptoRow : OpenClaim := { program := "ythcppbmkacbbiaagreat", sum := "49d08dbc161dd8382d68f8b095f45f12419ab6786817bb7e832cf153dcadd66e", func := "akin/akinlaw.Decides", spec := "decides", inPlace := ["internal/abi.NoEscape", "internal/bytealg.MakeNoZero"], unfollowed := true, recurses := true, plainKeys := false, apart := false, narrowed := true }
def DecidesUptoSaid : Prop := decidesUptoRow.holds Tryz.pinned (OpenSpec.upto decidesSpec)

/-- 'akinkeep.Agree', WHERE WHAT IT READS IS OF BULK AT MOST 1048576: true; the input reads as it did. -/
def agreeUptoRow : OpenClaim := { program := "ythcppbmkacbbiaagreat", sum := "49d08dbc161dd8382d68f8b095f45f12419ab6786817bb7e832cf153dcadd66e", func := "akin/akinkeep.Agree", spec := "agree", inPlace := ["internal/abi.NoEscape"], unfollowed := true, recurses := true, plainKeys := false, apart := false, narrowed := true }
def AgreeUptoSaid : Prop := agreeUptoRow.holds Tryz.pinned (OpenSpec.upto agreeSpec)

/-- 'akinkeep.Stronger', WHERE WHAT IT READS IS OF BULK AT MOST 1048576: true; the input reads as it did. -/
def strongerUptoRow : OpenClaim := { program := "ythcppbmkacbbiaagreat", sum := "49d08dbc161dd8382d68f8b095f45f12419ab6786817bb7e832cf153dcadd66e", func := "akin/akinkeep.Stronger", spec := "stronger", inPlace := ["internal/abi.NoEscape"], unfollowed := true, recurses := true, plainKeys := false, apart := false, narrowed := true }
def StrongerUptoSaid : Prop := strongerUptoRow.holds Tryz.pinned (OpenSpec.upto strongerSpec)

/-- 'akinkeep.Equality', WHERE WHAT IT READS IS OF BULK AT MOST 1048576: true; the input reads as it did. -/
def equalityUptoRow : OpenClaim := { program := "ythcppbmkacbbiaagreat", sum := "49d08dbc161dd8382d68f8b095f45f12419ab6786817bb7e832cf153dcadd66e", func := "akin/akinkeep.Equality", spec := "equality", inPlace := ["internal/abi.NoEscape"], unfollowed := true, recurses := true, plainKeys := false, apart := false, narrowed := true }
def EqualityUptoSaid : Prop := equalityUptoRow.holds Tryz.pinned (OpenSpec.upto equalitySpec)

/-- 'akinkeep.Freedom', WHERE WHAT IT READS IS OF BULK AT MOST 1048576: true; the input reads as it did. -/
def freedomUptoRow : OpenClaim := { program := "ythcppbmkacbbiaagreat", sum := "49d08dbc161dd8382d68f8b095f45f12419ab6786817bb7e832cf153dcadd66e", func := "akin/akinkeep.Freedom", spec := "freedom", inPlace := ["internal/abi.NoEscape"], unfollowed := true, recurses := true, plainKeys := false, apart := false, narrowed := true }
def FreedomUptoSaid : Prop := freedomUptoRow.holds Tryz.pinned (OpenSpec.upto freedomSpec)

end Rows
end Go.Proofs.YthcppbmkacbbiaaGreat
