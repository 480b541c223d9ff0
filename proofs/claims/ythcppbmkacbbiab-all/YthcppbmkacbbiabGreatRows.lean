/-
  No cell of these rows narrows 'for every input' (looked for: loops, veiled, ifaces, maps, wideKeys, modest, calm, conditions, laid).
  DERIVED. THE GIVEN ROWS OF THIS SEAT. 3 by the template 'for every input the law returns true; each argument reads behind the call as it read before'; 0 by the template 'total and deterministic' (their statements: YthcppbmkacbbiabGreatTotals.lean).
  GIVEN WITH THE SEED: the statements are not yours to turn. If you find one false, say at which input.
  Laid BY PROGRAM, IN A SANDBOX (cutbox-rows.mjs): the forced cells as the released guide's own fill.sh prints them over the translation 0e9438a8d327a5b1… (all of the seat's roots in one cut). By AI agents, Wed Nov 11 2026. No macro, syntax, notation, axiom, sorry.
-/
import Derived.Test.YthcppbmkacbbiabGreatChecked
import GoSem.Claim
import GoSem.ClaimJoined
import GoSem.ClaimMapViews
import Derived.JoinedTies
import Derived.KernelRfl
namespace Go.Proofs.YthcppbmkacbbiabGreat
/- THE CELL 'sum', in the pinned program and in every row, IS THE sha256 OF THE DUMP (.gsa) THAT YthcppbmkacbbiabGreatProg.lean LOADS. Nothing in Lean hashes anything: it is a label: what it is worth is what the hold of that sum in a sandbox is worth. -/
noncomputable def Tryz.pinned : Pinned := { name := "ythcppbmkacbbiabgreat", sum := "0e9438a8d327a5b1cf9612cb1dbfd73f0c72b41f389dd8a326538c6c6899aaea", checked := Tryz.checked }
namespace Rows
def none {H : Type} : Left H := { results := [], args := [] }

/-- 'akinkeep.Chain': WHATEVER THE INPUT: true; the input reads as it did. -/
def chainSpec : ChangeSpec := { name := "chain", fn := fun _ => fun
  | [d1, d2, d3, d4] => { results := [.lit (.bool true)], args := [d1, d2, d3, d4] }
  | _ => none }
def chainRow : OpenClaim := { program := "ythcppbmkacbbiabgreat", sum := "0e9438a8d327a5b1cf9612cb1dbfd73f0c72b41f389dd8a326538c6c6899aaea", func := "akin/akinkeep.Chain", spec := "chain", inPlace := ["internal/abi.NoEscape"], unfollowed := true, recurses := true, plainKeys := false, apart := false }
def ChainSaid : Prop := chainRow.holds Tryz.pinned (OpenSpec.ofChange chainSpec)

/-- ITS FALSE NEIGHBOUR: 'it returns false'. Refute it at one input. -/
def chainWrong : ChangeSpec := { name := "chain", fn := fun _ => fun
  | [d1, d2, d3, d4] => { results := [.lit (.bool false)], args := [d1, d2, d3, d4] }
  | _ => none }
def ChainWrongFalsely : Prop := chainRow.holds Tryz.pinned (OpenSpec.ofChange chainWrong)

/-- 'akinkeep.Renamed': WHATEVER THE INPUT: true; the input reads as it did. -/
def renamedSpec : ChangeSpec := { name := "renamed", fn := fun _ => fun
  | [d1, d2, d3] => { results := [.lit (.bool true)], args := [d1, d2, d3] }
  | _ => none }
def renamedRow : OpenClaim := { program := "ythcppbmkacbbiabgreat", sum := "0e9438a8d327a5b1cf9612cb1dbfd73f0c72b41f389dd8a326538c6c6899aaea", func := "akin/akinkeep.Renamed", spec := "renamed", inPlace := ["internal/abi.NoEscape"], unfollowed := true, recurses := true, plainKeys := false, apart := false }
def RenamedSaid : Prop := renamedRow.holds Tryz.pinned (OpenSpec.ofChange renamedSpec)

/-- ITS FALSE NEIGHBOUR: 'it returns false'. Refute it at one input. -/
def renamedWrong : ChangeSpec := { name := "renamed", fn := fun _ => fun
  | [d1, d2, d3] => { results := [.lit (.bool false)], args := [d1, d2, d3] }
  | _ => none }
def RenamedWrongFalsely : Prop := renamedRow.holds Tryz.pinned (OpenSpec.ofChange renamedWrong)

/-- 'akinlaw.All': WHATEVER THE INPUT: true; the input reads as it did. -/
def allSpec : ChangeSpec := { name := "all", fn := fun _ => fun
  | [d] => { results := [.lit (.bool true)], args := [d] }
  | _ => none }
def allRow : OpenClaim := { program := "ythcppbmkacbbiabgreat", sum := "0e9438a8d327a5b1cf9612cb1dbfd73f0c72b41f389dd8a326538c6c6899aaea", func := "akin/akinlaw.All", spec := "all", inPlace := ["internal/abi.NoEscape", "internal/bytealg.MakeNoZero"], unfollowed := true, recurses := true, plainKeys := false, apart := false }
def AllSaid : Prop := allRow.holds Tryz.pinned (OpenSpec.ofChange allSpec)

/-- ITS FALSE NEIGHBOUR: 'it returns false'. Refute it at one input. -/
def allWrong : ChangeSpec := { name := "all", fn := fun _ => fun
  | [d] => { results := [.lit (.bool false)], args := [d] }
  | _ => none }
def AllWrongFalsely : Prop := allRow.holds Tryz.pinned (OpenSpec.ofChange allWrong)

/- THE SECOND FORM. 'bulk': how many values and letters a reading holds, each counted each time it is reached (what is shared counts as often as it is met; a slice's spare places count too). A statement '..UptoSaid' is the law's where the arguments, and the package variables that the reading takes, are together of bulk at most 1048576: NARROWER than '..Said'. Prove '..Said' where nothing that the law and all that it calls make is longer than what came in: it says more and counts as full. Else prove '..UptoSaid'. A law counts once. -/
mutual
def uptoBulk {H : Type} : DataW H → Nat
  | .lit (.string bytes) => bytes.length + 1
  | .lit _ => 1
  | .nil => 1
  | .ptr d => uptoBulk d + 1
  | .slice elems spare => uptoBulkAll elems + uptoBulkAll spare + 1
  | .agg parts => uptoBulkAll parts + 1
  | .iface _ d => uptoBulk d + 1
  | .map entries => uptoBulkEntries entries + 1
  | .held _ => 1
def uptoBulkAll {H : Type} : List (DataW H) → Nat
  | [] => 0
  | d :: r => uptoBulk d + uptoBulkAll r
def uptoBulkEntries {H : Type} : List (Lit × DataW H) → Nat
  | [] => 0
  | x :: r => uptoBulkEntry x + uptoBulkEntries r
def uptoBulkEntry {H : Type} : Lit × DataW H → Nat
  | (.string bytes, d) => bytes.length + uptoBulk d + 1
  | (_, d) => uptoBulk d + 1
 end
def uptoSmall : (H : Type) → List (DataW H) → Bool := fun _ ds => decide (uptoBulkAll ds ≤ 1048576)
def OpenSpec.upto (s : _root_.Go.ChangeSpec) : _root_.Go.OpenSpec := { _root_.Go.OpenSpec.ofChange s with cond := some uptoSmall }

/-- 'akinkeep.Chain', WHERE WHAT IT READS IS OF BULK AT MOST 1048576: true; the input reads as it did. -/
def chainUptoRow : OpenClaim := { program := "ythcppbmkacbbiabgreat", sum := "0e9438a8d327a5b1cf9612cb1dbfd73f0c72b41f389dd8a326538c6c6899aaea", func := "akin/akinkeep.Chain", spec := "chain", inPlace := ["internal/abi.NoEscape"], unfollowed := true, recurses := true, plainKeys := false, apart := false, narrowed := true }
def ChainUptoSaid : Prop := chainUptoRow.holds Tryz.pinned (OpenSpec.upto chainSpec)

/-- 'akinkeep.Renamed', WHERE WHAT IT READS IS OF BULK AT MOST 1048576: true; the input reads as it did. -/
def renamedUptoRow : OpenClaim := { program := "ythcppbmkacbbiabgreat", sum := "0e9438a8d327a5b1cf9612cb1dbfd73f0c72b41f389dd8a326538c6c6899aaea", func := "akin/akinkeep.Renamed", spec := "renamed", inPlace := ["internal/abi.NoEscape"], unfollowed := true, recurses := true, plainKeys := false, apart := false, narrowed := true }
def RenamedUptoSaid : Prop := renamedUptoRow.holds Tryz.pinned (OpenSpec.upto renamedSpec)

/-- 'akinlaw.All', WHERE WHAT IT READS IS OF BULK AT MOST 1048576: true; the input reads as it did. -/
def allUptoRow : OpenClaim := { program := "ythcppbmkacbbiabgreat", sum := "0e9438a8d327a5b1cf9612cb1dbfd73f0c72b41f389dd8a326538c6c6899aaea", func := "akin/akinlaw.All", spec := "all", inPlace := ["internal/abi.NoEscape", "internal/bytealg.MakeNoZero"], unfollowed := true, recurses := true, plainKeys := false, apart := false, narrowed := true }
def AllUptoSaid : Prop := allUptoRow.holds Tryz.pinned (OpenSpec.upto allSpec)

end Rows
end Go.Proofs.YthcppbmkacbbiabGreat
