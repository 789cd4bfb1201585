/-
  No cell of these rows narrows 'for every input' (looked for: loops, veiled, ifaces, maps, wideKeys, modest, calm, conditions, laid).
  DERIVED. THE GIVEN ROWS OF THIS SEAT. 4 by the template 'for every input the law returns true; each argument reads behind the call as it read before'; 0 by the template 'total and deterministic' (their statements: YtkenjknmfhoppaaGreatTotals.lean).
  GIVEN WITH THE SEED: the statements are not yours to turn. If you find one false, say at which input.
  Laid BY PROGRAM, IN A SANDBOX (cutbox-rows.mjs): the forced cells as the released guide's own fill.sh prints them over the translation ec565868806b217c… (all of the seat's roots in one cut). By AI agents, Wed Nov 11 2026. No macro, syntax, notation, axiom, sorry.
-/
import Derived.Test.YtkenjknmfhoppaaGreatChecked
import GoSem.Claim
import GoSem.ClaimJoined
import GoSem.ClaimMapViews
import Derived.JoinedTies
import Derived.KernelRfl
namespace Go.Proofs.YtkenjknmfhoppaaGreat
/- THE CELL 'sum', in the pinned program and in every row, IS THE sha256 OF THE DUMP (.gsa) THAT YtkenjknmfhoppaaGreatProg.lean LOADS. Nothing in Lean hashes anything: it is a label: what it is worth is what the hold of that sum in a sandbox is worth. -/
noncomputable def Tryz.pinned : Pinned := { name := "ytkenjknmfhoppaagreat", sum := "ec565868806b217cbcc685ec8e290d94a9a6523f9902cd770592a5c663ac147b", checked := Tryz.checked }
namespace Rows
def none {H : Type} : Left H := { results := [], args := [] }

/-- 'laws.FnTop': WHATEVER THE INPUT: true; the input reads as it did. -/
def fnTopSpec : ChangeSpec := { name := "fnTop", fn := fun _ => fun
  | [d] => { results := [.lit (.bool true)], args := [d] }
  | _ => none }
def fnTopRow : OpenClaim := { program := "ytkenjknmfhoppaagreat", sum := "ec565868806b217cbcc685ec8e290d94a9a6523f9902cd770592a5c663ac147b", func := "loop.example/s0051/laws.FnTop", spec := "fnTop", unfollowed := true, recurses := true, plainKeys := false, apart := false }
def FnTopSaid : Prop := fnTopRow.holds Tryz.pinned (OpenSpec.ofChange fnTopSpec)

/-- ITS FALSE NEIGHBOUR: 'it returns false'. Refute it at one input. -/
def fnTopWrong : ChangeSpec := { name := "fnTop", fn := fun _ => fun
  | [d] => { results := [.lit (.bool false)], args := [d] }
  | _ => none }
def FnTopWrongFalsely : Prop := fnTopRow.holds Tryz.pinned (OpenSpec.ofChange fnTopWrong)

/-- 'laws.FnPicks': WHATEVER THE INPUT: true; the input reads as it did. -/
def fnPicksSpec : ChangeSpec := { name := "fnPicks", fn := fun _ => fun
  | [d1, d2] => { results := [.lit (.bool true)], args := [d1, d2] }
  | _ => none }
def fnPicksRow : OpenClaim := { program := "ytkenjknmfhoppaagreat", sum := "ec565868806b217cbcc685ec8e290d94a9a6523f9902cd770592a5c663ac147b", func := "loop.example/s0051/laws.FnPicks", spec := "fnPicks", unfollowed := true, recurses := true, plainKeys := false, apart := false }
def FnPicksSaid : Prop := fnPicksRow.holds Tryz.pinned (OpenSpec.ofChange fnPicksSpec)

/-- ITS FALSE NEIGHBOUR: 'it returns false'. Refute it at one input. -/
def fnPicksWrong : ChangeSpec := { name := "fnPicks", fn := fun _ => fun
  | [d1, d2] => { results := [.lit (.bool false)], args := [d1, d2] }
  | _ => none }
def FnPicksWrongFalsely : Prop := fnPicksRow.holds Tryz.pinned (OpenSpec.ofChange fnPicksWrong)

/-- 'laws.FnStood': WHATEVER THE INPUT: true; the input reads as it did. -/
def fnStoodSpec : ChangeSpec := { name := "fnStood", fn := fun _ => fun
  | [d] => { results := [.lit (.bool true)], args := [d] }
  | _ => none }
def fnStoodRow : OpenClaim := { program := "ytkenjknmfhoppaagreat", sum := "ec565868806b217cbcc685ec8e290d94a9a6523f9902cd770592a5c663ac147b", func := "loop.example/s0051/laws.FnStood", spec := "fnStood", unfollowed := true, recurses := true, plainKeys := false, apart := false }
def FnStoodSaid : Prop := fnStoodRow.holds Tryz.pinned (OpenSpec.ofChange fnStoodSpec)

/-- ITS FALSE NEIGHBOUR: 'it returns false'. Refute it at one input. -/
def fnStoodWrong : ChangeSpec := { name := "fnStood", fn := fun _ => fun
  | [d] => { results := [.lit (.bool false)], args := [d] }
  | _ => none }
def FnStoodWrongFalsely : Prop := fnStoodRow.holds Tryz.pinned (OpenSpec.ofChange fnStoodWrong)

/-- 'laws.FnOff': WHATEVER THE INPUT: true; the input reads as it did. -/
def fnOffSpec : ChangeSpec := { name := "fnOff", fn := fun _ => fun
  | [d] => { results := [.lit (.bool true)], args := [d] }
  | _ => none }
def fnOffRow : OpenClaim := { program := "ytkenjknmfhoppaagreat", sum := "ec565868806b217cbcc685ec8e290d94a9a6523f9902cd770592a5c663ac147b", func := "loop.example/s0051/laws.FnOff", spec := "fnOff", unfollowed := true, recurses := true, plainKeys := false, apart := false }
def FnOffSaid : Prop := fnOffRow.holds Tryz.pinned (OpenSpec.ofChange fnOffSpec)

/-- ITS FALSE NEIGHBOUR: 'it returns false'. Refute it at one input. -/
def fnOffWrong : ChangeSpec := { name := "fnOff", fn := fun _ => fun
  | [d] => { results := [.lit (.bool false)], args := [d] }
  | _ => none }
def FnOffWrongFalsely : Prop := fnOffRow.holds Tryz.pinned (OpenSpec.ofChange fnOffWrong)

/- THE SECOND FORM. 'bulk': how many values and letters a reading holds, each counted each time it is reached (what is shared counts as often as it is met; a slice's spare places count too). A statement '..UptoSaid' is the law's where the arguments, and the package variables that the reading takes, are together of bulk at most 1048576: NARROWER than '..Said'. Prove '..Said' where nothing that the law and all that it calls make is longer than what came in: it says more and counts as full. Else prove '..UptoSaid'. A law counts once. -/
mutual
def uptoBulk {H : Type} : DataW H → Nat
  | .lit (.string bytes) => bytes.length + 1
  | .lit _ => 1
  | .nil => 1
  | .ptr d => uptoBulk d + 1
  | .slice elems spare => uptoBulkAll elems + uptoBulkAll spare + 1
  | .agg parts => uptoBulkAll parts + 1
  | .iface _ d => uptoBulk d + 1
  | .map entries => uptoBulkEntries entries + 1
  | .held _ => 1
def uptoBulkAll {H : Type} : List (DataW H) → Nat
  | [] => 0
  | d :: r => uptoBulk d + uptoBulkAll r
def uptoBulkEntries {H : Type} : List (Lit × DataW H) → Nat
  | [] => 0
  | x :: r => uptoBulkEntry x + uptoBulkEntries r
def uptoBulkEntry {H : Type} : Lit × DataW H → Nat
  | (.string bytes, d) => bytes.length + uptoBulk d + 1
  | (_, d) => uptoBulk d + 1
 end
def uptoSmall : (H : Type) → List (DataW H) → Bool := fun _ ds => decide (uptoBulkAll ds ≤ 1048576)
def OpenSpec.upto (s : _root_.Go.ChangeSpec) : _root_.Go.OpenSpec := { _root_.Go.OpenSpec.ofChange s with cond := some uptoSmall }

/-- 'laws.FnTop', WHERE WHAT IT READS IS OF BULK AT MOST 1048576: true; the input reads as it did. -/
def fnTopUptoRow : OpenClaim := { program := "ytkenjknmfhoppaagreat", sum := "ec565868806b217cbcc685ec8e290d94a9a6523f9902cd770592a5c663ac147b", func := "loop.example/s0051/laws.FnTop", spec := "fnTop", unfollowed := true, recurses := true, plainKeys := false, apart := false, narrowed := true }
def FnTopUptoSaid : Prop := fnTopUptoRow.holds Tryz.pinned (OpenSpec.upto fnTopSpec)

/-- 'laws.FnPicks', WHERE WHAT IT READS IS OF BULK AT MOST 1048576: true; the input reads as it did. -/
def fnPicksUptoRow : OpenClaim := { program := "ytkenjknmfhoppaagreat", sum := "ec565868806b217cbcc685ec8e290d94a9a6523f9902cd770592a5c663ac147b", func := "loop.example/s0051/laws.FnPicks", spec := "fnPicks", unfollowed := true, recurses := true, plainKeys := false, apart := false, narrowed := true }
def FnPicksUptoSaid : Prop := fnPicksUptoRow.holds Tryz.pinned (OpenSpec.upto fnPicksSpec)

/-- 'laws.FnStood', WHERE WHAT IT READS IS OF BULK AT MOST 1048576: true; the input reads as it did. -/
def fnStoodUptoRow : OpenClaim := { program := "ytkenjknmfhoppaagreat", sum := "ec565868806b217cbcc685ec8e290d94a9a6523f9902cd770592a5c663ac147b", func := "loop.example/s0051/laws.FnStood", spec := "fnStood", unfollowed := true, recurses := true, plainKeys := false, apart := false, narrowed := true }
def FnStoodUptoSaid : Prop := fnStoodUptoRow.holds Tryz.pinned (OpenSpec.upto fnStoodSpec)

/-- 'laws.FnOff', WHERE WHAT IT READS IS OF BULK AT MOST 1048576: true; the input reads as it did. -/
def fnOffUptoRow : OpenClaim := { program := "ytkenjknmfhoppaagreat", sum := "ec565868806b217cbcc685ec8e290d94a9a6523f9902cd770592a5c663ac147b", func := "loop.example/s0051/laws.FnOff", spec := "fnOff", unfollowed := true, recurses := true, plainKeys := false, apart := false, narrowed := true }
def FnOffUptoSaid : Prop := fnOffUptoRow.holds Tryz.pinned (OpenSpec.upto fnOffSpec)

end Rows
end Go.Proofs.YtkenjknmfhoppaaGreat
