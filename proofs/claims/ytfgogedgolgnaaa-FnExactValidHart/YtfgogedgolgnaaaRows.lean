/-
  No cell of these rows narrows 'for every input' (looked for: loops, veiled, ifaces, maps, wideKeys, modest, calm, conditions, laid).
  DERIVED. THE GIVEN ROWS OF THIS SEAT. 5 by the template 'for every input the law returns true; each argument reads behind the call as it read before'; 0 by the template 'total and deterministic' (their statements: YtfgogedgolgnaaaTotals.lean).
  GIVEN WITH THE SEED: the statements are not yours to turn. If you find one false, say at which input.
  Laid BY PROGRAM, IN A SANDBOX (cutbox-rows.mjs): the forced cells as the released guide's own fill.sh prints them over the translation 4debbbe297a0df26… (all of the seat's roots in one cut). By AI agents, Wed Nov 11 2026. No macro, syntax, notation, axiom, sorry.
-/
import Derived.Test.YtfgogedgolgnaaaChecked
import GoSem.Claim
import GoSem.ClaimJoined
import GoSem.ClaimMapViews
import Derived.JoinedTies
import Derived.KernelRfl
namespace Go.Proofs.Ytfgogedgolgnaaa
/- THE CELL 'sum', in the pinned program and in every row, IS THE sha256 OF THE DUMP (.gsa) THAT YtfgogedgolgnaaaProg.lean LOADS. Nothing in Lean hashes anything: it is a label: what it is worth is what the hold of that sum in a sandbox is worth. -/
noncomputable def Try.pinned : Pinned := { name := "ytfgogedgolgnaaa", sum := "4debbbe297a0df2670c2558740514970e5bb78ecb26196226acc13473ba0dda0", checked := Try.checked }
namespace Rows
def none {H : Type} : Left H := { results := [], args := [] }

/-- 'laws.FnExactValidTlb': WHATEVER THE INPUT: true; the input reads as it did. -/
def fnExactValidTlbSpec : ChangeSpec := { name := "fnExactValidTlb", fn := fun _ => fun
  | [d1, d2] => { results := [.lit (.bool true)], args := [d1, d2] }
  | _ => none }
def fnExactValidTlbRow : OpenClaim := { program := "ytfgogedgolgnaaa", sum := "4debbbe297a0df2670c2558740514970e5bb78ecb26196226acc13473ba0dda0", func := "loop.example/s0051/laws.FnExactValidTlb", spec := "fnExactValidTlb", unfollowed := true, recurses := true, apart := false }
def FnExactValidTlbSaid : Prop := fnExactValidTlbRow.holds Try.pinned (OpenSpec.ofChange fnExactValidTlbSpec)

/-- ITS FALSE NEIGHBOUR: 'it returns false'. Refute it at one input. -/
def fnExactValidTlbWrong : ChangeSpec := { name := "fnExactValidTlb", fn := fun _ => fun
  | [d1, d2] => { results := [.lit (.bool false)], args := [d1, d2] }
  | _ => none }
def FnExactValidTlbWrongFalsely : Prop := fnExactValidTlbRow.holds Try.pinned (OpenSpec.ofChange fnExactValidTlbWrong)

/-- 'laws.FnExactLookup': WHATEVER THE INPUT: true; the input reads as it did. -/
def fnExactLookupSpec : ChangeSpec := { name := "fnExactLookup", fn := fun _ => fun
  | [d1, d2, d3] => { results := [.lit (.bool true)], args := [d1, d2, d3] }
  | _ => none }
def fnExactLookupRow : OpenClaim := { program := "ytfgogedgolgnaaa", sum := "4debbbe297a0df2670c2558740514970e5bb78ecb26196226acc13473ba0dda0", func := "loop.example/s0051/laws.FnExactLookup", spec := "fnExactLookup", unfollowed := true, recurses := true, apart := false }
def FnExactLookupSaid : Prop := fnExactLookupRow.holds Try.pinned (OpenSpec.ofChange fnExactLookupSpec)

/-- ITS FALSE NEIGHBOUR: 'it returns false'. Refute it at one input. -/
def fnExactLookupWrong : ChangeSpec := { name := "fnExactLookup", fn := fun _ => fun
  | [d1, d2, d3] => { results := [.lit (.bool false)], args := [d1, d2, d3] }
  | _ => none }
def FnExactLookupWrongFalsely : Prop := fnExactLookupRow.holds Try.pinned (OpenSpec.ofChange fnExactLookupWrong)

/-- 'laws.FnExactInsert': WHATEVER THE INPUT: true; the input reads as it did. -/
def fnExactInsertSpec : ChangeSpec := { name := "fnExactInsert", fn := fun _ => fun
  | [d1, d2, d3] => { results := [.lit (.bool true)], args := [d1, d2, d3] }
  | _ => none }
def fnExactInsertRow : OpenClaim := { program := "ytfgogedgolgnaaa", sum := "4debbbe297a0df2670c2558740514970e5bb78ecb26196226acc13473ba0dda0", func := "loop.example/s0051/laws.FnExactInsert", spec := "fnExactInsert", unfollowed := true, recurses := true, apart := false }
def FnExactInsertSaid : Prop := fnExactInsertRow.holds Try.pinned (OpenSpec.ofChange fnExactInsertSpec)

/-- ITS FALSE NEIGHBOUR: 'it returns false'. Refute it at one input. -/
def fnExactInsertWrong : ChangeSpec := { name := "fnExactInsert", fn := fun _ => fun
  | [d1, d2, d3] => { results := [.lit (.bool false)], args := [d1, d2, d3] }
  | _ => none }
def FnExactInsertWrongFalsely : Prop := fnExactInsertRow.holds Try.pinned (OpenSpec.ofChange fnExactInsertWrong)

/-- 'laws.FnExactFlush': WHATEVER THE INPUT: true; the input reads as it did. -/
def fnExactFlushSpec : ChangeSpec := { name := "fnExactFlush", fn := fun _ => fun
  | [d1, d2] => { results := [.lit (.bool true)], args := [d1, d2] }
  | _ => none }
def fnExactFlushRow : OpenClaim := { program := "ytfgogedgolgnaaa", sum := "4debbbe297a0df2670c2558740514970e5bb78ecb26196226acc13473ba0dda0", func := "loop.example/s0051/laws.FnExactFlush", spec := "fnExactFlush", unfollowed := true, recurses := true, apart := false }
def FnExactFlushSaid : Prop := fnExactFlushRow.holds Try.pinned (OpenSpec.ofChange fnExactFlushSpec)

/-- ITS FALSE NEIGHBOUR: 'it returns false'. Refute it at one input. -/
def fnExactFlushWrong : ChangeSpec := { name := "fnExactFlush", fn := fun _ => fun
  | [d1, d2] => { results := [.lit (.bool false)], args := [d1, d2] }
  | _ => none }
def FnExactFlushWrongFalsely : Prop := fnExactFlushRow.holds Try.pinned (OpenSpec.ofChange fnExactFlushWrong)

/-- 'laws.FnExactValidHart': WHATEVER THE INPUT: true; the input reads as it did. -/
def fnExactValidHartSpec : ChangeSpec := { name := "fnExactValidHart", fn := fun _ => fun
  | [d] => { results := [.lit (.bool true)], args := [d] }
  | _ => none }
def fnExactValidHartRow : OpenClaim := { program := "ytfgogedgolgnaaa", sum := "4debbbe297a0df2670c2558740514970e5bb78ecb26196226acc13473ba0dda0", func := "loop.example/s0051/laws.FnExactValidHart", spec := "fnExactValidHart", unfollowed := true, recurses := true, apart := false }
def FnExactValidHartSaid : Prop := fnExactValidHartRow.holds Try.pinned (OpenSpec.ofChange fnExactValidHartSpec)

/-- ITS FALSE NEIGHBOUR: 'it returns false'. Refute it at one input. -/
def fnExactValidHartWrong : ChangeSpec := { name := "fnExactValidHart", fn := fun _ => fun
  | [d] => { results := [.lit (.bool false)], args := [d] }
  | _ => none }
def FnExactValidHartWrongFalsely : Prop := fnExactValidHartRow.holds Try.pinned (OpenSpec.ofChange fnExactValidHartWrong)

/- THE SECOND FORM. 'bulk': how many values and letters a reading holds, each counted each time it is reached (what is shared counts as often as it is met; a slice's spare places count too). A statement '..UptoSaid' is the law's where the arguments, and the package variables that the reading takes, are together of bulk at most 1048576: NARROWER than '..Said'. Prove '..Said' where nothing that the law and all that it calls make is longer than what came in: it says more and counts as full. Else prove '..UptoSaid'. A law counts once. -/
mutual
def uptoBulk {H : Type} : DataW H → Nat
  | .lit (.string bytes) => bytes.length + 1
  | .lit _ => 1
  | .nil => 1
  | .ptr d => uptoBulk d + 1
  | .slice elems spare => uptoBulkAll elems + uptoBulkAll spare + 1
  | .agg parts => uptoBulkAll parts + 1
  | .iface _ d => uptoBulk d + 1
  | .map entries => uptoBulkEntries entries + 1
  | .held _ => 1
def uptoBulkAll {H : Type} : List (DataW H) → Nat
  | [] => 0
  | d :: r => uptoBulk d + uptoBulkAll r
def uptoBulkEntries {H : Type} : List (Lit × DataW H) → Nat
  | [] => 0
  | x :: r => uptoBulkEntry x + uptoBulkEntries r
def uptoBulkEntry {H : Type} : Lit × DataW H → Nat
  | (.string bytes, d) => bytes.length + uptoBulk d + 1
  | (_, d) => uptoBulk d + 1
 end
def uptoSmall : (H : Type) → List (DataW H) → Bool := fun _ ds => decide (uptoBulkAll ds ≤ 1048576)
def OpenSpec.upto (s : _root_.Go.ChangeSpec) : _root_.Go.OpenSpec := { _root_.Go.OpenSpec.ofChange s with cond := some uptoSmall }

/-- 'laws.FnExactValidTlb', WHERE WHAT IT READS IS OF BULK AT MOST 1048576: true; the input reads as it did. -/
def fnExactValidTlbUptoRow : OpenClaim := { program := "ytfgogedgolgnaaa", sum := "4debbbe297a0df2670c2558740514970e5bb78ecb26196226acc13473ba0dda0", func := "loop.example/s0051/laws.FnExactValidTlb", spec := "fnExactValidTlb", unfollowed := true, recurses := true, apart := false, narrowed := true }
def FnExactValidTlbUptoSaid : Prop := fnExactValidTlbUptoRow.holds Try.pinned (OpenSpec.upto fnExactValidTlbSpec)

/-- 'laws.FnExactLookup', WHERE WHAT IT READS IS OF BULK AT MOST 1048576: true; the input reads as it did. -/
def fnExactLookupUptoRow : OpenClaim := { program := "ytfgogedgolgnaaa", sum := "4debbbe297a0df2670c2558740514970e5bb78ecb26196226acc13473ba0dda0", func := "loop.example/s0051/laws.FnExactLookup", spec := "fnExactLookup", unfollowed := true, recurses := true, apart := false, narrowed := true }
def FnExactLookupUptoSaid : Prop := fnExactLookupUptoRow.holds Try.pinned (OpenSpec.upto fnExactLookupSpec)

/-- 'laws.FnExactInsert', WHERE WHAT IT READS IS OF BULK AT MOST 1048576: true; the input reads as it did. -/
def fnExactInsertUptoRow : OpenClaim := { program := "ytfgogedgolgnaaa", sum := "4debbbe297a0df2670c2558740514970e5bb78ecb26196226acc13473ba0dda0", func := "loop.example/s0051/laws.FnExactInsert", spec := "fnExactInsert", unfollowed := true, recurses := true, apart := false, narrowed := true }
def FnExactInsertUptoSaid : Prop := fnExactInsertUptoRow.holds Try.pinned (OpenSpec.upto fnExactInsertSpec)

/-- 'laws.FnExactFlush', WHERE WHAT IT READS IS OF BULK AT MOST 1048576: true; the input reads as it did. -/
def fnExactFlushUptoRow : OpenClaim := { program := "ytfgogedgolgnaaa", sum := "4debbbe297a0df2670c2558740514970e5bb78ecb26196226acc13473ba0dda0", func := "loop.example/s0051/laws.FnExactFlush", spec := "fnExactFlush", unfollowed := true, recurses := true, apart := false, narrowed := true }
def FnExactFlushUptoSaid : Prop := fnExactFlushUptoRow.holds Try.pinned (OpenSpec.upto fnExactFlushSpec)

/-- 'laws.FnExactValidHart', WHERE WHAT IT READS IS OF BULK AT MOST 1048576: true; the input reads as it did. -/
def fnExactValidHartUptoRow : OpenClaim := { program := "ytfgogedgolgnaaa", sum := "4debbbe297a0df2670c2558740514970e5bb78ecb26196226acc13473ba0dda0", func := "loop.example/s0051/laws.FnExactValidHart", spec := "fnExactValidHart", unfollowed := true, recurses := true, apart := false, narrowed := true }
def FnExactValidHartUptoSaid : Prop := fnExactValidHartUptoRow.holds Try.pinned (OpenSpec.upto fnExactValidHartSpec)

end Rows
end Go.Proofs.Ytfgogedgolgnaaa
