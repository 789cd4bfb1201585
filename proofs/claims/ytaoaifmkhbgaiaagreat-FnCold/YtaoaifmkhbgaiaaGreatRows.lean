/-
  No cell of these rows narrows 'for every input' (looked for: loops, veiled, ifaces, maps, wideKeys, modest, calm, conditions, laid).
  DERIVED. THE GIVEN ROWS OF THIS SEAT. 4 by the template 'for every input the law returns true; each argument reads behind the call as it read before'; 0 by the template 'total and deterministic' (their statements: YtaoaifmkhbgaiaaGreatTotals.lean).
  GIVEN WITH THE SEED: the statements are not yours to turn. If you find one false, say at which input.
  Laid BY PROGRAM, IN A SANDBOX (cutbox-rows.mjs): the forced cells as the released guide's own fill.sh prints them over the translation 32baca3fbed349b9… (all of the seat's roots in one cut). By AI agents, Wed Nov 11 2026. No macro, syntax, notation, axiom, sorry.
-/
import Derived.Test.YtaoaifmkhbgaiaaGreatChecked
import GoSem.Claim
import GoSem.ClaimJoined
import GoSem.ClaimMapViews
import Derived.JoinedTies
import Derived.KernelRfl
namespace Go.Proofs.YtaoaifmkhbgaiaaGreat
/- THE CELL 'sum', in the pinned program and in every row, IS THE sha256 OF THE DUMP (.gsa) THAT YtaoaifmkhbgaiaaGreatProg.lean LOADS. Nothing in Lean hashes anything: it is a label: what it is worth is what the hold of that sum in a sandbox is worth. -/
noncomputable def Tryz.pinned : Pinned := { name := "ytaoaifmkhbgaiaagreat", sum := "32baca3fbed349b9804a74982c4e79d5b1996aea9c89d2b9d54013a80340fb83", checked := Tryz.checked }
namespace Rows
def none {H : Type} : Left H := { results := [], args := [] }

/-- 'laws.FnFence': WHATEVER THE INPUT: true; the input reads as it did. -/
def fnFenceSpec : ChangeSpec := { name := "fnFence", fn := fun _ => fun
  | [d1, d2] => { results := [.lit (.bool true)], args := [d1, d2] }
  | _ => none }
def fnFenceRow : OpenClaim := { program := "ytaoaifmkhbgaiaagreat", sum := "32baca3fbed349b9804a74982c4e79d5b1996aea9c89d2b9d54013a80340fb83", func := "loop.example/s0051/laws.FnFence", spec := "fnFence", unfollowed := true, recurses := true, apart := false }
def FnFenceSaid : Prop := fnFenceRow.holds Tryz.pinned (OpenSpec.ofChange fnFenceSpec)

/-- ITS FALSE NEIGHBOUR: 'it returns false'. Refute it at one input. -/
def fnFenceWrong : ChangeSpec := { name := "fnFence", fn := fun _ => fun
  | [d1, d2] => { results := [.lit (.bool false)], args := [d1, d2] }
  | _ => none }
def FnFenceWrongFalsely : Prop := fnFenceRow.holds Tryz.pinned (OpenSpec.ofChange fnFenceWrong)

/-- 'laws.FnCold': WHATEVER THE INPUT: true; the input reads as it did. -/
def fnColdSpec : ChangeSpec := { name := "fnCold", fn := fun _ => fun
  | [d] => { results := [.lit (.bool true)], args := [d] }
  | _ => none }
def fnColdRow : OpenClaim := { program := "ytaoaifmkhbgaiaagreat", sum := "32baca3fbed349b9804a74982c4e79d5b1996aea9c89d2b9d54013a80340fb83", func := "loop.example/s0051/laws.FnCold", spec := "fnCold", unfollowed := true, recurses := true, apart := false }
def FnColdSaid : Prop := fnColdRow.holds Tryz.pinned (OpenSpec.ofChange fnColdSpec)

/-- ITS FALSE NEIGHBOUR: 'it returns false'. Refute it at one input. -/
def fnColdWrong : ChangeSpec := { name := "fnCold", fn := fun _ => fun
  | [d] => { results := [.lit (.bool false)], args := [d] }
  | _ => none }
def FnColdWrongFalsely : Prop := fnColdRow.holds Tryz.pinned (OpenSpec.ofChange fnColdWrong)

/-- 'laws.FnGrant': WHATEVER THE INPUT: true; the input reads as it did. -/
def fnGrantSpec : ChangeSpec := { name := "fnGrant", fn := fun _ => fun
  | [d] => { results := [.lit (.bool true)], args := [d] }
  | _ => none }
def fnGrantRow : OpenClaim := { program := "ytaoaifmkhbgaiaagreat", sum := "32baca3fbed349b9804a74982c4e79d5b1996aea9c89d2b9d54013a80340fb83", func := "loop.example/s0051/laws.FnGrant", spec := "fnGrant", unfollowed := true, recurses := true, apart := false }
def FnGrantSaid : Prop := fnGrantRow.holds Tryz.pinned (OpenSpec.ofChange fnGrantSpec)

/-- ITS FALSE NEIGHBOUR: 'it returns false'. Refute it at one input. -/
def fnGrantWrong : ChangeSpec := { name := "fnGrant", fn := fun _ => fun
  | [d] => { results := [.lit (.bool false)], args := [d] }
  | _ => none }
def FnGrantWrongFalsely : Prop := fnGrantRow.holds Tryz.pinned (OpenSpec.ofChange fnGrantWrong)

/-- 'laws.FnCacheLife': WHATEVER THE INPUT: true; the input reads as it did. -/
def fnCacheLifeSpec : ChangeSpec := { name := "fnCacheLife", fn := fun _ => fun
  | [d] => { results := [.lit (.bool true)], args := [d] }
  | _ => none }
def fnCacheLifeRow : OpenClaim := { program := "ytaoaifmkhbgaiaagreat", sum := "32baca3fbed349b9804a74982c4e79d5b1996aea9c89d2b9d54013a80340fb83", func := "loop.example/s0051/laws.FnCacheLife", spec := "fnCacheLife", unfollowed := true, recurses := true, apart := false }
def FnCacheLifeSaid : Prop := fnCacheLifeRow.holds Tryz.pinned (OpenSpec.ofChange fnCacheLifeSpec)

/-- ITS FALSE NEIGHBOUR: 'it returns false'. Refute it at one input. -/
def fnCacheLifeWrong : ChangeSpec := { name := "fnCacheLife", fn := fun _ => fun
  | [d] => { results := [.lit (.bool false)], args := [d] }
  | _ => none }
def FnCacheLifeWrongFalsely : Prop := fnCacheLifeRow.holds Tryz.pinned (OpenSpec.ofChange fnCacheLifeWrong)

/- THE SECOND FORM. 'bulk': how many values and letters a reading holds, each counted each time it is reached (what is shared counts as often as it is met; a slice's spare places count too). A statement '..UptoSaid' is the law's where the arguments, and the package variables that the reading takes, are together of bulk at most 1048576: NARROWER than '..Said'. Prove '..Said' where nothing that the law and all that it calls make is longer than what came in: it says more and counts as full. Else prove '..UptoSaid'. A law counts once. -/
mutual
def uptoBulk {H : Type} : DataW H → Nat
  | .lit (.string bytes) => bytes.length + 1
  | .lit _ => 1
  | .nil => 1
  | .ptr d => uptoBulk d + 1
  | .slice elems spare => uptoBulkAll elems + uptoBulkAll spare + 1
  | .agg parts => uptoBulkAll parts + 1
  | .iface _ d => uptoBulk d + 1
  | .map entries => uptoBulkEntries entries + 1
  | .held _ => 1
def uptoBulkAll {H : Type} : List (DataW H) → Nat
  | [] => 0
  | d :: r => uptoBulk d + uptoBulkAll r
def uptoBulkEntries {H : Type} : List (Lit × DataW H) → Nat
  | [] => 0
  | x :: r => uptoBulkEntry x + uptoBulkEntries r
def uptoBulkEntry {H : Type} : Lit × DataW H → Nat
  | (.string bytes, d) => bytes.length + uptoBulk d + 1
  | (_, d) => uptoBulk d + 1
 end
def uptoSmall : (H : Type) → List (DataW H) → Bool := fun _ ds => decide (uptoBulkAll ds ≤ 1048576)
def OpenSpec.upto (s : _root_.Go.ChangeSpec) : _root_.Go.OpenSpec := { _root_.Go.OpenSpec.ofChange s with cond := some uptoSmall }

/-- 'laws.FnFence', WHERE WHAT IT READS IS OF BULK AT MOST 1048576: true; the input reads as it did. -/
def fnFenceUptoRow : OpenClaim := { program := "ytaoaifmkhbgaiaagreat", sum := "32baca3fbed349b9804a74982c4e79d5b1996aea9c89d2b9d54013a80340fb83", func := "loop.example/s0051/laws.FnFence", spec := "fnFence", unfollowed := true, recurses := true, apart := false, narrowed := true }
def FnFenceUptoSaid : Prop := fnFenceUptoRow.holds Tryz.pinned (OpenSpec.upto fnFenceSpec)

/-- 'laws.FnCold', WHERE WHAT IT READS IS OF BULK AT MOST 1048576: true; the input reads as it did. -/
def fnColdUptoRow : OpenClaim := { program := "ytaoaifmkhbgaiaagreat", sum := "32baca3fbed349b9804a74982c4e79d5b1996aea9c89d2b9d54013a80340fb83", func := "loop.example/s0051/laws.FnCold", spec := "fnCold", unfollowed := true, recurses := true, apart := false, narrowed := true }
def FnColdUptoSaid : Prop := fnColdUptoRow.holds Tryz.pinned (OpenSpec.upto fnColdSpec)

/-- 'laws.FnGrant', WHERE WHAT IT READS IS OF BULK AT MOST 1048576: true; the input reads as it did. -/
def fnGrantUptoRow : OpenClaim := { program := "ytaoaifmkhbgaiaagreat", sum := "32baca3fbed349b9804a74982c4e79d5b1996aea9c89d2b9d54013a80340fb83", func := "loop.example/s0051/laws.FnGrant", spec := "fnGrant", unfollowed := true, recurses := true, apart := false, narrowed := true }
def FnGrantUptoSaid : Prop := fnGrantUptoRow.holds Tryz.pinned (OpenSpec.upto fnGrantSpec)

/-- 'laws.FnCacheLife', WHERE WHAT IT READS IS OF BULK AT MOST 1048576: true; the input reads as it did. -/
def fnCacheLifeUptoRow : OpenClaim := { program := "ytaoaifmkhbgaiaagreat", sum := "32baca3fbed349b9804a74982c4e79d5b1996aea9c89d2b9d54013a80340fb83", func := "loop.example/s0051/laws.FnCacheLife", spec := "fnCacheLife", unfollowed := true, recurses := true, apart := false, narrowed := true }
def FnCacheLifeUptoSaid : Prop := fnCacheLifeUptoRow.holds Tryz.pinned (OpenSpec.upto fnCacheLifeSpec)

end Rows
end Go.Proofs.YtaoaifmkhbgaiaaGreat
