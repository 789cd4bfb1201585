/- Plain mathematics of chapter 4: fences, flushing, insertion. No program, no memory. -/
import Derived.Test.YthekickjjaleaabMath4
namespace Go.Proofs.Ythekickjjaleaab
set_option linter.unusedVariables false

/-- A fence. -/
structure FenceM where
  hasVa : Bool
  va : Int
  hasAsid : Bool
  asid : Int

def coversM (f : FenceM) (level tag asid : Int) (glob : Bool) : Bool :=
  !(f.hasVa && (!canonM f.va || tag != tagM f.va level)) && (!f.hasAsid || (!glob && asid == f.asid))

def struckM (f : FenceM) (e : EntM) : EntM := if (e.valid && coversM f e.level e.tag e.asid e.glob) = true then ent0 else e

/-- The first way from w on, of 'left' ways, whose entry is not valid. -/
def freeM (es : List EntM) (first : Nat) : Nat → Nat → Option Nat
  | _, 0 => none
  | w, left + 1 => if (es[first + w]?.getD ent0).valid = false then some w else freeM es first (w + 1) left

end Go.Proofs.Ythekickjjaleaab
