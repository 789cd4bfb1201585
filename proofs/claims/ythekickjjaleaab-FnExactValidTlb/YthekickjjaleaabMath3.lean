/- Plain mathematics of chapter 3: the walk. No program, no memory. -/
import Derived.Test.YthekickjjaleaabMath2
namespace Go.Proofs.Ythekickjjaleaab
set_option linter.unusedVariables false

/-- The index of a level in an address. -/
def idxM (va level : Int) : Int := if level = 0 then va / 64 % 8 else if level = 1 then va / 512 % 8 else va / 4096 % 8

/-- A record of the walk: level, address, value. -/
abbrev RecM := Int × Int × Int

/-- The walk from a level on: code, level, entry, records. -/
def fromM (zs : List Int) (va : Int) : Nat → Int → Int × Int × Int × List RecM
  | l, n =>
    if goodB zs.length (64 * n + 8 * idxM va l) 8 = false then (3, l, 0, [])
    else if kindM (rdV zs (64 * n + 8 * idxM va l) 8) l = 0 then (2, l, 0, [])
    else if kindM (rdV zs (64 * n + 8 * idxM va l) 8) l = 2 then (1, l, rdV zs (64 * n + 8 * idxM va l) 8, [((l : Int), 64 * n + 8 * idxM va l, rdV zs (64 * n + 8 * idxM va l) 8)])
    else match l with
      | 0 => (2, 0, 0, [])
      | k + 1 => ((fromM zs va k (ppnM (rdV zs (64 * n + 8 * idxM va l) 8))).1, (fromM zs va k (ppnM (rdV zs (64 * n + 8 * idxM va l) 8))).2.1, (fromM zs va k (ppnM (rdV zs (64 * n + 8 * idxM va l) 8))).2.2.1,
          ((l : Int), 64 * n + 8 * idxM va l, rdV zs (64 * n + 8 * idxM va l) 8) :: (fromM zs va k (ppnM (rdV zs (64 * n + 8 * idxM va l) 8))).2.2.2)

def walkM (zs : List Int) (root va : Int) : Int × Int × Int × List RecM :=
  if canonM va = false then (2, 2, 0, []) else fromM zs va 2 (root % 17592186044416)

def pageM (kind : Int) : Int := if kind = 0 then 12 else if kind = 1 then 13 else 15
def accessM (kind : Int) : Int := if kind = 0 then 1 else if kind = 1 then 5 else 7
def onM (mode satp : Int) : Bool := satp / 1152921504606846976 % 16 == 8 && (mode == 0 || mode == 1)
def asidM (satp : Int) : Int := satp / 17592186044416 % 65536

/-- The answer of a leaf: cause and address. -/
def leafM (pte level mode : Int) (sum mxr : Bool) (kind va : Int) : Int × Int :=
  if grantM pte kind mode sum mxr = true then (0, physM pte level va) else (pageM kind, 0)

def answerM (r : Int × Int × Int × List RecM) (mode : Int) (sum mxr : Bool) (kind va : Int) : Int × Int :=
  if r.1 = 2 then (pageM kind, 0) else if r.1 = 3 then (accessM kind, 0) else leafM r.2.2.1 r.2.1 mode sum mxr kind va

def plainM (zs : List Int) (mode : Int) (sum mxr : Bool) (satp kind va : Int) : Int × Int :=
  if kind < 0 ∨ 2 < kind ∨ mode < 0 ∨ 2 < mode then (63, 0)
  else if onM mode satp = false then (0, va)
  else answerM (walkM zs satp va) mode sum mxr kind va

end Go.Proofs.Ythekickjjaleaab
