/- Plain mathematics of chapter 2: the bits of a table entry. No program, no memory. -/
import Derived.Test.YthekickjjaleaabMath1
namespace Go.Proofs.Ythekickjjaleaab
set_option linter.unusedVariables false

/-- Bit i of x, p being 2 to the i. -/
def bitB (x p : Int) : Bool := x / p % 2 == 1
def canonM (va : Int) : Bool := va / 16384 % 1125899906842624 == 0 || va / 16384 % 1125899906842624 == 1125899906842623
def ppnM (pte : Int) : Int := pte / 1024 % 17592186044416

/-- 2 to the (3 * level), at the levels that there are. -/
def pow3 (level : Int) : Int := if level = 0 then 1 else if level = 1 then 8 else 64
/-- 2 to the (6 + 3 * level). -/
def spanM (level : Int) : Int := if level = 0 then 64 else if level = 1 then 512 else 4096

def kindM (pte level : Int) : Int :=
  if level < 0 ∨ 2 < level ∨ bitB pte 1 = false ∨ 0 < pte / 18014398509481984 % 1024 ∨ (bitB pte 4 = true ∧ bitB pte 2 = false) then 0
  else if bitB pte 2 = false ∧ bitB pte 4 = false ∧ bitB pte 8 = false then
    (if level = 0 ∨ bitB pte 16 = true ∨ bitB pte 64 = true ∨ bitB pte 128 = true then 0 else 1)
  else if 0 < ppnM pte % pow3 level then 0 else 2

def grantM (pte kind mode : Int) (sum mxr : Bool) : Bool :=
  (if kind = 0 then bitB pte 8 else if kind = 1 then bitB pte 2 || (mxr && bitB pte 8) else if kind = 2 then bitB pte 4 && bitB pte 128 else false) &&
  (if mode = 0 then bitB pte 16 else if mode = 1 then !bitB pte 16 || (kind != 0 && sum) else false) && bitB pte 64

def physM (pte level va : Int) : Int :=
  if level < 0 ∨ 2 < level then 0 else ppnM pte * 64 / spanM level * spanM level + va % spanM level

end Go.Proofs.Ythekickjjaleaab
