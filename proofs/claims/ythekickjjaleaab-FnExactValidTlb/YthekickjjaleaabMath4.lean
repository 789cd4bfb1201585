/- Plain mathematics of chapter 4: entries and caches. No program, no memory. -/
import Derived.Test.YthekickjjaleaabMath3
namespace Go.Proofs.Ythekickjjaleaab
set_option linter.unusedVariables false

/-- An entry of a cache. -/
structure EntM where
  valid : Bool
  level : Int
  tag : Int
  asid : Int
  glob : Bool
  pte : Int

def ent0 : EntM := ⟨false, 0, 0, 0, false, 0⟩

/-- A cache. -/
structure TlbM where
  sets : Int
  ways : Int
  es : List EntM

/-- The tag of va at a level. -/
def tagM (va level : Int) : Int := if level = 0 then va / 64 % 512 else if level = 1 then va / 512 % 64 else va / 4096 % 8
/-- 2 to the (9 - 3 * level). -/
def pow9 (level : Int) : Int := if level = 0 then 512 else if level = 1 then 64 else 8

def wantM (p : Bool) : Int := if p = true then 1 else 2

def goodEntM (e : EntM) (p : Bool) : Bool :=
  e.valid && decide (0 ≤ e.level) && decide (e.level ≤ 2) && decide (e.tag < pow9 e.level) && decide (e.asid ≤ 65535) && (e.glob == bitB e.pte 32) && (kindM e.pte e.level == wantM p)

/-- The number kinds of an entry's fields. -/
def entOk (e : EntM) : Prop :=
  (-9223372036854775808 ≤ e.level ∧ e.level ≤ 9223372036854775807) ∧ (0 ≤ e.tag ∧ e.tag ≤ 18446744073709551615) ∧ (0 ≤ e.asid ∧ e.asid ≤ 18446744073709551615) ∧ (0 ≤ e.pte ∧ e.pte ≤ 18446744073709551615)

end Go.Proofs.Ythekickjjaleaab
