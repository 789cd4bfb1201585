/- An Entry held against the zero Entry. -/
import Derived.Test.YthekickjjaleaabSpec4
namespace Go.Proofs.Ythekickjjaleaab
open Go.RowKit
set_option linter.unusedVariables false

def zeroB (e : EntM) : Bool := e.valid == false && e.level == 0 && e.tag == 0 && e.asid == 0 && e.glob == false && e.pte == 0

theorem ent_eq (v : Bool) (lv tg asd : Int) (gl : Bool) (pt : Int) (w : World) :
    (binOp .eql 75 (.agg #[.bool v, .int .i64 lv, .int .u64 tg, .int .u64 asd, .bool gl, .int .u64 pt]) (.agg #[.bool false, .int .i64 0, .int .u64 0, .int .u64 0, .bool false, .int .u64 0])).run Try.prog w = .ok (.bool (zeroB ⟨v, lv, tg, asd, gl, pt⟩)) w := by
  unfold zeroB
  cases v
  case true => (go_simp; try simp)
  by_cases h1 : lv = 0
  case neg => (have q1 : (lv == 0) = false := by simpa using h1); (go_simp; try simp [q1])
  subst h1
  by_cases h2 : tg = 0
  case neg => (have q1 : (tg == 0) = false := by simpa using h2); (go_simp; try simp [q1])
  subst h2
  by_cases h3 : asd = 0
  case neg => (have q1 : (asd == 0) = false := by simpa using h3); (go_simp; try simp [q1])
  subst h3
  cases gl
  case true => (go_simp; try simp)
  by_cases h4 : pt = 0
  case neg => (have q1 : (pt == 0) = false := by simpa using h4); (go_simp; try simp [q1])
  subst h4
  go_simp
  try simp

end Go.Proofs.Ythekickjjaleaab
