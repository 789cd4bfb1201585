/- The program's ValidTlb. -/
import Derived.Test.YthekickjjaleaabCacheL
import Derived.Test.YthekickjjaleaabCacheP
namespace Go.Proofs.Ythekickjjaleaab
open Go.RowKit
set_option linter.unusedVariables false

set_option maxHeartbeats 800000 in
theorem implValid_any (v : Value) (t : TlbM) (p : Bool) (w : World) (h : TlbAt w v t) :
    Calls Try.prog 44 #[v, .bool p] w fun e w' => e = .returned (.bool (validM t p)) ∧ Below w.heap.size w w' := by
  have HT : Hid (TlbAt w v t) := h
  obtain ⟨a, cap, rfl, _⟩ := h
  have n1 := (Below.refl w.heap.size w).alloc (Nat.le_refl _) (Obj.cells #[.int .i64 t.sets, .int .i64 t.ways, .slice a t.es.length cap] 63)
  have HT1 : Hid (TlbAt (w.alloc (Obj.cells #[.int .i64 t.sets, .int .i64 t.ways, .slice a t.es.length cap] 63)) (.agg #[.int .i64 t.sets, .int .i64 t.ways, .slice a t.es.length cap]) t) := HT.out.keep n1
  clear HT
  cases p
  · obtain ⟨q, hq⟩ : ∃ q, validM t false = q := ⟨_, rfl⟩
    rw [hq]
    go_enter Try.func44, Try.ntmps44
    go_wp2_with fail
    generalize w.alloc (Obj.cells #[.int .i64 t.sets, .int .i64 t.ways, .slice a t.es.length cap] 63) = v1 at n1 HT1 ⊢
    refine (cacheOfL_any _ t v1 HT1.out).mono ?_
    rw [hq]
    rintro e v2 ⟨hc, n2⟩
    have A2 := Below.step n1 n2 (Nat.le_refl _)
    cases q
    · dsimp only [cond] at hc
      subst hc
      go_wp2_with fail
      go_ret
      exact ⟨rfl, by first | exact A2 | exact A2.alloc A2.size _⟩
    · dsimp only [cond] at hc
      obtain ⟨g, rfl, _⟩ := hc
      go_wp2_with fail
      go_ret
      exact ⟨rfl, by first | exact A2 | exact A2.alloc A2.size _⟩
  · obtain ⟨q, hq⟩ : ∃ q, validM t true = q := ⟨_, rfl⟩
    rw [hq]
    go_enter Try.func44, Try.ntmps44
    go_wp2_with fail
    generalize w.alloc (Obj.cells #[.int .i64 t.sets, .int .i64 t.ways, .slice a t.es.length cap] 63) = v1 at n1 HT1 ⊢
    refine (cacheOfP_any _ t v1 HT1.out).mono ?_
    rw [hq]
    rintro e v2 ⟨hc, n2⟩
    have A2 := Below.step n1 n2 (Nat.le_refl _)
    cases q
    · dsimp only [cond] at hc
      subst hc
      go_wp2_with fail
      go_ret
      exact ⟨rfl, by first | exact A2 | exact A2.alloc A2.size _⟩
    · dsimp only [cond] at hc
      obtain ⟨g, rfl, _⟩ := hc
      go_wp2_with fail
      go_ret
      exact ⟨rfl, by first | exact A2 | exact A2.alloc A2.size _⟩

end Go.Proofs.Ythekickjjaleaab
