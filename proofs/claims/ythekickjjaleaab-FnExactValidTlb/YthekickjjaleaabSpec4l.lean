/- The specification's l4Either, l4Fits, Lookup. -/
import Derived.Test.YthekickjjaleaabSpec4w
namespace Go.Proofs.Ythekickjjaleaab
open Go.RowKit
set_option linter.unusedVariables false
attribute [local go_sem ↓] Go.wp_at_zero Go.wp_at_succ

theorem TlbAt.keep {w w' : World} {v : Value} {t : TlbM} (h : TlbAt w v t) (hb : Below w.heap.size w w') : TlbAt w' v t := by
  obtain ⟨a, cap, rfl, hr, r⟩ := h
  exact ⟨a, cap, rfl, hr.keep hb, r⟩

def eitherM (t : TlbM) : Bool := validM t true || validM t false
def fitsM (x : EntM) (va asid : Int) : Bool := x.valid && (x.tag == tagM va x.level) && (x.glob || x.asid == asid)

set_option maxHeartbeats 800000 in
theorem l4Either_any (v : Value) (t : TlbM) (w : World) (h : TlbAt w v t) :
    Calls Try.prog 99 #[v] w fun e w' => e = .returned (.bool (eitherM t)) ∧ Below w.heap.size w w' := by
  have HT : Hid (TlbAt w v t) := h
  obtain ⟨a, cap, rfl, _⟩ := h
  have a1 := alloc_facts w #[.int .i64 t.sets, .int .i64 t.ways, .slice a t.es.length cap] 63
  unfold eitherM
  obtain ⟨p, hp⟩ : ∃ p, validM t true = p := ⟨_, rfl⟩
  obtain ⟨q, hq⟩ : ∃ q, validM t false = q := ⟨_, rfl⟩
  rw [hp, hq]
  have HP : Hid (validM t true = p) := hp
  have HQ : Hid (validM t false = q) := hq
  clear hp hq
  go_enter Try.func99, Try.ntmps99
  go_wp2_with fail
  generalize w.alloc (Obj.cells #[.int .i64 t.sets, .int .i64 t.ways, .slice a t.es.length cap] 63) = v1 at a1 ⊢
  obtain ⟨l1, c1, n1⟩ := a1
  have c10 : v1.cell? ⟨w.heap.size, 0, none⟩ = some (.int .i64 t.sets) := c1 0
  have c11 : v1.cell? ⟨w.heap.size, 1, none⟩ = some (.int .i64 t.ways) := c1 1
  have c12 : v1.cell? ⟨w.heap.size, 2, none⟩ = some (.slice a t.es.length cap) := c1 2
  refine (specValid_any _ t true v1 (HT.out.keep n1)).mono ?_
  rw [HP.out]
  rintro e v2 ⟨rfl, n2⟩
  have d10 := Below.cell2 n2 c10 l1
  have d11 := Below.cell2 n2 c11 l1
  have d12 := Below.cell2 n2 c12 l1
  have n12 := Below.step n1 n2 (Nat.le_refl _)
  clear c1 c10 c11 c12 n1 n2
  cases p
  · go_wp2_with fail
    refine (specValid_any _ t false v2 (HT.out.keep n12)).mono ?_
    rw [HQ.out]
    rintro e v3 ⟨rfl, n3⟩
    have n13 := Below.step n12 n3 (Nat.le_refl _)
    clear d10 d11 d12 n3
    go_wp2_with fail
    go_ret
    exact ⟨ret_bool (by simp), n13⟩
  · go_wp2_with fail
    go_ret
    exact ⟨ret_bool (by simp), n12⟩

set_option maxHeartbeats 1600000 in
theorem l4Fits_any (x : EntM) (va asid : Int) (w : World) (hx : entOk x) (hlv : x.valid = true → 0 ≤ x.level ∧ x.level ≤ 2) (hv0 : 0 ≤ va) (hv1 : va ≤ 18446744073709551615) :
    Calls Try.prog 100 #[entV x, .int .u64 va, .int .u64 asid] w fun e w' => e = .returned (.bool (fitsM x va asid)) ∧ Below w.heap.size w w' := by
  obtain ⟨v, lv, tg, asd, gl, pt⟩ := x
  unfold entV fitsM
  simp only at hlv ⊢
  have n1 := (Below.refl w.heap.size w).alloc (Nat.le_refl _) (Obj.cells #[.bool v, .int .i64 lv, .int .u64 tg, .int .u64 asd, .bool gl, .int .u64 pt] 75)
  cases v
  · go_enter Try.func100, Try.ntmps100
    go_wp2_with fail
    go_quiet (fail)
    go_wp2_with fail
    go_ret
    exact ⟨ret_bool (by simp), below_drewN n1 nq⟩
  obtain ⟨hl0, hl2⟩ := hlv rfl
  obtain ⟨tv, htv⟩ : ∃ tv, tagM va lv = tv := ⟨_, rfl⟩
  rw [htv]
  have HC : Hid (∀ w : World, Calls Try.prog 139 #[.int .u64 va, .int .i64 lv] w fun e w' => e = .returned (.int .u64 tv) ∧ ∃ n, w' = w.drewN n) := fun w => by
    have := l4Tag_at va lv w hv0 hv1 hl0 hl2
    rw [htv] at this
    exact this
  clear htv
  cases ht : (tg == tv)
  · go_enter Try.func100, Try.ntmps100
    go_wp2_with fail
    go_quiet ((go_at_call 139; exact Calls.quiet_of (HC.out _)))
    go_wp2_with fail
    go_ret
    exact ⟨ret_bool (by simp), below_drewN n1 nq⟩
  · cases gl
    · go_enter Try.func100, Try.ntmps100
      go_wp2_with fail
      go_quiet ((go_at_call 139; exact Calls.quiet_of (HC.out _)))
      go_wp2_with fail
      go_ret
      exact ⟨ret_bool (by simp), below_drewN n1 nq⟩
    · go_enter Try.func100, Try.ntmps100
      go_wp2_with fail
      go_quiet ((go_at_call 139; exact Calls.quiet_of (HC.out _)))
      go_wp2_with fail
      go_ret
      exact ⟨ret_bool (by simp), below_drewN n1 nq⟩

end Go.Proofs.Ythekickjjaleaab
