/- The proof of Rows.FnExactWalkSaid: the frame is the kit's shell, the walk is mine. -/
import Derived.Test.YthekickjjaleaabRows
import Derived.Test.YthekickjjaleaabWalkMark
import Derived.Test.YthekickjjaleaabMarks
import Derived.Test.YthekickjjaleaabSpec3w
import Derived.WalkKit
import Derived.ProofKit
import Derived.OpenShut
import Derived.ShutString
import Derived.ChangeOld
import Derived.Below
namespace Go.Proofs.Ythekickjjaleaab.fnExactWalk
open Go.ChangeShapes Go.WideShapes Go.ChangeAt Go.RowKit
open Go.ChangeMaps (open_string shut_string)
set_option linter.unusedVariables false

theorem own : ownKnob Try.prog.godebug = none := by kernel_rfl
theorem laidOut : laidOutB Try.prog = true := by kernel_rfl

/-- WHAT THE WALK IS TOLD OF A SLICE OF INTEGERS THAT CAME IN: it is nil; or it leads to a row of 'cap' cells, the numbers 'zs' (the first 'len' are its elements, the rest its spare room), each fitting its kind. -/
def IsRow (k : IntKind) (w : World) (a : Option Addr) (len cap : Nat) (zs : List Int) : Prop :=
  (a = none ∧ len = 0 ∧ cap = 0 ∧ zs = []) ∨
  ∃ x, a = some x ∧ len ≤ cap ∧ cap ≤ maxLen ∧ zs.length = cap ∧ (∀ i, i < zs.length → w.cell? (x.add i) = some (.int k (zs.getD i 0))) ∧ ∀ n ∈ zs, (Lit.int k n).wf = true

/-! ### STEP 1: THE WALK: the Go text returns true, AND WRITES NOTHING THAT WAS THERE: 'Below w.heap.size w w'' (Derived/Below.lean: '.refl', '.alloc', '.drew', '.setCell' at a new block, '.trans'). Open each 'IsRow' by 'rcases' AHEAD of 'go_enter'; part every test ahead of the walk. -/
theorem walk (a0 : Option Addr) (len0 cap0 : Nat) (z0 : List Int) (a1 : Int) (a2 : Int) (w : World) (w0 : IsRow .u8 w a0 len0 cap0 z0) (w1 : (Lit.int .u64 a1).wf = true) (w2 : (Lit.int .u64 a2).wf = true) :
    Calls Try.prog 9 #[.slice a0 len0 cap0, .int .u64 a1, .int .u64 a2] w fun e w' => e = .returned (.bool true) ∧ Below w.heap.size w w' := by
  obtain ⟨hB, hlc, hcm⟩ := Byt.of_row w0
  have b1 := bounds_u64 w1
  have b2 := bounds_u64 w2
  have hz := hB.1
  have HBD : Hid (∀ i : Nat, 0 ≤ (z0.take len0)[i]?.getD 0 ∧ (z0.take len0)[i]?.getD 0 ≤ 255) := hB.2.1
  clear w0 w1 w2
  generalize z0.take len0 = zs at *
  by_cases hlen : len0 ≤ 1048576
  · have hrn : (walkM zs a1 a2).2.2.2.length ≤ 3 := by
      unfold walkM
      split
      · simp
      · exact fromM_len zs a2 2 _
    obtain ⟨⟨x1, x2, x3, rs⟩, hX⟩ : ∃ X, walkM zs a1 a2 = X := ⟨_, rfl⟩
    rw [hX] at hrn
    have HX : Hid (walkM zs a1 a2 = (x1, x2, x3, rs)) := hX
    simp only at hrn
    clear hX
    obtain ⟨n, hn⟩ : ∃ n, rs.length = n := ⟨_, rfl⟩
    rw [hn] at hrn
    go_enter Try.func9, Try.ntmps9
    go_wp2_with fail
    refine (toByteS_any a0 len0 cap0 zs w hB hlen).mono ?_
    rintro e v1 ⟨rfl, k1, n1⟩
    go_wp2_with fail
    have B1 : Byt v1 (some ⟨w.heap.size, 0, none⟩) len0 zs := hz ▸ k1.byt HBD.out
    refine (specWalk_any (some ⟨w.heap.size, 0, none⟩) len0 len0 zs a1 a2 v1 hlen (Nat.le_refl _) (by omega) b1.1 b1.2 b2.1 b2.2 B1).mono ?_
    rintro e v2 ⟨hw, n2⟩
    rw [HX.out] at hw
    obtain ⟨sa, sc, rfl, r2, na2, sp2, nc2⟩ := hw
    simp only at r2 na2 sp2 nc2 ⊢
    rw [hn] at r2 na2 nc2 ⊢
    have A2 := Below.step n1 n2 (Nat.le_refl _)
    have HR2 : Hid (RowC v2 sa n 3 (recsC rs)) := r2
    clear r2 na2 sp2 nc2 n1 n2 k1 B1
    go_wp2_with fail
    have n3 := (Below.refl v2.heap.size v2).alloc (Nat.le_refl _) (Obj.cells #[Value.int .i64 x1, Value.int .i64 x2, Value.int .u64 x3, Value.slice sa n sc] 42)
    have P3 : Hid ((v2.alloc (Obj.cells #[Value.int .i64 x1, Value.int .i64 x2, Value.int .u64 x3, Value.slice sa n sc] 42)).heap[v2.heap.size]? = some (.cells #[Value.int .i64 x1, Value.int .i64 x2, Value.int .u64 x3, Value.slice sa n sc] 42 (0, 0))) := heap_alloc_new v2 _
    have l3 : v2.heap.size < (v2.alloc (Obj.cells #[Value.int .i64 x1, Value.int .i64 x2, Value.int .u64 x3, Value.slice sa n sc] 42)).heap.size := by simp
    generalize v2.alloc (Obj.cells #[Value.int .i64 x1, Value.int .i64 x2, Value.int .u64 x3, Value.slice sa n sc] 42) = v3 at n3 P3 l3 ⊢
    have A3 := Below.step A2 n3 (Nat.le_refl _)
    have HP : Hid (∀ v, Below v3.heap.size v3 v → v.heap[v2.heap.size]? = some (.cells #[Value.int .i64 x1, Value.int .i64 x2, Value.int .u64 x3, Value.slice sa n sc] 42 (0, 0))) := fun v h => heap_keep P3.out h l3
    have HS : Hid (∀ v, Below v3.heap.size v3 v → RowC v sa n 3 (recsC rs)) := fun v h => RowC.keep HR2.out (Below.step n3 h (Nat.le_refl _))
    clear A2 n3 P3 HR2
    refine (toByteS_any a0 len0 cap0 zs v3 (hB.keep A3) hlen).mono ?_
    rintro e v4 ⟨rfl, X4, C4⟩
    have A4 := Below.step A3 C4 (Nat.le_refl _)
    have l4 := X4.lt
    go_wp2_with fail
    have B4 : Byt v4 (some ⟨v3.heap.size, 0, none⟩) len0 zs := hz ▸ X4.byt HBD.out
    refine (implWalk_any (some ⟨v3.heap.size, 0, none⟩) len0 len0 zs a2 a1 v4 B4 hlen b2.1 b2.2 b1.1 b1.2).mono ?_
    rintro e v5 ⟨hw, n5⟩
    rw [HX.out] at hw
    obtain ⟨ra, rc, rfl, o5⟩ := hw
    simp only at o5 ⊢
    rw [hn] at o5 ⊢
    have A5 := Below.step A4 n5 (Nat.le_refl _)
    have C5 := Below.step C4 n5 (Nat.le_refl _)
    have X5 := X4.keep n5 l4
    have O5 : Hid (v5.ownsRow v4.heap.size 161 3 (.slice ra n rc) n (recsC rs)) := o5
    have l5 : v4.heap.size ≤ v5.heap.size := n5.size
    have HG5 : Hid (∀ q, ra = some q → q = ⟨q.block, 0, none⟩ ∧ v4.heap.size ≤ q.block ∧ q.block < v5.heap.size) := fun q hq => own_at (hq ▸ o5)
    clear X4 C4 A4 n5 o5 B4
    obtain ⟨⟨d0, d1, d2, d3⟩, _, _, _, _⟩ := four_cells (HP.out v5 C5)
    have s5 : v2.heap.size < v5.heap.size := by omega
    go_wp2_with fail
    have n6 := (Below.refl v5.heap.size v5).alloc (Nat.le_refl _) (Obj.cells #[Value.int .i64 x1, Value.int .i64 x2, Value.int .u64 x3, Value.slice ra n rc] 42)
    have Q6 : Hid ((v5.alloc (Obj.cells #[Value.int .i64 x1, Value.int .i64 x2, Value.int .u64 x3, Value.slice ra n rc] 42)).heap[v5.heap.size]? = some (.cells #[Value.int .i64 x1, Value.int .i64 x2, Value.int .u64 x3, Value.slice ra n rc] 42 (0, 0))) := heap_alloc_new v5 _
    have l6 : v5.heap.size < (v5.alloc (Obj.cells #[Value.int .i64 x1, Value.int .i64 x2, Value.int .u64 x3, Value.slice ra n rc] 42)).heap.size := by simp
    generalize v5.alloc (Obj.cells #[Value.int .i64 x1, Value.int .i64 x2, Value.int .u64 x3, Value.slice ra n rc] 42) = v6 at n6 Q6 l6 ⊢
    have A6 := Below.step A5 n6 (Nat.le_refl _)
    have C6 := Below.step C5 n6 (Nat.le_refl _)
    have X6 := X5.keep n6 (by omega)
    have O6 : Hid (v6.ownsRow v4.heap.size 161 3 (.slice ra n rc) n (recsC rs)) := own_below O5.out n6
    clear A5 C5 X5 O5 n6 d0 d1 d2 d3
    refine (eqWalkRes_same x1 x2 x3 ra sa n rc sc rs v6 (row_own O6.out) (HS.out v6 C6) hn (by omega)).mono ?_
    rintro e v7 ⟨rfl, n7⟩
    have A7 := Below.step A6 n7 (Nat.le_refl _)
    have C7 := Below.step C6 n7 (Nat.le_refl _)
    have X7 := X6.keep n7 (by omega)
    have O7 : Hid (v7.ownsRow v4.heap.size 161 3 (.slice ra n rc) n (recsC rs)) := own_below O6.out n7
    have Q7 : Hid (v7.heap[v5.heap.size]? = some (.cells #[Value.int .i64 x1, Value.int .i64 x2, Value.int .u64 x3, Value.slice ra n rc] 42 (0, 0))) := heap_keep Q6.out n7 l6
    have l7 : v6.heap.size ≤ v7.heap.size := n7.size
    clear A6 C6 X6 O6 Q6 n7
    go_wp2_with fail
    refine (toByteS_any a0 len0 cap0 zs v7 (hB.keep A7) hlen).mono ?_
    rintro e v8 ⟨rfl, k8, n8⟩
    have A8 := Below.step A7 n8 (Nat.le_refl _)
    have C8 := Below.step C7 n8 (Nat.le_refl _)
    have X8 := X7.keep n8 (by omega)
    have O8 : Hid (v8.ownsRow v4.heap.size 161 3 (.slice ra n rc) n (recsC rs)) := own_below O7.out n8
    have Q8 : Hid (v8.heap[v5.heap.size]? = some (.cells #[Value.int .i64 x1, Value.int .i64 x2, Value.int .u64 x3, Value.slice ra n rc] 42 (0, 0))) := heap_keep Q7.out n8 (by omega)
    have l8 : v7.heap.size ≤ v8.heap.size := n8.size
    clear A7 C7 X7 O7 Q7 n8
    go_wp2_with fail
    have Y8 : Byt v8 (some ⟨v7.heap.size, 0, none⟩) len0 zs := hz ▸ k8.byt HBD.out
    have X8' : Byt v8 (some ⟨v3.heap.size, 0, none⟩) len0 zs := hz ▸ X8.byt HBD.out
    refine (eqByteS_same _ _ len0 len0 len0 zs v8 X8' Y8 hlen).mono ?_
    rintro e v9 ⟨rfl, n9⟩
    have A9 := Below.step A8 n9 (Nat.le_refl _)
    have C9 := Below.step C8 n9 (Nat.le_refl _)
    have X9 := X8.keep n9 (by omega)
    have O9 : Hid (v9.ownsRow v4.heap.size 161 3 (.slice ra n rc) n (recsC rs)) := own_below O8.out n9
    have Q9 : Hid (v9.heap[v5.heap.size]? = some (.cells #[Value.int .i64 x1, Value.int .i64 x2, Value.int .u64 x3, Value.slice ra n rc] 42 (0, 0))) := heap_keep Q8.out n9 (by omega)
    have l9 : v8.heap.size ≤ v9.heap.size := n9.size
    clear A8 C8 X8 O8 Q8 n9 X8' Y8 k8
    go_wp2_with fail
    refine (markByteS_any v3.heap.size len0 len0 zs 1 v9 X9 hz hlen (by omega) (by omega)).mono ?_
    rintro e v10 ⟨rfl, k10, m10⟩
    have A10 := Below.gb A9 m10 A3.size X9.lt
    have C10 := Below.gb C9 m10 (Nat.le_refl _) X9.lt
    have O10 : Hid (v10.ownsRow v4.heap.size 161 3 (.slice ra n rc) n (recsC rs)) := own_gb O9.out m10 l4
    have Q10 : Hid (v10.heap[v5.heap.size]? = some (.cells #[Value.int .i64 x1, Value.int .i64 x2, Value.int .u64 x3, Value.slice ra n rc] 42 (0, 0))) := heap_gb Q9.out m10 (by omega)
    have l10 : v9.heap.size ≤ v10.heap.size := m10.size
    clear A9 C9 X9 O9 Q9 m10 k10
    have hk10 : decide ((1 : Int) + (len0 : Int) < 0) = false := by simp; omega
    obtain ⟨⟨d0, d1, d2, d3⟩, _, _, _, _⟩ := four_cells (HP.out v10 C10)
    obtain ⟨⟨g0, g1, g2, g3⟩, _, _, _, _⟩ := four_cells Q10.out
    go_wp2_with fail
    refine (eqWalkRes_same x1 x2 x3 ra sa n rc sc rs v10 (row_own O10.out) (HS.out v10 C10) hn (by omega)).mono ?_
    rintro e v11 ⟨rfl, n11⟩
    have A11 := Below.step A10 n11 (Nat.le_refl _)
    have C11 := Below.step C10 n11 (Nat.le_refl _)
    have O11 : Hid (v11.ownsRow v4.heap.size 161 3 (.slice ra n rc) n (recsC rs)) := own_below O10.out n11
    have Q11 : Hid (v11.heap[v5.heap.size]? = some (.cells #[Value.int .i64 x1, Value.int .i64 x2, Value.int .u64 x3, Value.slice ra n rc] 42 (0, 0))) := heap_keep Q10.out n11 (by omega)
    have l11 : v10.heap.size ≤ v11.heap.size := n11.size
    clear A10 C10 O10 Q10 n11 d0 d1 d2 d3 g0 g1 g2 g3
    obtain ⟨⟨g0, g1, g2, g3⟩, _, _, _, _⟩ := four_cells Q11.out
    have hk11 : decide ((1 : Int) + (n : Int) * 3 < 0) = false := by simp; omega
    go_wp2_with fail
    cases ra with
    | none =>
      have hn0 : n = 0 := own_nil O11.out
      subst hn0
      refine (markWalkRes_nil x1 x2 x3 none rc 1 v11).mono ?_
      rintro e v12 ⟨rfl, n12⟩
      have A12 := Below.step A11 n12 (Nat.le_refl _)
      have C12 := Below.step C11 n12 (Nat.le_refl _)
      obtain ⟨⟨t0, t1, t2, t3⟩, _, _, _, _⟩ := four_cells (heap_keep Q11.out n12 (by omega))
      clear A11 C11 O11 Q11 n12 g0 g1 g2 g3
      go_wp2_with fail
      refine (heldWalkRes_nil x1 x2 x3 none rc 1 v12 (by omega)).mono ?_
      rintro e v13 ⟨rfl, n13⟩
      have A13 := Below.step A12 n13 (Nat.le_refl _)
      have C13 := Below.step C12 n13 (Nat.le_refl _)
      clear A12 C12 n13 t0 t1 t2 t3
      go_wp2_with fail
      refine (toByteS_any a0 len0 cap0 zs v13 (hB.keep A13) hlen).mono ?_
      rintro e v14 ⟨rfl, k14, n14⟩
      have A14 := Below.step A13 n14 (Nat.le_refl _)
      have C14 := Below.step C13 n14 (Nat.le_refl _)
      clear A13 C13 n14
      go_wp2_with fail
      have B14 : Byt v14 (some ⟨v13.heap.size, 0, none⟩) len0 zs := hz ▸ k14.byt HBD.out
      refine (implWalk_any (some ⟨v13.heap.size, 0, none⟩) len0 len0 zs a2 a1 v14 B14 hlen b2.1 b2.2 b1.1 b1.2).mono ?_
      rintro e v15 ⟨hw, n15⟩
      rw [HX.out] at hw
      obtain ⟨rb, rd, rfl, o15⟩ := hw
      simp only at o15 ⊢
      rw [hn] at o15 ⊢
      have A15 := Below.step A14 n15 (Nat.le_refl _)
      have C15 := Below.step C14 n15 (Nat.le_refl _)
      have O15 : Hid (v15.ownsRow v14.heap.size 161 3 (.slice rb 0 rd) 0 (recsC rs)) := o15
      clear A14 C14 k14 n15 o15 B14
      obtain ⟨⟨d0, d1, d2, d3⟩, _, _, _, _⟩ := four_cells (HP.out v15 C15)
      have s15 : v2.heap.size < v15.heap.size := Nat.lt_of_lt_of_le l3 C15.size
      go_wp2_with fail
      have n16 := (Below.refl v15.heap.size v15).alloc (Nat.le_refl _) (Obj.cells #[Value.int .i64 x1, Value.int .i64 x2, Value.int .u64 x3, Value.slice rb 0 rd] 42)
      generalize v15.alloc (Obj.cells #[Value.int .i64 x1, Value.int .i64 x2, Value.int .u64 x3, Value.slice rb 0 rd] 42) = v16 at n16 ⊢
      have A16 := Below.step A15 n16 (Nat.le_refl _)
      have C16 := Below.step C15 n16 (Nat.le_refl _)
      refine (eqWalkRes_same x1 x2 x3 rb sa 0 rd sc rs v16 (row_own (own_below O15.out n16)) (HS.out v16 C16) hn (by omega)).mono ?_
      rintro e v17 ⟨rfl, n17⟩
      have A17 := Below.step A16 n17 (Nat.le_refl _)
      clear A15 C15 O15 d0 d1 d2 d3 n16 A16 C16 n17
      go_wp2_with fail
      go_ret
      exact ⟨rfl, A17⟩
    | some q =>
      obtain ⟨hq, hq4, hq5⟩ := HG5.out q rfl
      obtain ⟨g, hg⟩ : ∃ g, q.block = g := ⟨_, rfl⟩
      rw [hg] at hq hq4 hq5
      subst hq
      clear hg
      have c11 := (CurAt.of_own O11.out).1
      have hgl := c11.lt
      refine (markWalkRes_any x1 x2 x3 g n rc (recsC rs) 1 v11 c11 (by omega) (by omega) (by omega)).mono ?_
      rintro e v12 ⟨rfl, c12, m12⟩
      have A12 := Below.gb A11 m12 (by have := A3.size; omega) hgl
      have C12 := Below.gb C11 m12 (by omega) hgl
      obtain ⟨⟨t0, t1, t2, t3⟩, _, _, _, _⟩ := four_cells (heap_gb Q11.out m12 (by omega))
      clear A11 C11 O11 Q11 m12 g0 g1 g2 g3 c11
      go_wp2_with fail
      refine (heldWalkRes_any x1 x2 x3 g n rc 1 v12 c12 (by omega) (by omega) (by omega)).mono ?_
      rintro e v13 ⟨rfl, n13⟩
      have A13 := Below.step A12 n13 (Nat.le_refl _)
      have C13 := Below.step C12 n13 (Nat.le_refl _)
      clear A12 C12 n13 t0 t1 t2 t3 c12
      go_wp2_with fail
      refine (toByteS_any a0 len0 cap0 zs v13 (hB.keep A13) hlen).mono ?_
      rintro e v14 ⟨rfl, k14, n14⟩
      have A14 := Below.step A13 n14 (Nat.le_refl _)
      have C14 := Below.step C13 n14 (Nat.le_refl _)
      clear A13 C13 n14
      go_wp2_with fail
      have B14 : Byt v14 (some ⟨v13.heap.size, 0, none⟩) len0 zs := hz ▸ k14.byt HBD.out
      refine (implWalk_any (some ⟨v13.heap.size, 0, none⟩) len0 len0 zs a2 a1 v14 B14 hlen b2.1 b2.2 b1.1 b1.2).mono ?_
      rintro e v15 ⟨hw, n15⟩
      rw [HX.out] at hw
      obtain ⟨rb, rd, rfl, o15⟩ := hw
      simp only at o15 ⊢
      rw [hn] at o15 ⊢
      have A15 := Below.step A14 n15 (Nat.le_refl _)
      have C15 := Below.step C14 n15 (Nat.le_refl _)
      have O15 : Hid (v15.ownsRow v14.heap.size 161 3 (.slice rb n rd) n (recsC rs)) := o15
      clear A14 C14 k14 n15 o15 B14
      obtain ⟨⟨d0, d1, d2, d3⟩, _, _, _, _⟩ := four_cells (HP.out v15 C15)
      have s15 : v2.heap.size < v15.heap.size := Nat.lt_of_lt_of_le l3 C15.size
      go_wp2_with fail
      have n16 := (Below.refl v15.heap.size v15).alloc (Nat.le_refl _) (Obj.cells #[Value.int .i64 x1, Value.int .i64 x2, Value.int .u64 x3, Value.slice rb n rd] 42)
      generalize v15.alloc (Obj.cells #[Value.int .i64 x1, Value.int .i64 x2, Value.int .u64 x3, Value.slice rb n rd] 42) = v16 at n16 ⊢
      have A16 := Below.step A15 n16 (Nat.le_refl _)
      have C16 := Below.step C15 n16 (Nat.le_refl _)
      refine (eqWalkRes_same x1 x2 x3 rb sa n rd sc rs v16 (row_own (own_below O15.out n16)) (HS.out v16 C16) hn (by omega)).mono ?_
      rintro e v17 ⟨rfl, n17⟩
      have A17 := Below.step A16 n17 (Nat.le_refl _)
      clear A15 C15 O15 d0 d1 d2 d3 n16 A16 C16 n17
      go_wp2_with fail
      go_ret
      exact ⟨rfl, A17⟩
  · go_enter Try.func9, Try.ntmps9
    go_wp2_with fail
    go_ret
    exact ⟨rfl, Below.refl _ _⟩

/-! ### THE ROW's STEP: WRITTEN OUT: LEAVE IT -/
set_option maxRecDepth 100000 in
theorem lifted (os : Os) (started : os.Started) (H : Type) (enc : TypeId × Value → H) :
    ReturnsInHanded {} Try.checked os 9 .any (Rows.fnExactWalkSpec.pre6 enc Try.prog Try.f9 Rows.fnExactWalkRow.domain false) (Rows.fnExactWalkSpec.post enc Try.prog Try.f9 false true false false) := by
  refine returnsInHanded_of_change (C := Try.checked) own started (by kernel_rfl) Try.func9
    (ChangeSpec.witness6 (enc := enc) (C := Try.checked) false ⟨#[], #[.slice none 0 0, .int .u64 0, .int .u64 0], []⟩ 8 (by kernel_rfl) (by kernel_rfl) (by kernel_rfl) (by kernel_rfl)) ?_
  intro W base args ds gs before hval0 hW hcnd _
  have hval : ∀ (j : Nat) t v, Try.f9.params[j]? = some t → args[j]? = some v → Value.okWide Try.prog W .any base t v := hval0
  have hW' := hW
  obtain ⟨p, q, hA0, hV, rfl, hfz, hnd⟩ := hW
  have hA : DataW.TrodAll enc Try.prog W 0 (fun _ => true) true Try.f9.params.toList args.toList ds p := hA0
  rw [Try.params9] at hA hval
  obtain ⟨v0, vs0, d0, ds0, p0, q0, hargs, rfl, rfl, h0, r0⟩ := trodAll_cons hA
  obtain ⟨v1, vs1, d1, ds1, p1, q1, rfl, rfl, rfl, h1, r1⟩ := trodAll_cons r0
  obtain ⟨v2, vs2, d2, ds2, p2, q2, rfl, rfl, rfl, h2, r2⟩ := trodAll_cons r1
  obtain ⟨rfl, rfl, rfl⟩ := trodAll_nil r2
  obtain rfl : args = #[v0, v1, v2] := by cases args; simp_all
  obtain ⟨rfl, rfl⟩ := trodVars_none hV
  obtain ⟨a0, len0, cap0, rfl⟩ := okWide_slice Try.underlying22 (hval 0 22 v0 rfl rfl)
  have k0 := h0
  have lt0 : ∀ x ∈ p0, x.block < W.heap.size := by obtain ⟨m, hm⟩ := k0; exact DataW.trod_lt m _ _ _ hm
  obtain ⟨z0, w0⟩ : ∃ zs, IsRow .u8 W a0 len0 cap0 zs := by
    obtain ⟨fuel, hf⟩ := h0
    rcases open_ints Try.underlying22 Try.underlying5 (by kernel_rfl) hf with ⟨hcs, _⟩ | ⟨x, l, c, zs, hcs, _, hl, hm, hz, _, hcell, hwz⟩
    · simp [Value.cells] at hcs
      obtain ⟨rfl, rfl, rfl⟩ := hcs
      exact ⟨[], .inl ⟨rfl, rfl, rfl, rfl⟩⟩
    · simp [Value.cells] at hcs
      obtain ⟨rfl, rfl, rfl⟩ := hcs
      exact ⟨zs, .inr ⟨_, rfl, hl, hm, by simpa using hz, hcell, hwz⟩⟩
  obtain ⟨a1, rfl, rfl, rfl, w1⟩ := open_int Try.underlying23 (hval 1 23 v1 rfl rfl) h1
  obtain ⟨a2, rfl, rfl, rfl, w2⟩ := open_int Try.underlying23 (hval 2 23 v2 rfl rfl) h2
  clear hA0 hval0
  refine (walk a0 len0 cap0 z0 a1 a2 W w0 w1 w2).mono fun e W' ⟨he, bel⟩ => ?_
  subst he
  exact ⟨_, rfl, _, _, _, [], _, [], hW', trodAll_mk1 (shut_bool Try.underlying4 _), (trodAll_cons_mk (Below.trod laidOut (by kernel_rfl) (of_decide_eq_true (by kernel_rfl)) k0 bel lt0) (trodAll_cons_mk (shut_int Try.underlying23 w1) (trodAll_cons_mk (shut_int Try.underlying23 w2) trodAll_mk0))), rfl, bel.frame _, fun h => by cases h⟩

theorem over : Rows.fnExactWalkRow.holds Try.pinned (OpenSpec.ofChange Rows.fnExactWalkSpec) :=
  OpenClaim.holds_of_wide 9 Try.f9 rfl rfl rfl rfl rfl rfl rfl ⟨rfl, rfl, rfl, rfl, rfl⟩ rfl rfl rfl rfl rfl (by kernel_rfl) Try.func9 (by kernel_rfl)
    (of_decide_eq_true (by kernel_rfl)) (by unfold Func.isWrapper; first | (rw [if_pos (by decide +kernel)]; kernel_rfl) | (rw [if_neg (by decide +kernel)]; exact ⟨rfl, rfl⟩))
    (fun os started H enc _ => lifted os started H enc)

/-- ████ THE STATEMENT ████ -/
theorem proved : Rows.FnExactWalkSaid := over
#print axioms proved
end Go.Proofs.Ythekickjjaleaab.fnExactWalk

namespace Go.Proofs.Ythekickjjaleaab
theorem fnExactWalk_holds : Rows.FnExactWalkSaid := fnExactWalk.proved
end Go.Proofs.Ythekickjjaleaab
