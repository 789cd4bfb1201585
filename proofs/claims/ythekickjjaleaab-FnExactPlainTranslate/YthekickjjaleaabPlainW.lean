/- The walk of the law of the plain translation. -/
import Derived.Test.YthekickjjaleaabPlainEq
import Derived.ProofKit
namespace Go.Proofs.Ythekickjjaleaab.fnExactPlainTranslate
open Go.RowKit
set_option linter.unusedVariables false

def IsRow (k : IntKind) (w : World) (a : Option Addr) (len cap : Nat) (zs : List Int) : Prop :=
  (a = none ∧ len = 0 ∧ cap = 0 ∧ zs = []) ∨
  ∃ x, a = some x ∧ len ≤ cap ∧ cap ≤ maxLen ∧ zs.length = cap ∧ (∀ i, i < zs.length → w.cell? (x.add i) = some (.int k (zs.getD i 0))) ∧ ∀ n ∈ zs, (Lit.int k n).wf = true

theorem walk (a0 : Option Addr) (len0 cap0 : Nat) (z0 : List Int) (mode : Int) (sum mxr : Bool) (satp kind va : Int) (w : World) (w0 : IsRow .u8 w a0 len0 cap0 z0) (w1 : (Lit.int .u64 satp).wf = true) (w2 : (Lit.int .u64 va).wf = true) :
    Calls Try.prog 10 #[.slice a0 len0 cap0, .agg #[.int .i64 mode, .bool sum, .bool mxr, .int .u64 satp], .int .i64 kind, .int .u64 va] w fun e w' => e = .returned (.bool true) ∧ Below w.heap.size w w' := by
  obtain ⟨hB, hlc, hcm⟩ := Byt.of_row w0
  have b1 := bounds_u64 w1
  have b2 := bounds_u64 w2
  have hz := hB.1
  have HBD : Hid (∀ i : Nat, 0 ≤ (z0.take len0)[i]?.getD 0 ∧ (z0.take len0)[i]?.getD 0 ≤ 255) := hB.2.1
  clear w0 w1 w2
  generalize z0.take len0 = zs at *
  by_cases hlen : len0 ≤ 1048576
  · obtain ⟨P, hP⟩ : ∃ P, plainM zs mode sum mxr satp kind va = P := ⟨_, rfl⟩
    have HP : Hid (plainM zs mode sum mxr satp kind va = P) := hP
    clear hP
    obtain ⟨p1, p2⟩ := P
    go_enter Try.func10, Try.ntmps10
    go_upto_region 3 with fail
    have a1 := alloc_facts w #[.int .i64 mode, .bool sum, .bool mxr, .int .u64 satp] 48
    generalize w.alloc (Obj.cells #[.int .i64 mode, .bool sum, .bool mxr, .int .u64 satp] 48) = v1 at a1 ⊢
    obtain ⟨l1, c1, A1⟩ := a1
    have c10 : v1.cell? ⟨w.heap.size, 0, none⟩ = some (.int .i64 mode) := c1 0
    have c11 : v1.cell? ⟨w.heap.size, 1, none⟩ = some (.bool sum) := c1 1
    have c12 : v1.cell? ⟨w.heap.size, 2, none⟩ = some (.bool mxr) := c1 2
    have c13 : v1.cell? ⟨w.heap.size, 3, none⟩ = some (.int .u64 satp) := c1 3
    have HC : Hid (∀ v, Below v1.heap.size v1 v → v.cell? ⟨w.heap.size, 0, none⟩ = some (.int .i64 mode) ∧ v.cell? ⟨w.heap.size, 1, none⟩ = some (.bool sum) ∧ v.cell? ⟨w.heap.size, 2, none⟩ = some (.bool mxr) ∧ v.cell? ⟨w.heap.size, 3, none⟩ = some (.int .u64 satp)) :=
      fun v h => ⟨Below.cell2 h c10 l1, Below.cell2 h c11 l1, Below.cell2 h c12 l1, Below.cell2 h c13 l1⟩
    have HBy : Hid (∀ v, Below v1.heap.size v1 v → Byt v a0 len0 zs) := fun v h => hB.keep (Below.step A1 h (Nat.le_refl _))
    have nv1 : v1.heap.size ≠ w.heap.size := by omega
    have nv2 : w.heap.size ≠ v1.heap.size := by omega
    clear c1 hB
    go_cut [9] (fun s9 wx => ∃ pb, s9 = .pointer (some ⟨pb, 0, none⟩) ∧ v1.heap.size ≤ pb ∧ wx.heap[pb]? = some (.cells #[.int .i64 p1, .int .u64 p2] 50 (0, 0)) ∧ Below v1.heap.size v1 wx)
    case first =>
      go_region_held3 (fun w' => w'.cell? ⟨w.heap.size, 0, none⟩ = some (.int .i64 mode) ∧ w'.cell? ⟨w.heap.size, 1, none⟩ = some (.bool sum) ∧ w'.cell? ⟨w.heap.size, 2, none⟩ = some (.bool mxr) ∧ w'.cell? ⟨w.heap.size, 3, none⟩ = some (.int .u64 satp)) (go_keep)
        (first
        | (go_at_call 16; refine (toByteS_ex a0 len0 cap0 zs v1.drew (HBy.out _ (Below.drew (Below.refl v1.heap.size v1))) hlen).mono ?_; rintro e y1 ⟨gx, rfl, lxy1, kx, ny1⟩; have my1 : Below v1.heap.size v1 y1 := Below.step (Below.drew (Below.refl v1.heap.size v1)) ny1 (Nat.le_refl _); (try (replace Hy := hid_keep Hy ny1)); obtain ⟨cy10, cy11, cy12, cy13⟩ := HC.out y1 my1; have Xy1 : Hid (Blk 5 y1 gx zs) := kx; clear kx)
        | (go_at_call 16; refine (toByteS_ex a0 len0 cap0 zs (v1.alloc (Obj.cells #[.int .i64 0, .int .u64 0] 50)).drew (HBy.out _ (Below.drew (Below.alloc (Below.refl v1.heap.size v1) (Nat.le_refl _) _))) hlen).mono ?_; rintro e y1 ⟨gx, rfl, lxy1, kx, ny1⟩; have my1 : Below v1.heap.size v1 y1 := Below.step (Below.drew (Below.alloc (Below.refl v1.heap.size v1) (Nat.le_refl _) _)) ny1 (Nat.le_refl _); have Hy : Hid (y1.heap[v1.heap.size]? = some (.cells #[.int .i64 0, .int .u64 0] 50 (0, 0))) := hid_keep (show Hid ((v1.alloc (Obj.cells #[.int .i64 0, .int .u64 0] 50)).drew.heap[v1.heap.size]? = some (.cells #[.int .i64 0, .int .u64 0] 50 (0, 0))) from heap_alloc_new v1 _) ny1; have loy : v1.heap.size ≤ v1.heap.size := (Nat.le_refl _); have ney : v1.heap.size ≠ w.heap.size := (by omega); have nfy : w.heap.size ≠ v1.heap.size := (by omega); obtain ⟨cy10, cy11, cy12, cy13⟩ := HC.out y1 my1; have Xy1 : Hid (Blk 5 y1 gx zs) := kx; clear kx)
        | (go_at_call 38; refine (toCtx_any mode sum mxr satp y1).mono ?_; unfold ctxV; rintro e y2 ⟨rfl, ny2⟩; have my2 : Below v1.heap.size v1 y2 := Below.step my1 ny2 (Nat.le_refl _); (try (replace Hy := hid_keep Hy ny2)); obtain ⟨cy20, cy21, cy22, cy23⟩ := HC.out y2 my2; have Xy2 : Hid (Blk 5 y2 gx zs) := (Blk.keep Xy1.out ny2 Xy1.out.lt))
        | (go_at_call 38; refine (toCtx_any mode sum mxr satp (y1.alloc (Obj.cells #[.int .i64 0, .int .u64 0] 50))).mono ?_; unfold ctxV; rintro e y2 ⟨rfl, ny2⟩; have my2 : Below v1.heap.size v1 y2 := Below.step (Below.alloc my1 (Below.size my1) _) ny2 (Nat.le_refl _); have Hy : Hid (y2.heap[y1.heap.size]? = some (.cells #[.int .i64 0, .int .u64 0] 50 (0, 0))) := hid_keep (show Hid ((y1.alloc (Obj.cells #[.int .i64 0, .int .u64 0] 50)).heap[y1.heap.size]? = some (.cells #[.int .i64 0, .int .u64 0] 50 (0, 0))) from heap_alloc_new y1 _) ny2; have loy : v1.heap.size ≤ y1.heap.size := (Below.size my1); have ney : y1.heap.size ≠ w.heap.size := (by omega); have nfy : w.heap.size ≠ y1.heap.size := (by omega); obtain ⟨cy20, cy21, cy22, cy23⟩ := HC.out y2 my2; have Xy2 : Hid (Blk 5 y2 gx zs) := (Blk.keep (Blk.keep Xy1.out ((Below.refl y1.heap.size y1).alloc (Nat.le_refl _) (Obj.cells #[.int .i64 0, .int .u64 0] 50)) Xy1.out.lt) ny2 (Nat.lt_of_lt_of_le Xy1.out.lt (by simp))))
        | (go_at_call 37; refine (specPlain_any (some ⟨gx, 0, none⟩) len0 len0 zs mode sum mxr satp kind va y2 hlen (Nat.le_refl _) (by omega) b1.1 b1.2 b2.1 b2.2 (hz ▸ Blk.byt Xy2.out HBD.out)).mono ?_; rw [HP.out]; unfold transV; rintro e y3 ⟨rfl, ny3⟩; have my3 : Below v1.heap.size v1 y3 := Below.step my2 ny3 (Nat.le_refl _); (try (replace Hy := hid_keep Hy ny3)); obtain ⟨cy30, cy31, cy32, cy33⟩ := HC.out y3 my3; (try (have hq := two_cells (Hid.out Hy); obtain ⟨⟨d0, d1⟩, e0, e1⟩ := hq)); have nzy : y3.heap.size ≠ w.heap.size := (by have := my3.size; omega); have nyy : w.heap.size ≠ y3.heap.size := (by have := my3.size; omega))
        | (go_at_call 37; refine (specPlain_any (some ⟨gx, 0, none⟩) len0 len0 zs mode sum mxr satp kind va (y2.alloc (Obj.cells #[.int .i64 0, .int .u64 0] 50)) hlen (Nat.le_refl _) (by omega) b1.1 b1.2 b2.1 b2.2 (hz ▸ Blk.byt (Blk.keep Xy2.out ((Below.refl y2.heap.size y2).alloc (Nat.le_refl _) (Obj.cells #[.int .i64 0, .int .u64 0] 50)) Xy2.out.lt) HBD.out)).mono ?_; rw [HP.out]; unfold transV; rintro e y3 ⟨rfl, ny3⟩; have my3 : Below v1.heap.size v1 y3 := Below.step (Below.alloc my2 (Below.size my2) _) ny3 (Nat.le_refl _); have Hy : Hid (y3.heap[y2.heap.size]? = some (.cells #[.int .i64 0, .int .u64 0] 50 (0, 0))) := hid_keep (show Hid ((y2.alloc (Obj.cells #[.int .i64 0, .int .u64 0] 50)).heap[y2.heap.size]? = some (.cells #[.int .i64 0, .int .u64 0] 50 (0, 0))) from heap_alloc_new y2 _) ny3; have loy : v1.heap.size ≤ y2.heap.size := (Below.size my2); have ney : y2.heap.size ≠ w.heap.size := (by omega); have nfy : w.heap.size ≠ y2.heap.size := (by omega); obtain ⟨cy30, cy31, cy32, cy33⟩ := HC.out y3 my3; (try (have hq := two_cells (Hid.out Hy); obtain ⟨⟨d0, d1⟩, e0, e1⟩ := hq)); have nzy : y3.heap.size ≠ w.heap.size := (by have := my3.size; omega); have nyy : w.heap.size ≠ y3.heap.size := (by have := my3.size; omega)))
      all_goals
        go_wp2_with fail
        go_meet
        first
          | exact ⟨y3.heap.size, rfl, Below.size my3, heap_alloc_new _ _, Below.alloc my3 (Below.size my3) _⟩
          | exact ⟨_, rfl, loy, two_put Hy.out, bel2 my3 loy _ _⟩
    case rest =>
      obtain ⟨pb, rfl, hpb, hQ, m2⟩ := hcut
      have Q2 : Hid (wc.heap[pb]? = some (.cells #[.int .i64 p1, .int .u64 p2] 50 (0, 0))) := hQ
      clear hQ c10 c11 c12 c13
      generalize wc = v2 at Q2 m2 ⊢
      have A2 := Below.step A1 m2 (Nat.le_refl _)
      go_wp2_with fail
      refine (toByteS_ex a0 len0 cap0 zs v2 (HBy.out v2 m2) hlen).mono ?_
      rintro e v3 ⟨gx, rfl, lgx, X3, n3⟩
      have m3 := Below.step m2 n3 (Nat.le_refl _)
      have Q3 := hid_keep Q2 n3
      clear m2 n3 Q2
      obtain ⟨c0, c1, c2, c3⟩ := HC.out v3 m3
      go_wp2_with fail
      refine (toCtx_any mode sum mxr satp v3).mono ?_
      unfold ctxV
      rintro e v4 ⟨rfl, n4⟩
      have m4 := Below.step m3 n4 (Nat.le_refl _)
      have Q4 := hid_keep Q3 n4
      have X4 := X3.keep n4 X3.lt
      clear m3 n4 Q3 X3 c0 c1 c2 c3
      go_wp2_with fail
      refine (implPlain_any (some ⟨gx, 0, none⟩) len0 len0 zs mode sum mxr satp kind va v4 (hz ▸ X4.byt HBD.out) hlen b2.1 b2.2 b1.1 b1.2).mono ?_
      rw [HP.out]
      unfold transV
      rintro e v5 ⟨rfl, n5⟩
      have m5 := Below.step m4 n5 (Nat.le_refl _)
      have Q5 := hid_keep Q4 n5
      have X5 := X4.keep n5 X4.lt
      clear m4 n5 Q4 X4
      obtain ⟨⟨d0, d1⟩, _, _⟩ := two_cells Q5.out
      have lpb : pb < v5.heap.size := (Array.getElem?_eq_some_iff.1 Q5.out).1
      have ET := eqTrans_same (p1, p2)
      unfold transV at ET
      have HET : Hid (∀ w, Calls Try.prog 40 #[.agg #[.int .i64 p1, .int .u64 p2], .agg #[.int .i64 p1, .int .u64 p2]] w fun e w' => e = .returned (.bool true) ∧ Below w.heap.size w w') := ET
      clear ET
      go_wp2_with fail
      have n6 := (Below.refl v5.heap.size v5).alloc (Nat.le_refl _) (Obj.cells #[.int .i64 p1, .int .u64 p2] 50)
      generalize v5.alloc (Obj.cells #[.int .i64 p1, .int .u64 p2] 50) = v6 at n6 ⊢
      have m6 := Below.step m5 n6 (Nat.le_refl _)
      have X6 := X5.keep n6 X5.lt
      clear m5 n6 X5 d0 d1 Q5
      refine (HET.out v6).mono ?_
      rintro e v7 ⟨rfl, n7⟩
      have m7 := Below.step m6 n7 (Nat.le_refl _)
      have X7 := X6.keep n7 X6.lt
      clear m6 n7 X6
      go_wp2_with fail
      refine (toByteS_ex a0 len0 cap0 zs v7 (HBy.out v7 m7) hlen).mono ?_
      rintro e v8 ⟨gy, rfl, lgy, Y8, n8⟩
      have m8 := Below.step m7 n8 (Nat.le_refl _)
      have X8 := X7.keep n8 X7.lt
      clear m7 n8 X7
      go_wp2_with fail
      refine (eqByteS_same _ _ len0 len0 len0 zs v8 (hz ▸ X8.byt HBD.out) (hz ▸ Y8.byt HBD.out) hlen).mono ?_
      rintro e v9 ⟨rfl, n9⟩
      have A9 := Below.step A1 (Below.step m8 n9 (Nat.le_refl _)) (Nat.le_refl _)
      clear m8 n9 X8 Y8
      go_wp2_with fail
      go_ret
      exact ⟨rfl, A9⟩
  · go_enter Try.func10, Try.ntmps10
    go_wp2_with fail
    go_ret
    exact ⟨rfl, (Below.refl _ _).alloc (Nat.le_refl _) _⟩

end Go.Proofs.Ythekickjjaleaab.fnExactPlainTranslate
