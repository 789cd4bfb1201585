import Derived.Test.YthekickjjaleaabPack09
import Derived.Test.YthekickjjaleaabPack10
import Derived.Test.YthekickjjaleaabPack08
import Derived.Test.YthekickjjaleaabPack18
import Derived.Deep.RegionHeld3
import Derived.Deep.DeepCutAuto
/- The walk of law FnExactFlush. Written by mkmut.py. -/
namespace Go.Proofs.Ythekickjjaleaab
open Go.RowKit
set_option linter.unusedVariables false

set_option maxRecDepth 20000 in
set_option maxHeartbeats 12800000 in
theorem flush_walk (sets ways : Int) (a : Option Addr) (cap : Nat) (es : List EntM) (hv : Bool) (fva : Int) (ha : Bool) (fa : Int) (w : World) (hr : RowC w a es.length 6 (entsC es)) (he : ∀ e ∈ es, entOk e)
    (hs : -9223372036854775808 ≤ sets ∧ sets ≤ 9223372036854775807) (hw : -9223372036854775808 ≤ ways ∧ ways ≤ 9223372036854775807) (hlc : es.length ≤ cap) (hcm : (cap : Int) ≤ 9223372036854775807) (bf : 0 ≤ fva ∧ fva ≤ 18446744073709551615) (ba : 0 ≤ fa ∧ fa ≤ 18446744073709551615) :
    Calls Try.prog 14 #[.agg #[.int .i64 sets, .int .i64 ways, .slice a es.length cap], .agg #[.bool hv, .int .u64 fva, .bool ha, .int .u64 fa]] w fun e w' => e = .returned (.bool true) ∧ Below w.heap.size w w' := by
  obtain ⟨⟨rs, rw, re⟩, hR⟩ : ∃ R, flushM ⟨sets, ways, es⟩ ⟨hv, fva, ha, fa⟩ = R := ⟨_, rfl⟩
  have hRl : re.length = es.length := by
    have : (flushM ⟨sets, ways, es⟩ ⟨hv, fva, ha, fa⟩).es.length = es.length := by
      unfold flushM
      split
      · simp
      · rfl
    rw [hR] at this
    exact this
  have HSp : Hid (∀ v u, TlbAt u v ⟨sets, ways, es⟩ → Calls Try.prog 54 #[v, .agg #[.bool hv, .int .u64 fva, .bool ha, .int .u64 fa]] u fun e w' => (∃ y, e = .returned y ∧ TlbOwn u.heap.size w' y ⟨rs, rw, re⟩) ∧ Below u.heap.size u w') := fun v u hu => by
    have := specFlush_any v ⟨sets, ways, es⟩ ⟨hv, fva, ha, fa⟩ u hu bf.1 bf.2
    rw [hR] at this
    exact this
  have HIm : Hid (∀ v u, TlbAt u v ⟨sets, ways, es⟩ → Calls Try.prog 56 #[v, .agg #[.bool hv, .int .u64 fva, .bool ha, .int .u64 fa]] u fun e w' => (∃ y, e = .returned y ∧ TlbOwn u.heap.size w' y ⟨rs, rw, re⟩) ∧ Below u.heap.size u w') := fun v u hu => by
    have := implFlush_any v ⟨sets, ways, es⟩ ⟨hv, fva, ha, fa⟩ u hu bf.1 bf.2
    rw [hR] at this
    exact this
  clear hR
  obtain ⟨n, hn⟩ : ∃ n, es.length = n := ⟨_, rfl⟩
  have HN : Hid (es.length = n) := hn
  rw [hn] at hr hlc hRl ⊢
  have HRl : Hid (re.length = n) := hRl
  have n1 := ((Below.refl w.heap.size w).alloc (Nat.le_refl _) (Obj.cells #[.int .i64 sets, .int .i64 ways, .slice a n cap] 58)).alloc (by simp) (Obj.cells #[.bool hv, .int .u64 fva, .bool ha, .int .u64 fa] 80)
  have H1 : Hid (((w.alloc (Obj.cells #[.int .i64 sets, .int .i64 ways, .slice a n cap] 58)).alloc (Obj.cells #[.bool hv, .int .u64 fva, .bool ha, .int .u64 fa] 80)).heap[w.heap.size]? = some (.cells #[.int .i64 sets, .int .i64 ways, .slice a n cap] 58 (0, 0))) := by
    show _ = _
    rw [heap_alloc_old _ _ (by simp)]
    exact heap_alloc_new w _
  have H2 : Hid (((w.alloc (Obj.cells #[.int .i64 sets, .int .i64 ways, .slice a n cap] 58)).alloc (Obj.cells #[.bool hv, .int .u64 fva, .bool ha, .int .u64 fa] 80)).heap[w.heap.size + 1]? = some (.cells #[.bool hv, .int .u64 fva, .bool ha, .int .u64 fa] 80 (0, 0))) := by
    have := heap_alloc_new (w.alloc (Obj.cells #[.int .i64 sets, .int .i64 ways, .slice a n cap] 58)) (Obj.cells #[.bool hv, .int .u64 fva, .bool ha, .int .u64 fa] 80)
    simp only [World.size_alloc] at this
    exact this
  have l1 : ((w.alloc (Obj.cells #[.int .i64 sets, .int .i64 ways, .slice a n cap] 58)).alloc (Obj.cells #[.bool hv, .int .u64 fva, .bool ha, .int .u64 fa] 80)).heap.size = w.heap.size + 2 := by simp
  have HR : Hid (RowC w a n 6 (entsC es)) := hr
  clear hr hn hRl
  by_cases hl : n ≤ 1048576
  · have HK : Hid (tlbOk ⟨sets, ways, es⟩) := ⟨he, hs, hw, by simp only; rw [HN.out]; exact hl⟩
    clear he
    go_enter Try.func14, Try.ntmps14
    go_wp2_with fail
    generalize ((w.alloc (Obj.cells #[.int .i64 sets, .int .i64 ways, .slice a n cap] 58)).alloc (Obj.cells #[.bool hv, .int .u64 fva, .bool ha, .int .u64 fa] 80)) = v1 at n1 H1 H2 l1 ⊢
    have HCt : Hid (∀ v, Below v1.heap.size v1 v → v.heap[w.heap.size]? = some (.cells #[.int .i64 sets, .int .i64 ways, .slice a n cap] 58 (0, 0))) := fun v h => (h.block w.heap.size (by omega)).trans H1.out
    have HCe : Hid (∀ v, Below v1.heap.size v1 v → v.heap[w.heap.size + 1]? = some (.cells #[.bool hv, .int .u64 fva, .bool ha, .int .u64 fa] 80 (0, 0))) := fun v h => (h.block (w.heap.size + 1) (by omega)).trans H2.out
    have HRw : Hid (∀ v, Below v1.heap.size v1 v → RowC v a n 6 (entsC es)) := fun v h => HR.out.keep (Below.step n1 h (Nat.le_refl _))
    clear H1 H2 HR
    refine (szTlb_any sets ways a n cap 1048576 v1 (by omega) (by omega) (by omega)).mono ?_
    rintro e v2 ⟨rfl, B2⟩
    rw [if_neg (by omega)]
    have s2 := B2.size
    go_wp2_with fail
    have HS : Hid (∀ v, Below v2.heap.size v2 v → v.cell? ⟨w.heap.size, 0, none⟩ = some (.int .i64 sets) ∧ v.cell? ⟨w.heap.size, 1, none⟩ = some (.int .i64 ways) ∧ v.cell? ⟨w.heap.size, 2, none⟩ = some (.slice a n cap) ∧ v.cell? ⟨w.heap.size + 1, 0, none⟩ = some (.bool hv) ∧ v.cell? ⟨w.heap.size + 1, 1, none⟩ = some (.int .u64 fva) ∧ v.cell? ⟨w.heap.size + 1, 2, none⟩ = some (.bool ha) ∧ v.cell? ⟨w.heap.size + 1, 3, none⟩ = some (.int .u64 fa)) := fun v h => ⟨cell_of (HCt.out v (Below.step B2 h (Nat.le_refl _))) 0 _ rfl, cell_of (HCt.out v (Below.step B2 h (Nat.le_refl _))) 1 _ rfl, cell_of (HCt.out v (Below.step B2 h (Nat.le_refl _))) 2 _ rfl, cell_of (HCe.out v (Below.step B2 h (Nat.le_refl _))) 0 _ rfl, cell_of (HCe.out v (Below.step B2 h (Nat.le_refl _))) 1 _ rfl, cell_of (HCe.out v (Below.step B2 h (Nat.le_refl _))) 2 _ rfl, cell_of (HCe.out v (Below.step B2 h (Nat.le_refl _))) 3 _ rfl⟩
    go_cut [6] (fun s wx => ∃ pb g c, s = .pointer (some ⟨pb, 0, none⟩) ∧ v2.heap.size ≤ pb ∧ pb ≠ g ∧ wx.heap[pb]? = some (.cells #[.int .i64 rs, .int .i64 rw, .slice (some ⟨g, 0, none⟩) n c] 63 (0, 0)) ∧ wx.ownsRow v2.heap.size 75 6 (.slice (some ⟨g, 0, none⟩) n c) n (entsC re) ∧ Below v2.heap.size v2 wx)
    case first =>
      obtain ⟨c0, c1, c2, c3, c4, c5, c6⟩ := HS.out v2 (Below.refl _ _)
      have nb0 : v2.heap.size ≠ w.heap.size := by omega
      have nc0 : w.heap.size ≠ v2.heap.size := by omega
      have nd0 : w.heap.size < v2.heap.size := by omega
      have nb1 : v2.heap.size ≠ w.heap.size + 1 := by omega
      have nc1 : w.heap.size + 1 ≠ v2.heap.size := by omega
      have nd1 : w.heap.size + 1 < v2.heap.size := by omega
      go_region_held3 (fun w' => w'.cell? ⟨w.heap.size, 0, none⟩ = some (.int .i64 sets) ∧ w'.cell? ⟨w.heap.size, 1, none⟩ = some (.int .i64 ways) ∧ w'.cell? ⟨w.heap.size, 2, none⟩ = some (.slice a n cap) ∧ w'.cell? ⟨w.heap.size + 1, 0, none⟩ = some (.bool hv) ∧ w'.cell? ⟨w.heap.size + 1, 1, none⟩ = some (.int .u64 fva) ∧ w'.cell? ⟨w.heap.size + 1, 2, none⟩ = some (.bool ha) ∧ w'.cell? ⟨w.heap.size + 1, 3, none⟩ = some (.int .u64 fa)) (go_keep)
        (first
        | (go_at_call 43; refine (toTlb_any sets ways a n cap es v2.drew (HRw.out _ (Below.step B2 (Below.drew (Below.refl v2.heap.size v2)) (Nat.le_refl _))) HN.out hl).mono ?_; rintro e y1 ⟨⟨x, rfl, hx0⟩, ny1⟩; have my1 : Below v2.heap.size v2 y1 := Below.step (Below.drew (Below.refl v2.heap.size v2)) ny1 (Nat.le_refl _); (try (have Ly : Hid (_ < v2.drew.heap.size) := (Array.getElem?_eq_some_iff.1 (Hid.out Hy)).1)); (try (replace Hy := hid_keep Hy ny1)); have szy1 := Below.size my1; have npy10 : y1.heap.size ≠ w.heap.size := (by omega); have nqy10 : w.heap.size ≠ y1.heap.size := (by omega); have nry10 : w.heap.size < y1.heap.size := (by omega); have npy11 : y1.heap.size ≠ w.heap.size + 1 := (by omega); have nqy11 : w.heap.size + 1 ≠ y1.heap.size := (by omega); have nry11 : w.heap.size + 1 < y1.heap.size := (by omega); have kky1 := HS.out y1 my1; obtain ⟨ky10, ky11, ky12, ky13, ky14, ky15, ky16⟩ := kky1; have Ty1 : Hid (TlbAt y1 x ⟨sets, ways, es⟩) := TlbOwn.at hx0 HK.out; clear hx0)
        | (go_at_call 43; refine (toTlb_any sets ways a n cap es (v2.alloc (Obj.cells #[.int .i64 0, .int .i64 0, .slice none 0 0] 63)).drew (HRw.out _ (Below.step B2 (Below.drew (Below.alloc (Below.refl v2.heap.size v2) (Nat.le_refl _) _)) (Nat.le_refl _))) HN.out hl).mono ?_; rintro e y1 ⟨⟨x, rfl, hx0⟩, ny1⟩; have my1 : Below v2.heap.size v2 y1 := Below.step (Below.drew (Below.alloc (Below.refl v2.heap.size v2) (Nat.le_refl _) _)) ny1 (Nat.le_refl _); have Ly : Hid (v2.heap.size < (v2.alloc (Obj.cells #[.int .i64 0, .int .i64 0, .slice none 0 0] 63)).drew.heap.size) := (show v2.heap.size < (v2.alloc (Obj.cells #[.int .i64 0, .int .i64 0, .slice none 0 0] 63)).heap.size by simp); have Hy : Hid (y1.heap[v2.heap.size]? = some (.cells #[.int .i64 0, .int .i64 0, .slice none 0 0] 63 (0, 0))) := hid_keep (show Hid ((v2.alloc (Obj.cells #[.int .i64 0, .int .i64 0, .slice none 0 0] 63)).drew.heap[v2.heap.size]? = some (.cells #[.int .i64 0, .int .i64 0, .slice none 0 0] 63 (0, 0))) from heap_alloc_new v2 _) ny1; have loy : v2.heap.size ≤ v2.heap.size := (Nat.le_refl _); have ney0 : v2.heap.size ≠ w.heap.size := (by omega); have nfy0 : w.heap.size ≠ v2.heap.size := (by omega); have ney1 : v2.heap.size ≠ w.heap.size + 1 := (by omega); have nfy1 : w.heap.size + 1 ≠ v2.heap.size := (by omega); have szy1 := Below.size my1; have npy10 : y1.heap.size ≠ w.heap.size := (by omega); have nqy10 : w.heap.size ≠ y1.heap.size := (by omega); have nry10 : w.heap.size < y1.heap.size := (by omega); have npy11 : y1.heap.size ≠ w.heap.size + 1 := (by omega); have nqy11 : w.heap.size + 1 ≠ y1.heap.size := (by omega); have nry11 : w.heap.size + 1 < y1.heap.size := (by omega); have kky1 := HS.out y1 my1; obtain ⟨ky10, ky11, ky12, ky13, ky14, ky15, ky16⟩ := kky1; have Ty1 : Hid (TlbAt y1 x ⟨sets, ways, es⟩) := TlbOwn.at hx0 HK.out; clear hx0)
        | (go_at_call 55; refine (toFence_any hv fva ha fa y1).mono ?_; rintro e y2 ⟨rfl, ny2⟩; have my2 : Below v2.heap.size v2 y2 := Below.step my1 ny2 (Nat.le_refl _); (try (have Ly : Hid (_ < y1.heap.size) := (Array.getElem?_eq_some_iff.1 (Hid.out Hy)).1)); (try (replace Hy := hid_keep Hy ny2)); have szy2 := Below.size my2; have npy20 : y2.heap.size ≠ w.heap.size := (by omega); have nqy20 : w.heap.size ≠ y2.heap.size := (by omega); have nry20 : w.heap.size < y2.heap.size := (by omega); have npy21 : y2.heap.size ≠ w.heap.size + 1 := (by omega); have nqy21 : w.heap.size + 1 ≠ y2.heap.size := (by omega); have nry21 : w.heap.size + 1 < y2.heap.size := (by omega); have kky2 := HS.out y2 my2; obtain ⟨ky20, ky21, ky22, ky23, ky24, ky25, ky26⟩ := kky2; have Ty2 : Hid (TlbAt y2 x ⟨sets, ways, es⟩) := (Ty1.out.keep ny2))
        | (go_at_call 55; refine (toFence_any hv fva ha fa (y1.alloc (Obj.cells #[.int .i64 0, .int .i64 0, .slice none 0 0] 63))).mono ?_; rintro e y2 ⟨rfl, ny2⟩; have my2 : Below v2.heap.size v2 y2 := Below.step (Below.alloc my1 (Below.size my1) _) ny2 (Nat.le_refl _); have Ly : Hid (y1.heap.size < (y1.alloc (Obj.cells #[.int .i64 0, .int .i64 0, .slice none 0 0] 63)).heap.size) := (show y1.heap.size < (y1.alloc (Obj.cells #[.int .i64 0, .int .i64 0, .slice none 0 0] 63)).heap.size by simp); have Hy : Hid (y2.heap[y1.heap.size]? = some (.cells #[.int .i64 0, .int .i64 0, .slice none 0 0] 63 (0, 0))) := hid_keep (show Hid ((y1.alloc (Obj.cells #[.int .i64 0, .int .i64 0, .slice none 0 0] 63)).heap[y1.heap.size]? = some (.cells #[.int .i64 0, .int .i64 0, .slice none 0 0] 63 (0, 0))) from heap_alloc_new y1 _) ny2; have loy : v2.heap.size ≤ y1.heap.size := (Below.size my1); have ney0 : y1.heap.size ≠ w.heap.size := (by omega); have nfy0 : w.heap.size ≠ y1.heap.size := (by omega); have ney1 : y1.heap.size ≠ w.heap.size + 1 := (by omega); have nfy1 : w.heap.size + 1 ≠ y1.heap.size := (by omega); have szy2 := Below.size my2; have npy20 : y2.heap.size ≠ w.heap.size := (by omega); have nqy20 : w.heap.size ≠ y2.heap.size := (by omega); have nry20 : w.heap.size < y2.heap.size := (by omega); have npy21 : y2.heap.size ≠ w.heap.size + 1 := (by omega); have nqy21 : w.heap.size + 1 ≠ y2.heap.size := (by omega); have nry21 : w.heap.size + 1 < y2.heap.size := (by omega); have kky2 := HS.out y2 my2; obtain ⟨ky20, ky21, ky22, ky23, ky24, ky25, ky26⟩ := kky2; have Ty2 : Hid (TlbAt y2 x ⟨sets, ways, es⟩) := (TlbAt.keep (Ty1.out.keep ((Below.refl _ _).alloc (Nat.le_refl _) _)) ny2))
        | (go_at_call 54; refine (HSp.out x y2 Ty2.out).mono ?_; rintro e y3 ⟨⟨y, rfl, hy⟩, ny3⟩; have hy2 := hy; obtain ⟨gy, cy, rfl, oy⟩ := hy2; clear hy; (simp only at oy ⊢); rw [HRl.out] at oy ⊢; have my3 : Below v2.heap.size v2 y3 := Below.step my2 ny3 (Nat.le_refl _); (try (have Ly : Hid (_ < y2.heap.size) := (Array.getElem?_eq_some_iff.1 (Hid.out Hy)).1)); (try (replace Hy := hid_keep Hy ny3)); have szy3 := Below.size my3; have npy30 : y3.heap.size ≠ w.heap.size := (by omega); have nqy30 : w.heap.size ≠ y3.heap.size := (by omega); have nry30 : w.heap.size < y3.heap.size := (by omega); have npy31 : y3.heap.size ≠ w.heap.size + 1 := (by omega); have nqy31 : w.heap.size + 1 ≠ y3.heap.size := (by omega); have nry31 : w.heap.size + 1 < y3.heap.size := (by omega); have kky3 := HS.out y3 my3; obtain ⟨ky30, ky31, ky32, ky33, ky34, ky35, ky36⟩ := kky3; (try (have hq := three_cells (Hid.out Hy); obtain ⟨⟨d0, d1, d2⟩, e0, e1, e2⟩ := hq)); have OY : Hid (y3.ownsRow y2.heap.size 75 6 (.slice (some ⟨gy, 0, none⟩) n cy) n (entsC re)) := oy; clear oy)
        | (go_at_call 54; refine (HSp.out x (y2.alloc (Obj.cells #[.int .i64 0, .int .i64 0, .slice none 0 0] 63)) (Ty2.out.keep ((Below.refl _ _).alloc (Nat.le_refl _) _))).mono ?_; rintro e y3 ⟨⟨y, rfl, hy⟩, ny3⟩; have hy2 := hy; obtain ⟨gy, cy, rfl, oy⟩ := hy2; clear hy; (simp only at oy ⊢); rw [HRl.out] at oy ⊢; have my3 : Below v2.heap.size v2 y3 := Below.step (Below.alloc my2 (Below.size my2) _) ny3 (Nat.le_refl _); have Ly : Hid (y2.heap.size < (y2.alloc (Obj.cells #[.int .i64 0, .int .i64 0, .slice none 0 0] 63)).heap.size) := (show y2.heap.size < (y2.alloc (Obj.cells #[.int .i64 0, .int .i64 0, .slice none 0 0] 63)).heap.size by simp); have Hy : Hid (y3.heap[y2.heap.size]? = some (.cells #[.int .i64 0, .int .i64 0, .slice none 0 0] 63 (0, 0))) := hid_keep (show Hid ((y2.alloc (Obj.cells #[.int .i64 0, .int .i64 0, .slice none 0 0] 63)).heap[y2.heap.size]? = some (.cells #[.int .i64 0, .int .i64 0, .slice none 0 0] 63 (0, 0))) from heap_alloc_new y2 _) ny3; have loy : v2.heap.size ≤ y2.heap.size := (Below.size my2); have ney0 : y2.heap.size ≠ w.heap.size := (by omega); have nfy0 : w.heap.size ≠ y2.heap.size := (by omega); have ney1 : y2.heap.size ≠ w.heap.size + 1 := (by omega); have nfy1 : w.heap.size + 1 ≠ y2.heap.size := (by omega); have szy3 := Below.size my3; have npy30 : y3.heap.size ≠ w.heap.size := (by omega); have nqy30 : w.heap.size ≠ y3.heap.size := (by omega); have nry30 : w.heap.size < y3.heap.size := (by omega); have npy31 : y3.heap.size ≠ w.heap.size + 1 := (by omega); have nqy31 : w.heap.size + 1 ≠ y3.heap.size := (by omega); have nry31 : w.heap.size + 1 < y3.heap.size := (by omega); have kky3 := HS.out y3 my3; obtain ⟨ky30, ky31, ky32, ky33, ky34, ky35, ky36⟩ := kky3; (try (have hq := three_cells (Hid.out Hy); obtain ⟨⟨d0, d1, d2⟩, e0, e1, e2⟩ := hq)); have OY : Hid (y3.ownsRow (y2.alloc (Obj.cells #[.int .i64 0, .int .i64 0, .slice none 0 0] 63)).heap.size 75 6 (.slice (some ⟨gy, 0, none⟩) n cy) n (entsC re)) := oy; clear oy))
      all_goals
        go_wp2_with fail
        go_meet
        first
          | exact ⟨y3.heap.size, gy, cy, rfl, Below.size my3, Nat.ne_of_gt (own_at OY.out).2.2, heap_alloc_new _ _, own_low (own_below OY.out ((Below.refl _ _).alloc (Nat.le_refl _) _)) (Below.size my2), Below.alloc my3 (Below.size my3) _⟩
          | exact ⟨_, gy, cy, rfl, loy, Nat.ne_of_lt (Nat.lt_of_lt_of_le Ly.out (own_at OY.out).2.1), three_setL Hy.out, own_low (own_gb OY.out (gb3 y3 _ _ _ _) Ly.out) (Nat.le_trans loy (Nat.le_of_lt Ly.out)), bel3 my3 loy _ _ _⟩
    case rest =>
      obtain ⟨pb, g0, k0, rfl, hpb, hpg, hW, hO, b3⟩ := hcut
      generalize wc = v3 at hW hO b3 ⊢
      have W3 : Hid (v3.heap[pb]? = some (.cells #[.int .i64 rs, .int .i64 rw, .slice (some ⟨g0, 0, none⟩) n k0] 63 (0, 0))) := hW
      have O3 : Hid (v3.ownsRow v2.heap.size 75 6 (.slice (some ⟨g0, 0, none⟩) n k0) n (entsC re)) := hO
      have B3 := Below.step B2 b3 (Nat.le_refl _)
      have lpb : pb < v3.heap.size := (Array.getElem?_eq_some_iff.1 hW).1
      have lg0 : v2.heap.size ≤ g0 ∧ g0 < v3.heap.size := (own_at hO).2
      have s3 := B3.size
      clear hW hO b3 HS
      have t3 := three_cells (HCt.out v3 B3)
      obtain ⟨⟨c0, c1, c2⟩, _, _, _⟩ := t3
      go_wp2_with fail
      refine (toTlb_any sets ways a n cap es v3 (HRw.out v3 B3) HN.out hl).mono ?_
      rintro e v4 ⟨⟨x, rfl, hx0⟩, n4⟩
      have T4 := TlbOwn.at hx0 HK.out
      obtain ⟨gx, cx, rfl, ox⟩ := hx0
      simp only at ox T4 ⊢
      rw [HN.out] at ox T4 ⊢
      have lgx : v3.heap.size ≤ gx ∧ gx < v4.heap.size := (own_at ox).2
      have n5 := n4.alloc n4.size (Obj.cells #[.int .i64 sets, .int .i64 ways, .slice (some ⟨gx, 0, none⟩) n cx] 63)
      have m5 := (Below.refl v4.heap.size v4).alloc (Nat.le_refl _) (Obj.cells #[.int .i64 sets, .int .i64 ways, .slice (some ⟨gx, 0, none⟩) n cx] 63)
      have X5 : Hid ((v4.alloc (Obj.cells #[.int .i64 sets, .int .i64 ways, .slice (some ⟨gx, 0, none⟩) n cx] 63)).heap[v4.heap.size]? = some (.cells #[.int .i64 sets, .int .i64 ways, .slice (some ⟨gx, 0, none⟩) n cx] 63 (0, 0))) := heap_alloc_new v4 _
      have l5 : v4.heap.size < (v4.alloc (Obj.cells #[.int .i64 sets, .int .i64 ways, .slice (some ⟨gx, 0, none⟩) n cx] 63)).heap.size := by simp
      have OX5 : Hid ((v4.alloc (Obj.cells #[.int .i64 sets, .int .i64 ways, .slice (some ⟨gx, 0, none⟩) n cx] 63)).ownsRow v3.heap.size 75 6 (.slice (some ⟨gx, 0, none⟩) n cx) n (entsC es)) := own_below ox m5
      have T5 := T4.keep m5
      have s4 := n4.size
      clear n4 ox T4 m5 c0 c1 c2
      go_wp2_with fail
      generalize v4.alloc (Obj.cells #[.int .i64 sets, .int .i64 ways, .slice (some ⟨gx, 0, none⟩) n cx] 63) = v5 at n5 X5 l5 OX5 T5 ⊢
      have B5 := Below.step B3 n5 (Nat.le_refl _)
      have W5 := hid_keep W3 n5
      have O5 : Hid (v5.ownsRow v2.heap.size 75 6 (.slice (some ⟨g0, 0, none⟩) n k0) n (entsC re)) := own_below O3.out n5
      have HCx : Hid (∀ v, Below v5.heap.size v5 v → v.heap[v4.heap.size]? = some (.cells #[.int .i64 sets, .int .i64 ways, .slice (some ⟨gx, 0, none⟩) n cx] 63 (0, 0))) := fun v h => heap_keep X5.out h l5
      have TX : Hid (∀ v, Below v5.heap.size v5 v → TlbAt v (.agg #[.int .i64 sets, .int .i64 ways, .slice (some ⟨gx, 0, none⟩) n cx]) ⟨sets, ways, es⟩) := fun v h => T5.keep h
      clear n5 W3 O3 T5
      have HS : Hid (∀ v, Below v5.heap.size v5 v → v.cell? ⟨v4.heap.size, 0, none⟩ = some (.int .i64 sets) ∧ v.cell? ⟨v4.heap.size, 1, none⟩ = some (.int .i64 ways) ∧ v.cell? ⟨v4.heap.size, 2, none⟩ = some (.slice (some ⟨gx, 0, none⟩) n cx) ∧ v.cell? ⟨w.heap.size + 1, 0, none⟩ = some (.bool hv) ∧ v.cell? ⟨w.heap.size + 1, 1, none⟩ = some (.int .u64 fva) ∧ v.cell? ⟨w.heap.size + 1, 2, none⟩ = some (.bool ha) ∧ v.cell? ⟨w.heap.size + 1, 3, none⟩ = some (.int .u64 fa)) := fun v h => ⟨cell_of (HCx.out v (h)) 0 _ rfl, cell_of (HCx.out v (h)) 1 _ rfl, cell_of (HCx.out v (h)) 2 _ rfl, cell_of (HCe.out v (Below.step B5 h (Nat.le_refl _))) 0 _ rfl, cell_of (HCe.out v (Below.step B5 h (Nat.le_refl _))) 1 _ rfl, cell_of (HCe.out v (Below.step B5 h (Nat.le_refl _))) 2 _ rfl, cell_of (HCe.out v (Below.step B5 h (Nat.le_refl _))) 3 _ rfl⟩
      go_cut [8] (fun s wx => ∃ pb g c, s = .pointer (some ⟨pb, 0, none⟩) ∧ v5.heap.size ≤ pb ∧ pb ≠ g ∧ wx.heap[pb]? = some (.cells #[.int .i64 rs, .int .i64 rw, .slice (some ⟨g, 0, none⟩) n c] 63 (0, 0)) ∧ wx.ownsRow v5.heap.size 75 6 (.slice (some ⟨g, 0, none⟩) n c) n (entsC re) ∧ Below v5.heap.size v5 wx)
      case first =>
        obtain ⟨c0, c1, c2, c3, c4, c5, c6⟩ := HS.out v5 (Below.refl _ _)
        have nb0 : v5.heap.size ≠ v4.heap.size := by omega
        have nc0 : v4.heap.size ≠ v5.heap.size := by omega
        have nd0 : v4.heap.size < v5.heap.size := by omega
        have nb1 : v5.heap.size ≠ w.heap.size + 1 := by omega
        have nc1 : w.heap.size + 1 ≠ v5.heap.size := by omega
        have nd1 : w.heap.size + 1 < v5.heap.size := by omega
        go_region_held3 (fun w' => w'.cell? ⟨v4.heap.size, 0, none⟩ = some (.int .i64 sets) ∧ w'.cell? ⟨v4.heap.size, 1, none⟩ = some (.int .i64 ways) ∧ w'.cell? ⟨v4.heap.size, 2, none⟩ = some (.slice (some ⟨gx, 0, none⟩) n cx) ∧ w'.cell? ⟨w.heap.size + 1, 0, none⟩ = some (.bool hv) ∧ w'.cell? ⟨w.heap.size + 1, 1, none⟩ = some (.int .u64 fva) ∧ w'.cell? ⟨w.heap.size + 1, 2, none⟩ = some (.bool ha) ∧ w'.cell? ⟨w.heap.size + 1, 3, none⟩ = some (.int .u64 fa)) (go_keep)
          (first
          | (go_at_call 55; refine (toFence_any hv fva ha fa v5.drew).mono ?_; rintro e z1 ⟨rfl, nz1⟩; have mz1 : Below v5.heap.size v5 z1 := Below.step (Below.drew (Below.refl v5.heap.size v5)) nz1 (Nat.le_refl _); (try (have Lz : Hid (_ < v5.drew.heap.size) := (Array.getElem?_eq_some_iff.1 (Hid.out Hz)).1)); (try (replace Hz := hid_keep Hz nz1)); have szz1 := Below.size mz1; have npz10 : z1.heap.size ≠ v4.heap.size := (by omega); have nqz10 : v4.heap.size ≠ z1.heap.size := (by omega); have nrz10 : v4.heap.size < z1.heap.size := (by omega); have npz11 : z1.heap.size ≠ w.heap.size + 1 := (by omega); have nqz11 : w.heap.size + 1 ≠ z1.heap.size := (by omega); have nrz11 : w.heap.size + 1 < z1.heap.size := (by omega); have kkz1 := HS.out z1 mz1; obtain ⟨kz10, kz11, kz12, kz13, kz14, kz15, kz16⟩ := kkz1)
          | (go_at_call 55; refine (toFence_any hv fva ha fa (v5.alloc (Obj.cells #[.int .i64 0, .int .i64 0, .slice none 0 0] 63)).drew).mono ?_; rintro e z1 ⟨rfl, nz1⟩; have mz1 : Below v5.heap.size v5 z1 := Below.step (Below.drew (Below.alloc (Below.refl v5.heap.size v5) (Nat.le_refl _) _)) nz1 (Nat.le_refl _); have Lz : Hid (v5.heap.size < (v5.alloc (Obj.cells #[.int .i64 0, .int .i64 0, .slice none 0 0] 63)).drew.heap.size) := (show v5.heap.size < (v5.alloc (Obj.cells #[.int .i64 0, .int .i64 0, .slice none 0 0] 63)).heap.size by simp); have Hz : Hid (z1.heap[v5.heap.size]? = some (.cells #[.int .i64 0, .int .i64 0, .slice none 0 0] 63 (0, 0))) := hid_keep (show Hid ((v5.alloc (Obj.cells #[.int .i64 0, .int .i64 0, .slice none 0 0] 63)).drew.heap[v5.heap.size]? = some (.cells #[.int .i64 0, .int .i64 0, .slice none 0 0] 63 (0, 0))) from heap_alloc_new v5 _) nz1; have loz : v5.heap.size ≤ v5.heap.size := (Nat.le_refl _); have nez0 : v5.heap.size ≠ v4.heap.size := (by omega); have nfz0 : v4.heap.size ≠ v5.heap.size := (by omega); have nez1 : v5.heap.size ≠ w.heap.size + 1 := (by omega); have nfz1 : w.heap.size + 1 ≠ v5.heap.size := (by omega); have szz1 := Below.size mz1; have npz10 : z1.heap.size ≠ v4.heap.size := (by omega); have nqz10 : v4.heap.size ≠ z1.heap.size := (by omega); have nrz10 : v4.heap.size < z1.heap.size := (by omega); have npz11 : z1.heap.size ≠ w.heap.size + 1 := (by omega); have nqz11 : w.heap.size + 1 ≠ z1.heap.size := (by omega); have nrz11 : w.heap.size + 1 < z1.heap.size := (by omega); have kkz1 := HS.out z1 mz1; obtain ⟨kz10, kz11, kz12, kz13, kz14, kz15, kz16⟩ := kkz1)
          | (go_at_call 56; refine (HIm.out (.agg #[.int .i64 sets, .int .i64 ways, .slice (some ⟨gx, 0, none⟩) n cx]) z1 (TX.out _ mz1)).mono ?_; rintro e z2 ⟨⟨y, rfl, hy⟩, nz2⟩; have hy2 := hy; obtain ⟨gy, cy, rfl, oy⟩ := hy2; clear hy; (simp only at oy ⊢); rw [HRl.out] at oy ⊢; have mz2 : Below v5.heap.size v5 z2 := Below.step mz1 nz2 (Nat.le_refl _); (try (have Lz : Hid (_ < z1.heap.size) := (Array.getElem?_eq_some_iff.1 (Hid.out Hz)).1)); (try (replace Hz := hid_keep Hz nz2)); have szz2 := Below.size mz2; have npz20 : z2.heap.size ≠ v4.heap.size := (by omega); have nqz20 : v4.heap.size ≠ z2.heap.size := (by omega); have nrz20 : v4.heap.size < z2.heap.size := (by omega); have npz21 : z2.heap.size ≠ w.heap.size + 1 := (by omega); have nqz21 : w.heap.size + 1 ≠ z2.heap.size := (by omega); have nrz21 : w.heap.size + 1 < z2.heap.size := (by omega); have kkz2 := HS.out z2 mz2; obtain ⟨kz20, kz21, kz22, kz23, kz24, kz25, kz26⟩ := kkz2; (try (have hq := three_cells (Hid.out Hz); obtain ⟨⟨d0, d1, d2⟩, e0, e1, e2⟩ := hq)); have OY : Hid (z2.ownsRow z1.heap.size 75 6 (.slice (some ⟨gy, 0, none⟩) n cy) n (entsC re)) := oy; clear oy)
          | (go_at_call 56; refine (HIm.out (.agg #[.int .i64 sets, .int .i64 ways, .slice (some ⟨gx, 0, none⟩) n cx]) (z1.alloc (Obj.cells #[.int .i64 0, .int .i64 0, .slice none 0 0] 63)) (TX.out _ (Below.alloc mz1 (Below.size mz1) _))).mono ?_; rintro e z2 ⟨⟨y, rfl, hy⟩, nz2⟩; have hy2 := hy; obtain ⟨gy, cy, rfl, oy⟩ := hy2; clear hy; (simp only at oy ⊢); rw [HRl.out] at oy ⊢; have mz2 : Below v5.heap.size v5 z2 := Below.step (Below.alloc mz1 (Below.size mz1) _) nz2 (Nat.le_refl _); have Lz : Hid (z1.heap.size < (z1.alloc (Obj.cells #[.int .i64 0, .int .i64 0, .slice none 0 0] 63)).heap.size) := (show z1.heap.size < (z1.alloc (Obj.cells #[.int .i64 0, .int .i64 0, .slice none 0 0] 63)).heap.size by simp); have Hz : Hid (z2.heap[z1.heap.size]? = some (.cells #[.int .i64 0, .int .i64 0, .slice none 0 0] 63 (0, 0))) := hid_keep (show Hid ((z1.alloc (Obj.cells #[.int .i64 0, .int .i64 0, .slice none 0 0] 63)).heap[z1.heap.size]? = some (.cells #[.int .i64 0, .int .i64 0, .slice none 0 0] 63 (0, 0))) from heap_alloc_new z1 _) nz2; have loz : v5.heap.size ≤ z1.heap.size := (Below.size mz1); have nez0 : z1.heap.size ≠ v4.heap.size := (by omega); have nfz0 : v4.heap.size ≠ z1.heap.size := (by omega); have nez1 : z1.heap.size ≠ w.heap.size + 1 := (by omega); have nfz1 : w.heap.size + 1 ≠ z1.heap.size := (by omega); have szz2 := Below.size mz2; have npz20 : z2.heap.size ≠ v4.heap.size := (by omega); have nqz20 : v4.heap.size ≠ z2.heap.size := (by omega); have nrz20 : v4.heap.size < z2.heap.size := (by omega); have npz21 : z2.heap.size ≠ w.heap.size + 1 := (by omega); have nqz21 : w.heap.size + 1 ≠ z2.heap.size := (by omega); have nrz21 : w.heap.size + 1 < z2.heap.size := (by omega); have kkz2 := HS.out z2 mz2; obtain ⟨kz20, kz21, kz22, kz23, kz24, kz25, kz26⟩ := kkz2; (try (have hq := three_cells (Hid.out Hz); obtain ⟨⟨d0, d1, d2⟩, e0, e1, e2⟩ := hq)); have OY : Hid (z2.ownsRow (z1.alloc (Obj.cells #[.int .i64 0, .int .i64 0, .slice none 0 0] 63)).heap.size 75 6 (.slice (some ⟨gy, 0, none⟩) n cy) n (entsC re)) := oy; clear oy))
        all_goals
          go_wp2_with fail
          go_meet
          first
            | exact ⟨z2.heap.size, gy, cy, rfl, Below.size mz2, Nat.ne_of_gt (own_at OY.out).2.2, heap_alloc_new _ _, own_low (own_below OY.out ((Below.refl _ _).alloc (Nat.le_refl _) _)) (Below.size mz1), Below.alloc mz2 (Below.size mz2) _⟩
            | exact ⟨_, gy, cy, rfl, loz, Nat.ne_of_lt (Nat.lt_of_lt_of_le Lz.out (own_at OY.out).2.1), three_setL Hz.out, own_low (own_gb OY.out (gb3 z2 _ _ _ _) Lz.out) (Nat.le_trans loz (Nat.le_of_lt Lz.out)), bel3 mz2 loz _ _ _⟩
      case rest =>
        obtain ⟨pg, gg, kg, rfl, hpgl, hpgg, hG, hOG, b6⟩ := hcut
        generalize wc = v6 at hG hOG b6 ⊢
        have G6 : Hid (v6.heap[pg]? = some (.cells #[.int .i64 rs, .int .i64 rw, .slice (some ⟨gg, 0, none⟩) n kg] 63 (0, 0))) := hG
        have OG6 : Hid (v6.ownsRow v5.heap.size 75 6 (.slice (some ⟨gg, 0, none⟩) n kg) n (entsC re)) := hOG
        have lpg : pg < v6.heap.size := (Array.getElem?_eq_some_iff.1 hG).1
        have lgg : v5.heap.size ≤ gg ∧ gg < v6.heap.size := (own_at hOG).2
        have B6 := Below.step B5 b6 (Nat.le_refl _)
        have W6 := hid_keep W5 b6
        have X6 := hid_keep X5 b6
        have O6 : Hid (v6.ownsRow v2.heap.size 75 6 (.slice (some ⟨g0, 0, none⟩) n k0) n (entsC re)) := own_below O5.out b6
        have OX6 : Hid (v6.ownsRow v3.heap.size 75 6 (.slice (some ⟨gx, 0, none⟩) n cx) n (entsC es)) := own_below OX5.out b6
        have s6 := b6.size
        clear hG hOG b6 HS HCx TX W5 X5 O5 OX5
        obtain ⟨⟨c0, c1, c2⟩, _, _, _⟩ := three_cells G6.out
        obtain ⟨⟨d0, d1, d2⟩, _, _, _⟩ := three_cells W6.out
        go_wp2_with fail
        refine (eqTlb_same rs rw (some ⟨gg, 0, none⟩) (some ⟨g0, 0, none⟩) n kg k0 re v6 (row_own OG6.out) (row_own O6.out) HRl.out hl).mono ?_
        rintro e v7 ⟨rfl, b7⟩
        have B7 := Below.step B6 b7 (Nat.le_refl _)
        have G7 := hid_keep G6 b7
        have W7 := hid_keep W6 b7
        have X7 := hid_keep X6 b7
        have O7 : Hid (v7.ownsRow v2.heap.size 75 6 (.slice (some ⟨g0, 0, none⟩) n k0) n (entsC re)) := own_below O6.out b7
        have OX7 : Hid (v7.ownsRow v3.heap.size 75 6 (.slice (some ⟨gx, 0, none⟩) n cx) n (entsC es)) := own_below OX6.out b7
        have OG7 : Hid (v7.ownsRow v5.heap.size 75 6 (.slice (some ⟨gg, 0, none⟩) n kg) n (entsC re)) := own_below OG6.out b7
        have s7 := b7.size
        clear b7 G6 W6 X6 O6 OX6 OG6 c0 c1 c2 d0 d1 d2
        go_wp2_with fail
        have D7 : Below v7.heap.size v7 v7.drew := (Below.refl _ _).drew
        have RX7 : Hid (RowC v7 (some ⟨gx, 0, none⟩) n 6 (entsC es)) := row_own OX7.out
        go_cut [37] (fun s wx => s = .bool false ∧ Below v7.heap.size v7 wx)
        case first =>
          obtain ⟨⟨c0, c1, c2⟩, _, _, _⟩ := three_cells (HCt.out v7 B7)
          obtain ⟨⟨c3, c4, c5⟩, _, _, _⟩ := three_cells X7.out
          go_region_held3 (fun w' => w'.cell? ⟨w.heap.size, 0, none⟩ = some (.int .i64 sets) ∧ w'.cell? ⟨w.heap.size, 1, none⟩ = some (.int .i64 ways) ∧ w'.cell? ⟨w.heap.size, 2, none⟩ = some (.slice a n cap) ∧ w'.cell? ⟨v4.heap.size, 0, none⟩ = some (.int .i64 sets) ∧ w'.cell? ⟨v4.heap.size, 1, none⟩ = some (.int .i64 ways) ∧ w'.cell? ⟨v4.heap.size, 2, none⟩ = some (.slice (some ⟨gx, 0, none⟩) n cx)) (go_keep)
            (first
            | (go_at_call 43; refine (toTlb_any sets ways a n cap es v7.drew (HRw.out _ (Below.step B7 D7 (Nat.le_refl _))) HN.out hl).mono ?_; rintro e v8 ⟨⟨y, rfl, hy⟩, n8⟩; have hy' := TlbOwn.row hy; obtain ⟨gy, cy, rfl, ry, _, _⟩ := hy'; (simp only at ry ⊢); rw [HN.out] at ry ⊢; have N8 := Below.step D7 n8 (Nat.le_refl _); have RX8 : Hid _ := RowC.keep RX7.out N8; have RY8 : Hid (RowC v8 (some ⟨gy, 0, none⟩) n 6 (entsC es)) := ry; have kk1 := three_cells (HCt.out v8 (Below.step B7 N8 (Nat.le_refl _))); have kk2 := three_cells (hid_keep X7 N8).out; obtain ⟨⟨a0, a1, a2⟩, _, _, _⟩ := kk1; obtain ⟨⟨b0, b1, b2⟩, _, _, _⟩ := kk2; clear ry hy n8)
            | (go_at_call 45; refine (eqTlb_same sets ways (some ⟨gx, 0, none⟩) (some ⟨gy, 0, none⟩) n cx cy es v8 RX8.out RY8.out HN.out hl).mono ?_; rintro e v9 ⟨rfl, n9⟩; have N9 := Below.step N8 n9 (Nat.le_refl _); have kk1 := three_cells (HCt.out v9 (Below.step B7 N9 (Nat.le_refl _))); have kk2 := three_cells (hid_keep X7 N9).out; obtain ⟨⟨a0', a1', a2'⟩, _, _, _⟩ := kk1; obtain ⟨⟨b0', b1', b2'⟩, _, _, _⟩ := kk2))
          all_goals
            go_wp2_with fail
            go_meet
            exact ⟨rfl, N9⟩
        case rest =>
          obtain ⟨rfl, b8⟩ := hcut
          generalize wc = v8 at b8 ⊢
          have B8 := Below.step B7 b8 (Nat.le_refl _)
          have G8 := hid_keep G7 b8
          have W8 := hid_keep W7 b8
          have X8 := hid_keep X7 b8
          have O8 : Hid (v8.ownsRow v2.heap.size 75 6 (.slice (some ⟨g0, 0, none⟩) n k0) n (entsC re)) := own_below O7.out b8
          have OX8 : Hid (v8.ownsRow v3.heap.size 75 6 (.slice (some ⟨gx, 0, none⟩) n cx) n (entsC es)) := own_below OX7.out b8
          have OG8 : Hid (v8.ownsRow v5.heap.size 75 6 (.slice (some ⟨gg, 0, none⟩) n kg) n (entsC re)) := own_below OG7.out b8
          have s8 := b8.size
          clear b8 D7 RX7 G7 W7 X7 O7 OX7 OG7
          obtain ⟨⟨c0, c1, c2⟩, _, _, _⟩ := three_cells X8.out
          go_wp2_with fail
          refine (markTlb_any sets ways v3.heap.size gx n cx (entsC es) 1 v8 OX8.out hl (by omega) (by omega)).mono ?_
          rintro e v9 ⟨rfl, _, m9⟩
          have B9 : Below v1.heap.size v1 v9 := B8.grown m9 B8.size (fun k hk => by cases hk; omega)
          have G9 : Hid (v9.heap[pg]? = some (.cells #[.int .i64 rs, .int .i64 rw, .slice (some ⟨gg, 0, none⟩) n kg] 63 (0, 0))) := heap_gb G8.out m9 (by omega)
          have W9 : Hid (v9.heap[pb]? = some (.cells #[.int .i64 rs, .int .i64 rw, .slice (some ⟨g0, 0, none⟩) n k0] 63 (0, 0))) := heap_gb W8.out m9 (by omega)
          have R9 : Hid (RowC v9 (some ⟨g0, 0, none⟩) n 6 (entsC re)) := gb_row (row_own O8.out) m9 (.inr (fun q hq => by cases hq; show g0 ≠ gx; omega))
          have OG9 : Hid (v9.ownsRow v5.heap.size 75 6 (.slice (some ⟨gg, 0, none⟩) n kg) n (entsC re)) := own_gb OG8.out m9 (by omega)
          have s9 := m9.size
          clear m9 G8 W8 X8 O8 OX8 OG8 c0 c1 c2
          obtain ⟨⟨c0, c1, c2⟩, _, _, _⟩ := three_cells G9.out
          obtain ⟨⟨d0, d1, d2⟩, _, _, _⟩ := three_cells W9.out
          have hk9 : decide ((1 : Int) + n * 6 < 0) = false := by simp; omega
          go_wp2_with fail
          refine (eqTlb_same rs rw (some ⟨gg, 0, none⟩) (some ⟨g0, 0, none⟩) n kg k0 re v9 (row_own OG9.out) R9.out HRl.out hl).mono ?_
          rintro e v10 ⟨rfl, b10⟩
          have B10 := Below.step B9 b10 (Nat.le_refl _)
          have G10 := hid_keep G9 b10
          have W10 := hid_keep W9 b10
          have R10 : Hid (RowC v10 (some ⟨g0, 0, none⟩) n 6 (entsC re)) := R9.out.keep b10
          have OG10 : Hid (v10.ownsRow v5.heap.size 75 6 (.slice (some ⟨gg, 0, none⟩) n kg) n (entsC re)) := own_below OG9.out b10
          have s10 := b10.size
          clear b10 G9 W9 R9 OG9 c0 c1 c2 d0 d1 d2
          obtain ⟨⟨c0, c1, c2⟩, _, _, _⟩ := three_cells G10.out
          go_wp2_with fail
          refine (markTlb_any rs rw v5.heap.size gg n kg (entsC re) 1 v10 OG10.out hl (by omega) (by omega)).mono ?_
          rintro e v11 ⟨rfl, o11, m11⟩
          have B11 : Below v1.heap.size v1 v11 := B10.grown m11 B10.size (fun k hk => by cases hk; omega)
          have G11 : Hid (v11.heap[pg]? = some (.cells #[.int .i64 rs, .int .i64 rw, .slice (some ⟨gg, 0, none⟩) n kg] 63 (0, 0))) := heap_gb G10.out m11 hpgg
          have W11 : Hid (v11.heap[pb]? = some (.cells #[.int .i64 rs, .int .i64 rw, .slice (some ⟨g0, 0, none⟩) n k0] 63 (0, 0))) := heap_gb W10.out m11 (by omega)
          have R11 : Hid (RowC v11 (some ⟨g0, 0, none⟩) n 6 (entsC re)) := gb_row R10.out m11 (.inr (fun q hq => by cases hq; show g0 ≠ gg; omega))
          have OM11 : Hid (v11.ownsRow v5.heap.size 75 6 (.slice (some ⟨gg, 0, none⟩) n kg) n (mkEs 1 (n * 6))) := o11
          have s11 := m11.size
          clear m11 o11 G10 W10 R10 OG10 c0 c1 c2
          obtain ⟨⟨c0, c1, c2⟩, _, _, _⟩ := three_cells G11.out
          go_wp2_with fail
          refine (heldTlb_any rs rw v5.heap.size gg n kg 1 v11 OM11.out hl (by omega) (by omega)).mono ?_
          rintro e v12 ⟨rfl, b12⟩
          have B12 := Below.step B11 b12 (Nat.le_refl _)
          have W12 := hid_keep W11 b12
          have R12 : Hid (RowC v12 (some ⟨g0, 0, none⟩) n 6 (entsC re)) := R11.out.keep b12
          have s12 := b12.size
          clear b12 G11 W11 R11 OM11 c0 c1 c2
          have hq12 : ((1 : Int) + n * 6 != 1 + n * 6) = false := by simp
          go_wp2_with fail
          have HS : Hid (∀ v, Below v12.heap.size v12 v → v.cell? ⟨w.heap.size, 0, none⟩ = some (.int .i64 sets) ∧ v.cell? ⟨w.heap.size, 1, none⟩ = some (.int .i64 ways) ∧ v.cell? ⟨w.heap.size, 2, none⟩ = some (.slice a n cap) ∧ v.cell? ⟨w.heap.size + 1, 0, none⟩ = some (.bool hv) ∧ v.cell? ⟨w.heap.size + 1, 1, none⟩ = some (.int .u64 fva) ∧ v.cell? ⟨w.heap.size + 1, 2, none⟩ = some (.bool ha) ∧ v.cell? ⟨w.heap.size + 1, 3, none⟩ = some (.int .u64 fa)) := fun v h => ⟨cell_of (HCt.out v (Below.step B12 h (Nat.le_refl _))) 0 _ rfl, cell_of (HCt.out v (Below.step B12 h (Nat.le_refl _))) 1 _ rfl, cell_of (HCt.out v (Below.step B12 h (Nat.le_refl _))) 2 _ rfl, cell_of (HCe.out v (Below.step B12 h (Nat.le_refl _))) 0 _ rfl, cell_of (HCe.out v (Below.step B12 h (Nat.le_refl _))) 1 _ rfl, cell_of (HCe.out v (Below.step B12 h (Nat.le_refl _))) 2 _ rfl, cell_of (HCe.out v (Below.step B12 h (Nat.le_refl _))) 3 _ rfl⟩
          go_cut [12] (fun s wx => ∃ pb g c, s = .pointer (some ⟨pb, 0, none⟩) ∧ v12.heap.size ≤ pb ∧ pb ≠ g ∧ wx.heap[pb]? = some (.cells #[.int .i64 rs, .int .i64 rw, .slice (some ⟨g, 0, none⟩) n c] 63 (0, 0)) ∧ wx.ownsRow v12.heap.size 75 6 (.slice (some ⟨g, 0, none⟩) n c) n (entsC re) ∧ Below v12.heap.size v12 wx)
          case first =>
            obtain ⟨c0, c1, c2, c3, c4, c5, c6⟩ := HS.out v12 (Below.refl _ _)
            have nb0 : v12.heap.size ≠ w.heap.size := by omega
            have nc0 : w.heap.size ≠ v12.heap.size := by omega
            have nd0 : w.heap.size < v12.heap.size := by omega
            have nb1 : v12.heap.size ≠ w.heap.size + 1 := by omega
            have nc1 : w.heap.size + 1 ≠ v12.heap.size := by omega
            have nd1 : w.heap.size + 1 < v12.heap.size := by omega
            go_region_held3 (fun w' => w'.cell? ⟨w.heap.size, 0, none⟩ = some (.int .i64 sets) ∧ w'.cell? ⟨w.heap.size, 1, none⟩ = some (.int .i64 ways) ∧ w'.cell? ⟨w.heap.size, 2, none⟩ = some (.slice a n cap) ∧ w'.cell? ⟨w.heap.size + 1, 0, none⟩ = some (.bool hv) ∧ w'.cell? ⟨w.heap.size + 1, 1, none⟩ = some (.int .u64 fva) ∧ w'.cell? ⟨w.heap.size + 1, 2, none⟩ = some (.bool ha) ∧ w'.cell? ⟨w.heap.size + 1, 3, none⟩ = some (.int .u64 fa)) (go_keep)
              (first
              | (go_at_call 43; refine (toTlb_any sets ways a n cap es v12.drew (HRw.out _ (Below.step B12 (Below.drew (Below.refl v12.heap.size v12)) (Nat.le_refl _))) HN.out hl).mono ?_; rintro e u1 ⟨⟨x, rfl, hx0⟩, nu1⟩; have mu1 : Below v12.heap.size v12 u1 := Below.step (Below.drew (Below.refl v12.heap.size v12)) nu1 (Nat.le_refl _); (try (have Lu : Hid (_ < v12.drew.heap.size) := (Array.getElem?_eq_some_iff.1 (Hid.out Hu)).1)); (try (replace Hu := hid_keep Hu nu1)); have szu1 := Below.size mu1; have npu10 : u1.heap.size ≠ w.heap.size := (by omega); have nqu10 : w.heap.size ≠ u1.heap.size := (by omega); have nru10 : w.heap.size < u1.heap.size := (by omega); have npu11 : u1.heap.size ≠ w.heap.size + 1 := (by omega); have nqu11 : w.heap.size + 1 ≠ u1.heap.size := (by omega); have nru11 : w.heap.size + 1 < u1.heap.size := (by omega); have kku1 := HS.out u1 mu1; obtain ⟨ku10, ku11, ku12, ku13, ku14, ku15, ku16⟩ := kku1; have Tu1 : Hid (TlbAt u1 x ⟨sets, ways, es⟩) := TlbOwn.at hx0 HK.out; clear hx0)
              | (go_at_call 43; refine (toTlb_any sets ways a n cap es (v12.alloc (Obj.cells #[.int .i64 0, .int .i64 0, .slice none 0 0] 63)).drew (HRw.out _ (Below.step B12 (Below.drew (Below.alloc (Below.refl v12.heap.size v12) (Nat.le_refl _) _)) (Nat.le_refl _))) HN.out hl).mono ?_; rintro e u1 ⟨⟨x, rfl, hx0⟩, nu1⟩; have mu1 : Below v12.heap.size v12 u1 := Below.step (Below.drew (Below.alloc (Below.refl v12.heap.size v12) (Nat.le_refl _) _)) nu1 (Nat.le_refl _); have Lu : Hid (v12.heap.size < (v12.alloc (Obj.cells #[.int .i64 0, .int .i64 0, .slice none 0 0] 63)).drew.heap.size) := (show v12.heap.size < (v12.alloc (Obj.cells #[.int .i64 0, .int .i64 0, .slice none 0 0] 63)).heap.size by simp); have Hu : Hid (u1.heap[v12.heap.size]? = some (.cells #[.int .i64 0, .int .i64 0, .slice none 0 0] 63 (0, 0))) := hid_keep (show Hid ((v12.alloc (Obj.cells #[.int .i64 0, .int .i64 0, .slice none 0 0] 63)).drew.heap[v12.heap.size]? = some (.cells #[.int .i64 0, .int .i64 0, .slice none 0 0] 63 (0, 0))) from heap_alloc_new v12 _) nu1; have lou : v12.heap.size ≤ v12.heap.size := (Nat.le_refl _); have neu0 : v12.heap.size ≠ w.heap.size := (by omega); have nfu0 : w.heap.size ≠ v12.heap.size := (by omega); have neu1 : v12.heap.size ≠ w.heap.size + 1 := (by omega); have nfu1 : w.heap.size + 1 ≠ v12.heap.size := (by omega); have szu1 := Below.size mu1; have npu10 : u1.heap.size ≠ w.heap.size := (by omega); have nqu10 : w.heap.size ≠ u1.heap.size := (by omega); have nru10 : w.heap.size < u1.heap.size := (by omega); have npu11 : u1.heap.size ≠ w.heap.size + 1 := (by omega); have nqu11 : w.heap.size + 1 ≠ u1.heap.size := (by omega); have nru11 : w.heap.size + 1 < u1.heap.size := (by omega); have kku1 := HS.out u1 mu1; obtain ⟨ku10, ku11, ku12, ku13, ku14, ku15, ku16⟩ := kku1; have Tu1 : Hid (TlbAt u1 x ⟨sets, ways, es⟩) := TlbOwn.at hx0 HK.out; clear hx0)
              | (go_at_call 55; refine (toFence_any hv fva ha fa u1).mono ?_; rintro e u2 ⟨rfl, nu2⟩; have mu2 : Below v12.heap.size v12 u2 := Below.step mu1 nu2 (Nat.le_refl _); (try (have Lu : Hid (_ < u1.heap.size) := (Array.getElem?_eq_some_iff.1 (Hid.out Hu)).1)); (try (replace Hu := hid_keep Hu nu2)); have szu2 := Below.size mu2; have npu20 : u2.heap.size ≠ w.heap.size := (by omega); have nqu20 : w.heap.size ≠ u2.heap.size := (by omega); have nru20 : w.heap.size < u2.heap.size := (by omega); have npu21 : u2.heap.size ≠ w.heap.size + 1 := (by omega); have nqu21 : w.heap.size + 1 ≠ u2.heap.size := (by omega); have nru21 : w.heap.size + 1 < u2.heap.size := (by omega); have kku2 := HS.out u2 mu2; obtain ⟨ku20, ku21, ku22, ku23, ku24, ku25, ku26⟩ := kku2; have Tu2 : Hid (TlbAt u2 x ⟨sets, ways, es⟩) := (Tu1.out.keep nu2))
              | (go_at_call 55; refine (toFence_any hv fva ha fa (u1.alloc (Obj.cells #[.int .i64 0, .int .i64 0, .slice none 0 0] 63))).mono ?_; rintro e u2 ⟨rfl, nu2⟩; have mu2 : Below v12.heap.size v12 u2 := Below.step (Below.alloc mu1 (Below.size mu1) _) nu2 (Nat.le_refl _); have Lu : Hid (u1.heap.size < (u1.alloc (Obj.cells #[.int .i64 0, .int .i64 0, .slice none 0 0] 63)).heap.size) := (show u1.heap.size < (u1.alloc (Obj.cells #[.int .i64 0, .int .i64 0, .slice none 0 0] 63)).heap.size by simp); have Hu : Hid (u2.heap[u1.heap.size]? = some (.cells #[.int .i64 0, .int .i64 0, .slice none 0 0] 63 (0, 0))) := hid_keep (show Hid ((u1.alloc (Obj.cells #[.int .i64 0, .int .i64 0, .slice none 0 0] 63)).heap[u1.heap.size]? = some (.cells #[.int .i64 0, .int .i64 0, .slice none 0 0] 63 (0, 0))) from heap_alloc_new u1 _) nu2; have lou : v12.heap.size ≤ u1.heap.size := (Below.size mu1); have neu0 : u1.heap.size ≠ w.heap.size := (by omega); have nfu0 : w.heap.size ≠ u1.heap.size := (by omega); have neu1 : u1.heap.size ≠ w.heap.size + 1 := (by omega); have nfu1 : w.heap.size + 1 ≠ u1.heap.size := (by omega); have szu2 := Below.size mu2; have npu20 : u2.heap.size ≠ w.heap.size := (by omega); have nqu20 : w.heap.size ≠ u2.heap.size := (by omega); have nru20 : w.heap.size < u2.heap.size := (by omega); have npu21 : u2.heap.size ≠ w.heap.size + 1 := (by omega); have nqu21 : w.heap.size + 1 ≠ u2.heap.size := (by omega); have nru21 : w.heap.size + 1 < u2.heap.size := (by omega); have kku2 := HS.out u2 mu2; obtain ⟨ku20, ku21, ku22, ku23, ku24, ku25, ku26⟩ := kku2; have Tu2 : Hid (TlbAt u2 x ⟨sets, ways, es⟩) := (TlbAt.keep (Tu1.out.keep ((Below.refl _ _).alloc (Nat.le_refl _) _)) nu2))
              | (go_at_call 56; refine (HIm.out x u2 Tu2.out).mono ?_; rintro e u3 ⟨⟨y, rfl, hy⟩, nu3⟩; have hy2 := hy; obtain ⟨gy, cy, rfl, oy⟩ := hy2; clear hy; (simp only at oy ⊢); rw [HRl.out] at oy ⊢; have mu3 : Below v12.heap.size v12 u3 := Below.step mu2 nu3 (Nat.le_refl _); (try (have Lu : Hid (_ < u2.heap.size) := (Array.getElem?_eq_some_iff.1 (Hid.out Hu)).1)); (try (replace Hu := hid_keep Hu nu3)); have szu3 := Below.size mu3; have npu30 : u3.heap.size ≠ w.heap.size := (by omega); have nqu30 : w.heap.size ≠ u3.heap.size := (by omega); have nru30 : w.heap.size < u3.heap.size := (by omega); have npu31 : u3.heap.size ≠ w.heap.size + 1 := (by omega); have nqu31 : w.heap.size + 1 ≠ u3.heap.size := (by omega); have nru31 : w.heap.size + 1 < u3.heap.size := (by omega); have kku3 := HS.out u3 mu3; obtain ⟨ku30, ku31, ku32, ku33, ku34, ku35, ku36⟩ := kku3; (try (have hq := three_cells (Hid.out Hu); obtain ⟨⟨d0, d1, d2⟩, e0, e1, e2⟩ := hq)); have OY : Hid (u3.ownsRow u2.heap.size 75 6 (.slice (some ⟨gy, 0, none⟩) n cy) n (entsC re)) := oy; clear oy)
              | (go_at_call 56; refine (HIm.out x (u2.alloc (Obj.cells #[.int .i64 0, .int .i64 0, .slice none 0 0] 63)) (Tu2.out.keep ((Below.refl _ _).alloc (Nat.le_refl _) _))).mono ?_; rintro e u3 ⟨⟨y, rfl, hy⟩, nu3⟩; have hy2 := hy; obtain ⟨gy, cy, rfl, oy⟩ := hy2; clear hy; (simp only at oy ⊢); rw [HRl.out] at oy ⊢; have mu3 : Below v12.heap.size v12 u3 := Below.step (Below.alloc mu2 (Below.size mu2) _) nu3 (Nat.le_refl _); have Lu : Hid (u2.heap.size < (u2.alloc (Obj.cells #[.int .i64 0, .int .i64 0, .slice none 0 0] 63)).heap.size) := (show u2.heap.size < (u2.alloc (Obj.cells #[.int .i64 0, .int .i64 0, .slice none 0 0] 63)).heap.size by simp); have Hu : Hid (u3.heap[u2.heap.size]? = some (.cells #[.int .i64 0, .int .i64 0, .slice none 0 0] 63 (0, 0))) := hid_keep (show Hid ((u2.alloc (Obj.cells #[.int .i64 0, .int .i64 0, .slice none 0 0] 63)).heap[u2.heap.size]? = some (.cells #[.int .i64 0, .int .i64 0, .slice none 0 0] 63 (0, 0))) from heap_alloc_new u2 _) nu3; have lou : v12.heap.size ≤ u2.heap.size := (Below.size mu2); have neu0 : u2.heap.size ≠ w.heap.size := (by omega); have nfu0 : w.heap.size ≠ u2.heap.size := (by omega); have neu1 : u2.heap.size ≠ w.heap.size + 1 := (by omega); have nfu1 : w.heap.size + 1 ≠ u2.heap.size := (by omega); have szu3 := Below.size mu3; have npu30 : u3.heap.size ≠ w.heap.size := (by omega); have nqu30 : w.heap.size ≠ u3.heap.size := (by omega); have nru30 : w.heap.size < u3.heap.size := (by omega); have npu31 : u3.heap.size ≠ w.heap.size + 1 := (by omega); have nqu31 : w.heap.size + 1 ≠ u3.heap.size := (by omega); have nru31 : w.heap.size + 1 < u3.heap.size := (by omega); have kku3 := HS.out u3 mu3; obtain ⟨ku30, ku31, ku32, ku33, ku34, ku35, ku36⟩ := kku3; (try (have hq := three_cells (Hid.out Hu); obtain ⟨⟨d0, d1, d2⟩, e0, e1, e2⟩ := hq)); have OY : Hid (u3.ownsRow (u2.alloc (Obj.cells #[.int .i64 0, .int .i64 0, .slice none 0 0] 63)).heap.size 75 6 (.slice (some ⟨gy, 0, none⟩) n cy) n (entsC re)) := oy; clear oy))
            all_goals
              go_wp2_with fail
              go_meet
              first
                | exact ⟨u3.heap.size, gy, cy, rfl, Below.size mu3, Nat.ne_of_gt (own_at OY.out).2.2, heap_alloc_new _ _, own_low (own_below OY.out ((Below.refl _ _).alloc (Nat.le_refl _) _)) (Below.size mu2), Below.alloc mu3 (Below.size mu3) _⟩
                | exact ⟨_, gy, cy, rfl, lou, Nat.ne_of_lt (Nat.lt_of_lt_of_le Lu.out (own_at OY.out).2.1), three_setL Hu.out, own_low (own_gb OY.out (gb3 u3 _ _ _ _) Lu.out) (Nat.le_trans lou (Nat.le_of_lt Lu.out)), bel3 mu3 lou _ _ _⟩
          case rest =>
            obtain ⟨ph, gh, kh, rfl, hph, hphg, hH, hOH, b13⟩ := hcut
            generalize wc = v13 at hH hOH b13 ⊢
            have B13 := Below.step B12 b13 (Nat.le_refl _)
            have W13 := hid_keep W12 b13
            have R13 := R12.out.keep b13
            have H13 : Hid (v13.heap[ph]? = some (.cells #[.int .i64 rs, .int .i64 rw, .slice (some ⟨gh, 0, none⟩) n kh] 63 (0, 0))) := hH
            have OH13 := row_own hOH
            clear hH hOH b13 HS W12 R12
            obtain ⟨⟨c0, c1, c2⟩, _, _, _⟩ := three_cells H13.out
            obtain ⟨⟨d0, d1, d2⟩, _, _, _⟩ := three_cells W13.out
            go_wp2_with fail
            refine (eqTlb_same rs rw (some ⟨gh, 0, none⟩) (some ⟨g0, 0, none⟩) n kh k0 re v13 OH13 R13 HRl.out hl).mono ?_
            rintro e v14 ⟨rfl, b14⟩
            have B14 := Below.step B13 b14 (Nat.le_refl _)
            go_wp2_with fail
            go_ret
            exact ⟨rfl, Below.step n1 B14 (Nat.le_refl _)⟩
  · go_enter Try.func14, Try.ntmps14
    go_wp2_with fail
    generalize ((w.alloc (Obj.cells #[.int .i64 sets, .int .i64 ways, .slice a n cap] 58)).alloc (Obj.cells #[.bool hv, .int .u64 fva, .bool ha, .int .u64 fa] 80)) = v1 at n1 H1 H2 l1 ⊢
    refine (szTlb_any sets ways a n cap 1048576 v1 (by omega) (by omega) (by omega)).mono ?_
    rintro e v2 ⟨rfl, n2⟩
    rw [if_pos (by omega)]
    have A2 := Below.step n1 n2 (Nat.le_refl _)
    go_wp2_with fail
    go_ret
    exact ⟨rfl, A2⟩

end Go.Proofs.Ythekickjjaleaab
