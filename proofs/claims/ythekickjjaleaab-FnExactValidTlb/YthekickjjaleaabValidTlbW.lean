/- The walk of law FnExactValidTlb. -/
import Derived.Test.YthekickjjaleaabTlbEq
import Derived.Test.YthekickjjaleaabTlbOpen
import Derived.Test.YthekickjjaleaabSpec4w
import Derived.Test.YthekickjjaleaabImpl4v
import Derived.Deep.RegionHeld3
namespace Go.Proofs.Ythekickjjaleaab
open Go.RowKit
set_option linter.unusedVariables false

set_option maxHeartbeats 1600000 in
theorem valid_walk (sets ways : Int) (a : Option Addr) (cap : Nat) (es : List EntM) (p : Bool) (w : World) (hr : RowC w a es.length 6 (entsC es)) (he : ∀ e ∈ es, entOk e)
    (hs : -9223372036854775808 ≤ sets ∧ sets ≤ 9223372036854775807) (hw : -9223372036854775808 ≤ ways ∧ ways ≤ 9223372036854775807) (hlc : es.length ≤ cap) (hcm : (cap : Int) ≤ 9223372036854775807) :
    Calls Try.prog 11 #[.agg #[.int .i64 sets, .int .i64 ways, .slice a es.length cap], .bool p] w fun e w' => e = .returned (.bool true) ∧ Below w.heap.size w w' := by
  obtain ⟨n, hn⟩ : ∃ n, es.length = n := ⟨_, rfl⟩
  have HN : Hid (es.length = n) := hn
  rw [hn] at hr hlc ⊢
  have n1 := (Below.refl w.heap.size w).alloc (Nat.le_refl _) (Obj.cells #[.int .i64 sets, .int .i64 ways, .slice a n cap] 58)
  have H1 : Hid ((w.alloc (Obj.cells #[.int .i64 sets, .int .i64 ways, .slice a n cap] 58)).heap[w.heap.size]? = some (.cells #[.int .i64 sets, .int .i64 ways, .slice a n cap] 58 (0, 0))) := heap_alloc_new w _
  have HR : Hid (RowC w a n 6 (entsC es)) := hr
  clear hr hn
  by_cases hl : n ≤ 1048576
  · have HK : Hid (tlbOk ⟨sets, ways, es⟩) := ⟨he, hs, hw, by simp only; rw [HN.out]; exact hl⟩
    clear he
    go_enter Try.func11, Try.ntmps11
    go_wp2_with fail
    generalize w.alloc (Obj.cells #[.int .i64 sets, .int .i64 ways, .slice a n cap] 58) = v1 at n1 H1 ⊢
    refine (szTlb_any sets ways a n cap 1048576 v1 (by omega) (by omega) (by omega)).mono ?_
    rintro e v2 ⟨rfl, n2⟩
    rw [if_neg (by omega)]
    have A2 := Below.step n1 n2 (Nat.le_refl _)
    have H2 := hid_keep H1 n2
    clear n1 n2 H1
    obtain ⟨⟨c0, c1, c2⟩, _, _, _⟩ := three_cells H2.out
    go_wp2_with fail
    refine (toTlb_any sets ways a n cap es v2 (HR.out.keep A2) HN.out hl).mono ?_
    rintro e v3 ⟨⟨x, rfl, hx⟩, n3⟩
    have T3 := TlbOwn.at hx HK.out
    have A3 := Below.step A2 n3 (Nat.le_refl _)
    have H3 := hid_keep H2 n3
    clear c0 c1 c2 n3 H2 A2 hx
    go_wp2_with fail
    refine (specValid_any _ _ p v3 T3).mono ?_
    rintro e v4 ⟨rfl, n4⟩
    have A4 := Below.step A3 n4 (Nat.le_refl _)
    have H4 := hid_keep H3 n4
    clear n4 H3 A3 T3
    obtain ⟨⟨c0, c1, c2⟩, _, _, _⟩ := three_cells H4.out
    go_wp2_with fail
    refine (toTlb_any sets ways a n cap es v4 (HR.out.keep A4) HN.out hl).mono ?_
    rintro e v5 ⟨⟨x, rfl, hx⟩, n5⟩
    obtain ⟨gx, cx, rfl, rx, _, lx⟩ := TlbOwn.row hx
    have T5 := TlbOwn.at hx HK.out
    simp only at rx T5 ⊢
    rw [HN.out] at rx T5 ⊢
    have RX5 : Hid (RowC v5 (some ⟨gx, 0, none⟩) n 6 (entsC es)) := rx
    have A5 := Below.step A4 n5 (Nat.le_refl _)
    have H5 := hid_keep H4 n5
    clear n5 H4 A4 hx rx c0 c1 c2
    go_wp2_with fail
    have n6 := (Below.refl v5.heap.size v5).alloc (Nat.le_refl _) (Obj.cells #[.int .i64 sets, .int .i64 ways, .slice (some ⟨gx, 0, none⟩) n cx] 63)
    have X6 : Hid ((v5.alloc (Obj.cells #[.int .i64 sets, .int .i64 ways, .slice (some ⟨gx, 0, none⟩) n cx] 63)).heap[v5.heap.size]? = some (.cells #[.int .i64 sets, .int .i64 ways, .slice (some ⟨gx, 0, none⟩) n cx] 63 (0, 0))) := heap_alloc_new v5 _
    have H6 := hid_keep H5 n6
    have A6 := Below.step A5 n6 (Nat.le_refl _)
    have T6 := T5.keep n6
    have RX6 : Hid _ := RowC.keep RX5.out n6
    generalize v5.alloc (Obj.cells #[.int .i64 sets, .int .i64 ways, .slice (some ⟨gx, 0, none⟩) n cx] 63) = v6 at n6 X6 H6 A6 T6 RX6 ⊢
    clear n6 H5 A5 T5 RX5
    refine (implValid_any _ _ p v6 T6).mono ?_
    rintro e v7 ⟨rfl, n7⟩
    have H7 := hid_keep H6 n7
    have X7 := hid_keep X6 n7
    have RX7 : Hid _ := RowC.keep RX6.out n7
    have A7 := Below.step A6 n7 (Nat.le_refl _)
    clear n7 H6 X6 RX6 A6 T6
    obtain ⟨⟨c0, c1, c2⟩, _, _, _⟩ := three_cells H7.out
    obtain ⟨⟨d0, d1, d2⟩, _, _, _⟩ := three_cells X7.out
    have hqq : (validM ⟨sets, ways, es⟩ p != validM ⟨sets, ways, es⟩ p) = false := by simp
    generalize validM ⟨sets, ways, es⟩ p = q at *
    have D7 : Below v7.heap.size v7 v7.drew := (Below.refl _ _).drew
    have A7d := Below.step A7 D7 (Nat.le_refl _)
    go_wp2_with fail
    go_region_held3 (fun w' => w'.cell? ⟨w.heap.size, 0, none⟩ = some (.int .i64 sets) ∧ w'.cell? ⟨w.heap.size, 1, none⟩ = some (.int .i64 ways) ∧ w'.cell? ⟨w.heap.size, 2, none⟩ = some (.slice a n cap) ∧ w'.cell? ⟨v5.heap.size, 0, none⟩ = some (.int .i64 sets) ∧ w'.cell? ⟨v5.heap.size, 1, none⟩ = some (.int .i64 ways) ∧ w'.cell? ⟨v5.heap.size, 2, none⟩ = some (.slice (some ⟨gx, 0, none⟩) n cx)) (go_keep)
      (first
        | (go_at_call 43; refine (toTlb_any sets ways a n cap es v7.drew (HR.out.keep A7d) HN.out hl).mono ?_; rintro e v8 ⟨⟨y, rfl, hy⟩, n8⟩; have hy' := TlbOwn.row hy; obtain ⟨gy, cy, rfl, ry, _, _⟩ := hy'; (simp only at ry ⊢); rw [HN.out] at ry ⊢; have N8 := Below.step D7 n8 (Nat.le_refl _); have RX8 : Hid _ := RowC.keep RX7.out N8; have RY8 : Hid (RowC v8 (some ⟨gy, 0, none⟩) n 6 (entsC es)) := ry; have A8 := Below.step A7 N8 (Nat.le_refl _); have kk1 := three_cells (hid_keep H7 N8).out; have kk2 := three_cells (hid_keep X7 N8).out; obtain ⟨⟨a0, a1, a2⟩, _, _, _⟩ := kk1; obtain ⟨⟨b0, b1, b2⟩, _, _, _⟩ := kk2; clear ry hy n8)
        | (go_at_call 45; refine (eqTlb_same sets ways (some ⟨gx, 0, none⟩) (some ⟨gy, 0, none⟩) n cx cy es v8 RX8.out RY8.out HN.out hl).mono ?_; rintro e v9 ⟨rfl, n9⟩; have A9 := Below.step A8 n9 (Nat.le_refl _); have N9 := Below.step N8 n9 (Nat.le_refl _); have kk1 := three_cells (hid_keep H7 N9).out; have kk2 := three_cells (hid_keep X7 N9).out; obtain ⟨⟨a0', a1', a2'⟩, _, _, _⟩ := kk1; obtain ⟨⟨b0', b1', b2'⟩, _, _, _⟩ := kk2))
    all_goals
      go_wp2_with fail
      go_ret
      exact ⟨rfl, A9⟩
  · go_enter Try.func11, Try.ntmps11
    go_wp2_with fail
    generalize w.alloc (Obj.cells #[.int .i64 sets, .int .i64 ways, .slice a n cap] 58) = v1 at n1 H1 ⊢
    refine (szTlb_any sets ways a n cap 1048576 v1 (by omega) (by omega) (by omega)).mono ?_
    rintro e v2 ⟨rfl, n2⟩
    rw [if_pos (by omega)]
    have A2 := Below.step n1 n2 (Nat.le_refl _)
    go_wp2_with fail
    go_ret
    exact ⟨rfl, A2⟩

end Go.Proofs.Ythekickjjaleaab
