/- The specification's l4Copy: a cache of one's own. -/
import Derived.Test.YthekickjjaleaabSpec4v
import Derived.Test.YthekickjjaleaabOwn
import Derived.Test.YthekickjjaleaabMath4b
import Derived.Deep.RegionLaw
namespace Go.Proofs.Ythekickjjaleaab
open Go.RowKit
set_option linter.unusedVariables false
attribute [local go_sem ↓] Go.wp_at_zero Go.wp_at_succ

theorem Try.infoEnt : (Try.prog.info? 75).map (fun i => (i.zero, i.size, i.bytes)) = some (some (.agg #[.bool false, .int .i64 0, .int .u64 0, .int .u64 0, .bool false, .int .u64 0]), 6, 48) := by kernel_rfl

theorem entsC_one : ∀ es : List EntM, ∀ u ∈ entsC es, u.oneCell' = true
  | [], u, h => by simp [entsC] at h
  | e :: r, u, h => by
    simp only [entsC, List.mem_append] at h
    rcases h with h | h
    · simp [entC] at h
      rcases h with rfl | rfl | rfl | rfl | rfl | rfl <;> rfl
    · exact entsC_one r u h

/-- A cache as a value in memory, its entries in a row of one's own. -/
def TlbOwn (base : Nat) (w : World) (v : Value) (t : TlbM) : Prop :=
  ∃ g cap, v = .agg #[.int .i64 t.sets, .int .i64 t.ways, .slice (some ⟨g, 0, none⟩) t.es.length cap] ∧ w.ownsRow base 75 6 (.slice (some ⟨g, 0, none⟩) t.es.length cap) t.es.length (entsC t.es)

set_option maxRecDepth 20000 in
set_option maxHeartbeats 1600000 in
theorem l4Copy_any (v : Value) (t : TlbM) (w : World) (h : TlbAt w v t) :
    Calls Try.prog 103 #[v] w fun e w' => (∃ x, e = .returned x ∧ TlbOwn w.heap.size w' x t) ∧ Below w.heap.size w w' := by
  have HT : Hid (TlbAt w v t) := h
  obtain ⟨a, cap, rfl, hr, _, _, _, hl, hlc, hcm, hnil, hsp⟩ := h
  obtain ⟨sets, ways, es⟩ := t
  obtain ⟨n, hn⟩ : ∃ n, es.length = n := ⟨_, rfl⟩
  simp only at hr hl hlc hnil ⊢
  rw [hn] at hr hl hlc hnil ⊢
  have n1 := ((Below.refl w.heap.size w).alloc (Nat.le_refl _) (Obj.cells #[.int .i64 sets, .int .i64 ways, .slice a n cap] 63)).alloc (by simp) (Obj.cells #[.int .i64 0, .int .i64 0, .slice none 0 0] 63)
  have HR1 : Hid (RowC ((w.alloc (Obj.cells #[.int .i64 sets, .int .i64 ways, .slice a n cap] 63)).alloc (Obj.cells #[.int .i64 0, .int .i64 0, .slice none 0 0] 63)) a n 6 (entsC es)) := hr.keep n1
  have H1 : Hid (((w.alloc (Obj.cells #[.int .i64 sets, .int .i64 ways, .slice a n cap] 63)).alloc (Obj.cells #[.int .i64 0, .int .i64 0, .slice none 0 0] 63)).heap[w.heap.size]? = some (.cells #[.int .i64 sets, .int .i64 ways, .slice a n cap] 63 (0, 0))) := by
    show _ = _
    rw [heap_alloc_old _ _ (by simp)]
    exact heap_alloc_new w _
  have H2 : Hid (((w.alloc (Obj.cells #[.int .i64 sets, .int .i64 ways, .slice a n cap] 63)).alloc (Obj.cells #[.int .i64 0, .int .i64 0, .slice none 0 0] 63)).heap[w.heap.size + 1]? = some (.cells #[.int .i64 0, .int .i64 0, .slice none 0 0] 63 (0, 0))) := by
    have := heap_alloc_new (w.alloc (Obj.cells #[.int .i64 sets, .int .i64 ways, .slice a n cap] 63)) (Obj.cells #[.int .i64 0, .int .i64 0, .slice none 0 0] 63)
    simp only [World.size_alloc] at this
    exact this
  have l1 : w.heap.size + 1 < ((w.alloc (Obj.cells #[.int .i64 sets, .int .i64 ways, .slice a n cap] 63)).alloc (Obj.cells #[.int .i64 0, .int .i64 0, .slice none 0 0] 63)).heap.size := by simp
  have HN : Hid (a = none → n = 0 ∧ cap = 0) := hnil
  have HSp : Hid (∀ q, a = some q → q.spot = none) := hsp
  clear hr hnil hsp HT
  go_enter Try.func103, Try.ntmps103
  go_wp2_with fail
  generalize ((w.alloc (Obj.cells #[.int .i64 sets, .int .i64 ways, .slice a n cap] 63)).alloc (Obj.cells #[.int .i64 0, .int .i64 0, .slice none 0 0] 63)) = v1 at n1 HR1 H1 H2 l1 ⊢
  obtain ⟨⟨c0, c1, c2⟩, _, _, _⟩ := three_cells H1.out
  obtain ⟨⟨d0, d1, d2⟩, e0, e1, e2⟩ := three_cells H2.out
  have ne1 : v1.heap.size ≠ w.heap.size := by omega
  have ne2 : w.heap.size ≠ v1.heap.size := by omega
  have ne3 : v1.heap.size ≠ w.heap.size + 1 := by omega
  have ne4 : w.heap.size + 1 ≠ v1.heap.size := by omega
  have n2 : Below v1.heap.size v1 (v1.alloc (Obj.cells #[] 75)).drew := ((Below.refl v1.heap.size v1).alloc (Nat.le_refl _) (Obj.cells #[] 75)).drew
  go_region_held3 (fun w' => w'.cell? ⟨w.heap.size, 0, none⟩ = some (.int .i64 sets) ∧ w'.cell? ⟨w.heap.size, 1, none⟩ = some (.int .i64 ways) ∧ w'.cell? ⟨w.heap.size, 2, none⟩ = some (.slice a n cap)) (go_keep)
    (first
      | (refine step_append_c _ (by rfl) (.tmp 7) (.tmp 9) 61 (by rfl) 75 Try.underlying61 (.agg #[.bool false, .int .i64 0, .int .u64 0, .int .u64 0, .bool false, .int .u64 0]) 6 48 Try.infoEnt (by rfl) (by decide) v1.heap.size v1.heap.size 0 0 [] (by rfl) (OwnC.new 75 6 v1.drew [] 0 (by rfl) (by decide)) a n cap (entsC es) (by rfl) HN.out HSp.out (RowC.keep HR1.out n2) (entsC_one es) (by omega) (by omega) v1.heap.size v1 n2 (Nat.le_refl _) ?_; intro g3 c3 v3 o3 n3; have k1 := three_cells (heap_keep H1.out n3 (by omega)); have k2 := three_cells (heap_keep H2.out n3 l1); obtain ⟨⟨q0, q1, q2⟩, _, _, _⟩ := k1; obtain ⟨⟨j0, j1, j2⟩, i0, i1, i2⟩ := k2; have l3 := n3.size; have O3 : Hid (OwnC 75 6 v3 v1.heap.size g3 (0 + n) c3 ([] ++ entsC es)) := o3; clear o3))
  go_wp2_with fail
  have O4 : v3.ownsRow v1.heap.size 75 6 (.slice (some ⟨g3, 0, none⟩) n c3) n (entsC es) := by
    have := O3.out
    rw [Nat.zero_add, List.nil_append] at this
    exact this
  refine bodyPost_ret (v := .agg #[.int .i64 sets, .int .i64 ways, .slice (some ⟨g3, 0, none⟩) n c3]) (by simp [results, Try.results103, go_sem, j0, j1, j2]) rfl ⟨⟨_, rfl, g3, c3, by rw [hn], ?_⟩, bel3 (Below.step n1 n3 (Nat.le_refl _)) (by omega) _ _ _⟩
  rw [hn]
  exact own_low (own_gb O4 (gb3 v3 (w.heap.size + 1) _ _ _) l1) (by omega)

theorem TlbOwn.row {base : Nat} {w : World} {v : Value} {t : TlbM} (h : TlbOwn base w v t) : ∃ g cap, v = .agg #[.int .i64 t.sets, .int .i64 t.ways, .slice (some ⟨g, 0, none⟩) t.es.length cap] ∧ RowC w (some ⟨g, 0, none⟩) t.es.length 6 (entsC t.es) ∧ base ≤ g ∧ g < w.heap.size := by
  obtain ⟨g, cap, rfl, ho⟩ := h
  have := own_at ho
  exact ⟨g, cap, rfl, row_own ho, this.2.1, this.2.2⟩

theorem TlbOwn.keep {base : Nat} {w w' : World} {v : Value} {t : TlbM} (h : TlbOwn base w v t) (hb : Below w.heap.size w w') : TlbOwn base w' v t := by
  obtain ⟨g, cap, rfl, ho⟩ := h
  exact ⟨g, cap, rfl, own_below ho hb⟩

/-- The numbers of a cache. -/
def tlbOk (t : TlbM) : Prop :=
  (∀ e ∈ t.es, entOk e) ∧ (-9223372036854775808 ≤ t.sets ∧ t.sets ≤ 9223372036854775807) ∧ (-9223372036854775808 ≤ t.ways ∧ t.ways ≤ 9223372036854775807) ∧ t.es.length ≤ 1048576

theorem TlbAt.ok {w : World} {v : Value} {t : TlbM} (h : TlbAt w v t) : tlbOk t := by
  obtain ⟨a, cap, _, _, h1, h2, h3, h4, _⟩ := h
  exact ⟨h1, h2, h3, h4⟩

theorem TlbOwn.at {base : Nat} {w : World} {v : Value} {t : TlbM} (h : TlbOwn base w v t) (hk : tlbOk t) : TlbAt w v t := by
  obtain ⟨g, cap, rfl, ho⟩ := h
  have hr := row_own ho
  rcases ho.2 with ⟨h2, _⟩ | ⟨g', cap', cur, h2, hb, hg, hc1, hc2, _⟩
  · cases h2
  · cases h2
    exact ⟨some ⟨g, 0, none⟩, cap, rfl, hr, hk.1, hk.2.1, hk.2.2.1, hk.2.2.2, hc1, by unfold maxLen at hc2; omega, (by intro h; cases h), (by intro q hq; cases hq; rfl)⟩

end Go.Proofs.Ythekickjjaleaab
