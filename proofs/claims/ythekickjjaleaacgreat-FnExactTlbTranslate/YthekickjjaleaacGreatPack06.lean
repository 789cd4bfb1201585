import Derived.Test.YthekickjjaleaacGreatPack05
import Derived.Deep.RegionLaw
/- The specification's l4Copy: a cache of one's own. -/
namespace Go.Proofs.YthekickjjaleaacGreat
open Go.RowKit
set_option linter.unusedVariables false
attribute [local go_sem ↓] Go.wp_at_zero Go.wp_at_succ

theorem Tryz.infoEnt : (Tryz.prog.info? 101).map (fun i => (i.zero, i.size, i.bytes)) = some (some (.agg #[.bool false, .int .i64 0, .int .u64 0, .int .u64 0, .bool false, .int .u64 0]), 6, 48) := by kernel_rfl

theorem entsC_one : ∀ es : List EntM, ∀ u ∈ entsC es, u.oneCell' = true
  | [], u, h => by simp [entsC] at h
  | e :: r, u, h => by
    simp only [entsC, List.mem_append] at h
    rcases h with h | h
    · simp [entC] at h
      rcases h with rfl | rfl | rfl | rfl | rfl | rfl <;> rfl
    · exact entsC_one r u h

/-- A cache as a value in memory, its entries in a row of one's own. -/
def TlbOwn (base : Nat) (w : World) (v : Value) (t : TlbM) : Prop :=
  ∃ g cap, v = .agg #[.int .i64 t.sets, .int .i64 t.ways, .slice (some ⟨g, 0, none⟩) t.es.length cap] ∧ w.ownsRow base 101 6 (.slice (some ⟨g, 0, none⟩) t.es.length cap) t.es.length (entsC t.es)

set_option maxRecDepth 20000 in
set_option maxHeartbeats 1600000 in
theorem l4Copy_any (v : Value) (t : TlbM) (w : World) (h : TlbAt w v t) :
    Calls Tryz.prog 86 #[v] w fun e w' => (∃ x, e = .returned x ∧ TlbOwn w.heap.size w' x t) ∧ Below w.heap.size w w' := by
  have HT : Hid (TlbAt w v t) := h
  obtain ⟨a, cap, rfl, hr, _, _, _, hl, hlc, hcm, hnil, hsp⟩ := h
  obtain ⟨sets, ways, es⟩ := t
  obtain ⟨n, hn⟩ : ∃ n, es.length = n := ⟨_, rfl⟩
  simp only at hr hl hlc hnil ⊢
  rw [hn] at hr hl hlc hnil ⊢
  have n1 := ((Below.refl w.heap.size w).alloc (Nat.le_refl _) (Obj.cells #[.int .i64 sets, .int .i64 ways, .slice a n cap] 34)).alloc (by simp) (Obj.cells #[.int .i64 0, .int .i64 0, .slice none 0 0] 34)
  have HR1 : Hid (RowC ((w.alloc (Obj.cells #[.int .i64 sets, .int .i64 ways, .slice a n cap] 34)).alloc (Obj.cells #[.int .i64 0, .int .i64 0, .slice none 0 0] 34)) a n 6 (entsC es)) := hr.keep n1
  have H1 : Hid (((w.alloc (Obj.cells #[.int .i64 sets, .int .i64 ways, .slice a n cap] 34)).alloc (Obj.cells #[.int .i64 0, .int .i64 0, .slice none 0 0] 34)).heap[w.heap.size]? = some (.cells #[.int .i64 sets, .int .i64 ways, .slice a n cap] 34 (0, 0))) := by
    show _ = _
    rw [heap_alloc_old _ _ (by simp)]
    exact heap_alloc_new w _
  have H2 : Hid (((w.alloc (Obj.cells #[.int .i64 sets, .int .i64 ways, .slice a n cap] 34)).alloc (Obj.cells #[.int .i64 0, .int .i64 0, .slice none 0 0] 34)).heap[w.heap.size + 1]? = some (.cells #[.int .i64 0, .int .i64 0, .slice none 0 0] 34 (0, 0))) := by
    have := heap_alloc_new (w.alloc (Obj.cells #[.int .i64 sets, .int .i64 ways, .slice a n cap] 34)) (Obj.cells #[.int .i64 0, .int .i64 0, .slice none 0 0] 34)
    simp only [World.size_alloc] at this
    exact this
  have l1 : w.heap.size + 1 < ((w.alloc (Obj.cells #[.int .i64 sets, .int .i64 ways, .slice a n cap] 34)).alloc (Obj.cells #[.int .i64 0, .int .i64 0, .slice none 0 0] 34)).heap.size := by simp
  have HN : Hid (a = none → n = 0 ∧ cap = 0) := hnil
  have HSp : Hid (∀ q, a = some q → q.spot = none) := hsp
  clear hr hnil hsp HT
  go_enter Tryz.func86, Tryz.ntmps86
  go_wp2_with fail
  generalize ((w.alloc (Obj.cells #[.int .i64 sets, .int .i64 ways, .slice a n cap] 34)).alloc (Obj.cells #[.int .i64 0, .int .i64 0, .slice none 0 0] 34)) = v1 at n1 HR1 H1 H2 l1 ⊢
  obtain ⟨⟨c0, c1, c2⟩, _, _, _⟩ := three_cells H1.out
  obtain ⟨⟨d0, d1, d2⟩, e0, e1, e2⟩ := three_cells H2.out
  have ne1 : v1.heap.size ≠ w.heap.size := by omega
  have ne2 : w.heap.size ≠ v1.heap.size := by omega
  have ne3 : v1.heap.size ≠ w.heap.size + 1 := by omega
  have ne4 : w.heap.size + 1 ≠ v1.heap.size := by omega
  have n2 : Below v1.heap.size v1 (v1.alloc (Obj.cells #[] 101)).drew := ((Below.refl v1.heap.size v1).alloc (Nat.le_refl _) (Obj.cells #[] 101)).drew
  go_region_held3 (fun w' => w'.cell? ⟨w.heap.size, 0, none⟩ = some (.int .i64 sets) ∧ w'.cell? ⟨w.heap.size, 1, none⟩ = some (.int .i64 ways) ∧ w'.cell? ⟨w.heap.size, 2, none⟩ = some (.slice a n cap)) (go_keep)
    (first
      | (refine step_append_c _ (by rfl) (.tmp 7) (.tmp 9) 32 (by rfl) 101 Tryz.underlying32 (.agg #[.bool false, .int .i64 0, .int .u64 0, .int .u64 0, .bool false, .int .u64 0]) 6 48 Tryz.infoEnt (by rfl) (by decide) v1.heap.size v1.heap.size 0 0 [] (by rfl) (OwnC.new 101 6 v1.drew [] 0 (by rfl) (by decide)) a n cap (entsC es) (by rfl) HN.out HSp.out (RowC.keep HR1.out n2) (entsC_one es) (by omega) (by omega) v1.heap.size v1 n2 (Nat.le_refl _) ?_; intro g3 c3 v3 o3 n3; have k1 := three_cells (heap_keep H1.out n3 (by omega)); have k2 := three_cells (heap_keep H2.out n3 l1); obtain ⟨⟨q0, q1, q2⟩, _, _, _⟩ := k1; obtain ⟨⟨j0, j1, j2⟩, i0, i1, i2⟩ := k2; have l3 := n3.size; have O3 : Hid (OwnC 101 6 v3 v1.heap.size g3 (0 + n) c3 ([] ++ entsC es)) := o3; clear o3))
  go_wp2_with fail
  have O4 : v3.ownsRow v1.heap.size 101 6 (.slice (some ⟨g3, 0, none⟩) n c3) n (entsC es) := by
    have := O3.out
    rw [Nat.zero_add, List.nil_append] at this
    exact this
  refine bodyPost_ret (v := .agg #[.int .i64 sets, .int .i64 ways, .slice (some ⟨g3, 0, none⟩) n c3]) (by simp [results, Tryz.results86, go_sem, j0, j1, j2]) rfl ⟨⟨_, rfl, g3, c3, by rw [hn], ?_⟩, bel3 (Below.step n1 n3 (Nat.le_refl _)) (by omega) _ _ _⟩
  rw [hn]
  exact own_low (own_gb O4 (gb3 v3 (w.heap.size + 1) _ _ _) l1) (by omega)

theorem TlbOwn.row {base : Nat} {w : World} {v : Value} {t : TlbM} (h : TlbOwn base w v t) : ∃ g cap, v = .agg #[.int .i64 t.sets, .int .i64 t.ways, .slice (some ⟨g, 0, none⟩) t.es.length cap] ∧ RowC w (some ⟨g, 0, none⟩) t.es.length 6 (entsC t.es) ∧ base ≤ g ∧ g < w.heap.size := by
  obtain ⟨g, cap, rfl, ho⟩ := h
  have := own_at ho
  exact ⟨g, cap, rfl, row_own ho, this.2.1, this.2.2⟩

theorem TlbOwn.keep {base : Nat} {w w' : World} {v : Value} {t : TlbM} (h : TlbOwn base w v t) (hb : Below w.heap.size w w') : TlbOwn base w' v t := by
  obtain ⟨g, cap, rfl, ho⟩ := h
  exact ⟨g, cap, rfl, own_below ho hb⟩

/-- The numbers of a cache. -/
def tlbOk (t : TlbM) : Prop :=
  (∀ e ∈ t.es, entOk e) ∧ (-9223372036854775808 ≤ t.sets ∧ t.sets ≤ 9223372036854775807) ∧ (-9223372036854775808 ≤ t.ways ∧ t.ways ≤ 9223372036854775807) ∧ t.es.length ≤ 1048576

theorem TlbAt.ok {w : World} {v : Value} {t : TlbM} (h : TlbAt w v t) : tlbOk t := by
  obtain ⟨a, cap, _, _, h1, h2, h3, h4, _⟩ := h
  exact ⟨h1, h2, h3, h4⟩

theorem TlbOwn.at {base : Nat} {w : World} {v : Value} {t : TlbM} (h : TlbOwn base w v t) (hk : tlbOk t) : TlbAt w v t := by
  obtain ⟨g, cap, rfl, ho⟩ := h
  have hr := row_own ho
  rcases ho.2 with ⟨h2, _⟩ | ⟨g', cap', cur, h2, hb, hg, hc1, hc2, _⟩
  · cases h2
  · cases h2
    exact ⟨some ⟨g, 0, none⟩, cap, rfl, hr, hk.1, hk.2.1, hk.2.2.1, hk.2.2.2, hc1, by unfold maxLen at hc2; omega, (by intro h; cases h), (by intro q hq; cases hq; rfl)⟩

end Go.Proofs.YthekickjjaleaacGreat

/- The specification's l4Covers. -/
namespace Go.Proofs.YthekickjjaleaacGreat
open Go.RowKit
set_option linter.unusedVariables false
attribute [local go_sem ↓] Go.wp_at_zero Go.wp_at_succ

/-- A fence as a value. -/
def fenceV (f : FenceM) : Value := .agg #[.bool f.hasVa, .int .u64 f.va, .bool f.hasAsid, .int .u64 f.asid]

set_option maxHeartbeats 1600000 in
theorem l4Covers_any (f : FenceM) (level tag asid : Int) (glob : Bool) (w : World) (h0 : 0 ≤ f.va) (h1 : f.va ≤ 18446744073709551615) (hl0 : 0 ≤ level) (hl2 : level ≤ 2) :
    Calls Tryz.prog 144 #[fenceV f, .int .i64 level, .int .u64 tag, .int .u64 asid, .bool glob] w fun e w' => e = .returned (.bool (coversM f level tag asid glob)) ∧ Below w.heap.size w w' := by
  obtain ⟨hv, va, ha, fa⟩ := f
  simp only at h0 h1
  unfold fenceV
  simp only
  have n1 := (Below.refl w.heap.size w).alloc (Nat.le_refl _) (Obj.cells #[.bool hv, .int .u64 va, .bool ha, .int .u64 fa] 131)
  obtain ⟨cn, hcn⟩ : ∃ cn, canonM va = cn := ⟨_, rfl⟩
  obtain ⟨tv, htv⟩ : ∃ tv, tagM va level = tv := ⟨_, rfl⟩
  have HC : Hid (∀ w : World, Calls Tryz.prog 41 #[.int .u64 va] w fun e w' => e = .returned (.bool cn) ∧ ∃ n, w' = w.drewN n) := fun w => by
    have := specCanonical_at va w h0 h1
    rw [hcn] at this
    exact this
  have HT : Hid (∀ w : World, Calls Tryz.prog 98 #[.int .u64 va, .int .i64 level] w fun e w' => e = .returned (.int .u64 tv) ∧ ∃ n, w' = w.drewN n) := fun w => by
    have := l4Tag_at va level w h0 h1 hl0 hl2
    rw [htv] at this
    exact this
  obtain ⟨R, hR⟩ : ∃ R, coversM ⟨hv, va, ha, fa⟩ level tag asid glob = R := ⟨_, rfl⟩
  rw [hR]
  have HR : Hid (R = (!(hv && (!cn || tag != tv)) && (!ha || (!glob && asid == fa)))) := by
    show _ = _
    rw [← hR, ← hcn, ← htv]
    rfl
  clear hR hcn htv
  cases hv
  · cases ha <;> cases glob
    all_goals
      go_enter Tryz.func144, Tryz.ntmps144
      go_wp2_with fail
      go_ret
      exact ⟨ret_bool (by rw [HR.out]; simp), n1⟩
  · cases cn
    · go_enter Tryz.func144, Tryz.ntmps144
      go_wp2_with (go_at_call 41; refine (HC.out _).mono ?_; rintro e w' ⟨rfl, nq, rfl⟩)
      go_ret
      exact ⟨ret_bool (by rw [HR.out]; simp), below_drewN n1 _⟩
    · cases ht : (tag != tv)
      · cases ha <;> cases glob
        all_goals
          go_enter Tryz.func144, Tryz.ntmps144
          go_wp2_with (first
            | (go_at_call 41; refine (HC.out _).mono ?_; rintro e w' ⟨rfl, nq, rfl⟩)
            | (go_at_call 98; refine (HT.out _).mono ?_; rintro e w' ⟨rfl, nr, rfl⟩))
          go_ret
          exact ⟨ret_bool (by rw [HR.out, ht]; simp), below_drewN n1 (nq + nr)⟩
      · go_enter Tryz.func144, Tryz.ntmps144
        go_wp2_with (first
          | (go_at_call 41; refine (HC.out _).mono ?_; rintro e w' ⟨rfl, nq, rfl⟩)
          | (go_at_call 98; refine (HT.out _).mono ?_; rintro e w' ⟨rfl, nr, rfl⟩))
        go_ret
        exact ⟨ret_bool (by rw [HR.out, ht]; simp), below_drewN n1 (nq + nr)⟩

end Go.Proofs.YthekickjjaleaacGreat

/- The specification's ValidTlb at 1 sets. -/
namespace Go.Proofs.YthekickjjaleaacGreat
open Go.RowKit
set_option linter.unusedVariables false
attribute [local go_sem ↓] Go.wp_at_zero Go.wp_at_succ

set_option maxHeartbeats 6400000 in
theorem specValid_1 (b off : Nat) (cap : Nat) (ways : Int) (es : List EntM) (n : Nat) (p : Bool) (w : World) (hr : RowC w (some ⟨b, off, none⟩) n 6 (entsC es)) (he : ∀ e ∈ es, entOk e) (hl : n ≤ 1048576) (hN : es.length = n)
   (hw : 1 ≤ ways) (hw' : ways ≤ 4) (hn : (n : Int) = 1 * ways) :
    Calls Tryz.prog 85 #[.agg #[.int .i64 1, .int .i64 ways, .slice (some ⟨b, off, none⟩) n cap], .bool p] w fun e w' => e = .returned (.bool (placesM ⟨1, ways, es⟩ p 0 es)) ∧ Below w.heap.size w w' := by
  have a1 := alloc_facts w #[.int .i64 1, .int .i64 ways, .slice (some ⟨b, off, none⟩) n cap] 34
  have hn' : ((n : Int) != ways) = false := by rw [bne_eq_false_iff_eq]; omega
  have HN : Hid (es.length = n) := hN
  have HR : Hid (RowC w (some ⟨b, off, none⟩) n 6 (entsC es)) := hr
  have HE : Hid (∀ e ∈ es, entOk e) := he
  obtain ⟨R, hR⟩ : ∃ R, placesM ⟨1, ways, es⟩ p 0 es = R := ⟨_, rfl⟩
  rw [hR]
  have HP : Hid (placesM ⟨1, ways, es⟩ p 0 es = R) := hR
  clear hN hr he hn hR
  go_enter Tryz.func85, Tryz.ntmps85
  go_wp2_with fail
  generalize w.alloc (Obj.cells #[.int .i64 1, .int .i64 ways, .slice (some ⟨b, off, none⟩) n cap] 34) = v1 at a1 ⊢
  obtain ⟨l1, c1, n1⟩ := a1
  have c10 : v1.cell? ⟨w.heap.size, 0, none⟩ = some (.int .i64 1) := c1 0
  have c11 : v1.cell? ⟨w.heap.size, 1, none⟩ = some (.int .i64 ways) := c1 1
  have c12 : v1.cell? ⟨w.heap.size, 2, none⟩ = some (.slice (some ⟨b, off, none⟩) n cap) := c1 2
  clear c1
  go_loopw [5] (fun i wr => ∃ k : Nat, k ≤ n ∧ i = .int .i64 k ∧ (∀ j x, j < k → es[j]? = some x → placeM ⟨1, ways, es⟩ p j x = true) ∧ Below v1.heap.size v1 wr) (fun i _ => n - (intOf i).toNat)
  case atStart => exact ⟨0, Nat.zero_le _, rfl, fun j x hj => absurd hj (by omega), Below.refl _ _⟩
  case round =>
    obtain ⟨k, hk, rfl, hall, hb⟩ := hrel
    have HA : Hid (∀ j x, j < k → es[j]? = some x → placeM ⟨1, ways, es⟩ p j x = true) := hall
    clear hall
    have d10 := Below.cell2 hb c10 l1
    have d11 := Below.cell2 hb c11 l1
    have d12 := Below.cell2 hb c12 l1
    have l2 : w.heap.size < wr.heap.size := Nat.lt_of_lt_of_le l1 hb.size
    have n1r := Below.step n1 hb (Nat.le_refl _)
    by_cases hlt : k < n
    · have hx : ∃ x : EntM, es[k]? = some x := ⟨_, List.getElem?_eq_getElem (by have := HN.out; omega)⟩
      obtain ⟨⟨v, lv, tg, asd, gl, pt⟩, hx⟩ := hx
      have hok : entOk ⟨v, lv, tg, asd, gl, pt⟩ := HE.out _ (List.mem_of_getElem? hx)
      have HRr := RowC.keep HR.out n1r
      have g0 : wr.cell? ⟨b, off + k * 6, none⟩ = some (.bool v) := row_cell HRr HN.out k _ hx 0 _ (by omega) rfl
      have g1 : wr.cell? ⟨b, off + k * 6 + 1, none⟩ = some (.int .i64 lv) := row_cell HRr HN.out k _ hx 1 _ (by omega) rfl
      have g2 : wr.cell? ⟨b, off + k * 6 + 2, none⟩ = some (.int .u64 tg) := row_cell HRr HN.out k _ hx 2 _ (by omega) rfl
      have g3 : wr.cell? ⟨b, off + k * 6 + 3, none⟩ = some (.int .u64 asd) := row_cell HRr HN.out k _ hx 3 _ (by omega) rfl
      have g4 : wr.cell? ⟨b, off + k * 6 + 4, none⟩ = some (.bool gl) := row_cell HRr HN.out k _ hx 4 _ (by omega) rfl
      have g5 : wr.cell? ⟨b, off + k * 6 + 5, none⟩ = some (.int .u64 pt) := row_cell HRr HN.out k _ hx 5 _ (by omega) rfl
      have HX : Hid (es[k]? = some ⟨v, lv, tg, asd, gl, pt⟩) := hx
      have HPf : Hid (placeM ⟨1, ways, es⟩ p k ⟨v, lv, tg, asd, gl, pt⟩ = false → false = R) := fun h => by rw [← HP.out]; exact (placesM_false _ p es 0 k _ hx (by rw [Nat.zero_add]; exact h)).symm
      have HPt : Hid (placeM ⟨1, ways, es⟩ p k ⟨v, lv, tg, asd, gl, pt⟩ = true → ∀ j x, j < k + 1 → es[j]? = some x → placeM ⟨1, ways, es⟩ p j x = true) := fun h j x hj hx' => by
        by_cases e : j = k
        · subst e; rw [hx] at hx'; cases hx'; exact h
        · exact HA.out j x (by omega) hx'
      clear hx HRr
      have a2 := alloc_facts wr #[.bool v, .int .i64 lv, .int .u64 tg, .int .u64 asd, .bool gl, .int .u64 pt] 101
      go_wp2_with fail
      generalize wr.alloc (Obj.cells #[.bool v, .int .i64 lv, .int .u64 tg, .int .u64 asd, .bool gl, .int .u64 pt] 101) = v2 at a2 ⊢
      obtain ⟨l3, c2, n2⟩ := a2
      have k0 := lies_cell (c2 0) l3
      have k1 := lies_cell (c2 1) l3
      have k2 := lies_cell (c2 2) l3
      have k3 := lies_cell (c2 3) l3
      have k4 := lies_cell (c2 4) l3
      have k5 := lies_cell (c2 5) l3
      have j0 := lies_cell (Below.cell2 n2 d10 l2) (Nat.lt_trans l2 l3)
      have j1 := lies_cell (Below.cell2 n2 d11 l2) (Nat.lt_trans l2 l3)
      have hb2 := Below.step hb n2 (Nat.le_refl _)
      have n12 := Below.step n1 hb2 (Nat.le_refl _)
      have ne := lies_some v2
      clear c2 d10 d11 d12 hb n2 g0 g1 g2 g3 g4 g5 c10 c11 c12 n1r
      obtain ⟨gd, hgd⟩ : ∃ gd, goodEntM ⟨v, lv, tg, asd, gl, pt⟩ p = gd := ⟨_, rfl⟩
      have HGd : Hid (∀ u : Lies v2, Calls Tryz.prog 97 #[entV ⟨v, lv, tg, asd, gl, pt⟩, .bool p] u.w fun e w' => e = .returned (.bool gd) ∧ Below u.w.heap.size u.w w') := fun u => by
        have := l4GoodEntry_any ⟨v, lv, tg, asd, gl, pt⟩ p u.w hok
        rw [hgd] at this
        exact this
      have HGv : Hid (goodEntM ⟨v, lv, tg, asd, gl, pt⟩ p = gd) := hgd
      clear hgd
      cases v
      · have hgf : gd = false := by rw [← HGv.out]; simp [goodEntM]
        subst hgf
        by_cases q1n : ¬ (lv = 0)
        · have q1 : (lv == 0) = false := by simpa using q1n
          have HQ : Hid ((lv == 0) = false) := q1
          clear q1n
          refine wp_region_lies (by kernel_rfl) (by kernel_rfl) ?_
          repeat (go_big_quiet_step ((go_at_call 97; exact lies_quiet _ (HGd.out _))))
          refine wpQuiet_nil ?_
          rintro _ ⟨u, rfl⟩
          go_wp2_with fail
          go_ret
          exact ⟨ret_bool (HPf.out (by simp [placeM, HGv.out, HQ.out])), Below.step n12 u.h (Nat.le_refl _)⟩
        have q1z : lv = 0 := Decidable.not_not.1 q1n
        subst q1z
        clear q1n
        by_cases q2n : ¬ (tg = 0)
        · have q2 : (tg == 0) = false := by simpa using q2n
          have HQ : Hid ((tg == 0) = false) := q2
          clear q2n
          refine wp_region_lies (by kernel_rfl) (by kernel_rfl) ?_
          repeat (go_big_quiet_step ((go_at_call 97; exact lies_quiet _ (HGd.out _))))
          refine wpQuiet_nil ?_
          rintro _ ⟨u, rfl⟩
          go_wp2_with fail
          go_ret
          exact ⟨ret_bool (HPf.out (by simp [placeM, HGv.out, HQ.out])), Below.step n12 u.h (Nat.le_refl _)⟩
        have q2z : tg = 0 := Decidable.not_not.1 q2n
        subst q2z
        clear q2n
        by_cases q3n : ¬ (asd = 0)
        · have q3 : (asd == 0) = false := by simpa using q3n
          have HQ : Hid ((asd == 0) = false) := q3
          clear q3n
          refine wp_region_lies (by kernel_rfl) (by kernel_rfl) ?_
          repeat (go_big_quiet_step ((go_at_call 97; exact lies_quiet _ (HGd.out _))))
          refine wpQuiet_nil ?_
          rintro _ ⟨u, rfl⟩
          go_wp2_with fail
          go_ret
          exact ⟨ret_bool (HPf.out (by simp [placeM, HGv.out, HQ.out])), Below.step n12 u.h (Nat.le_refl _)⟩
        have q3z : asd = 0 := Decidable.not_not.1 q3n
        subst q3z
        clear q3n
        cases hgl : gl
        · subst hgl
          by_cases q5n : ¬ (pt = 0)
          · have q5 : (pt == 0) = false := by simpa using q5n
            have HQ : Hid ((pt == 0) = false) := q5
            clear q5n
            refine wp_region_lies (by kernel_rfl) (by kernel_rfl) ?_
            repeat (go_big_quiet_step ((go_at_call 97; exact lies_quiet _ (HGd.out _))))
            refine wpQuiet_nil ?_
            rintro _ ⟨u, rfl⟩
            go_wp2_with fail
            go_ret
            exact ⟨ret_bool (HPf.out (by simp [placeM, HGv.out, HQ.out])), Below.step n12 u.h (Nat.le_refl _)⟩
          have q5z : pt = 0 := Decidable.not_not.1 q5n
          subst q5z
          clear q5n
          refine wp_region_lies (by kernel_rfl) (by kernel_rfl) ?_
          repeat (go_big_quiet_step ((go_at_call 97; exact lies_quiet _ (HGd.out _))))
          refine wpQuiet_nil ?_
          rintro _ ⟨u, rfl⟩
          go_wp2_with fail
          go_roundw
          case rel => exact ⟨k + 1, by omega, by go_num, HPt.out (by simp [placeM]), Below.step hb2 u.h (Nat.le_refl _)⟩
          case measure => simp [intOf]; omega
        · subst hgl
          refine wp_region_lies (by kernel_rfl) (by kernel_rfl) ?_
          repeat (go_big_quiet_step ((go_at_call 97; exact lies_quiet _ (HGd.out _))))
          refine wpQuiet_nil ?_
          rintro _ ⟨u, rfl⟩
          go_wp2_with fail
          go_ret
          exact ⟨ret_bool (HPf.out (by simp [placeM, HGv.out])), Below.step n12 u.h (Nat.le_refl _)⟩
      · cases gd
        · -- not good
          refine wp_region_lies (by kernel_rfl) (by kernel_rfl) ?_
          repeat (go_big_quiet_step ((go_at_call 97; exact lies_quiet _ (HGd.out _))))
          refine wpQuiet_nil ?_
          rintro _ ⟨u, rfl⟩
          go_wp2_with fail
          go_ret
          exact ⟨ret_bool (HPf.out (by simp [placeM, HGv.out])), Below.step n12 u.h (Nat.le_refl _)⟩
        · have htg : tg < 512 := good_tag HGv.out
          have htg0 : 0 ≤ tg := hok.2.1.1
          have hd0 : 0 ≤ (k : Int) / ways := Int.ediv_nonneg (by omega) (by omega)
          have hd1 : (k : Int) / ways ≤ 1048576 := Int.le_trans (Int.ediv_le_self _ (by omega)) (by omega)
          by_cases hq : tg % 1 = (k : Int) / ways
          · have hq' : ((0 : Int) != (k : Int) / ways) = false := by rw [bne_eq_false_iff_eq]; omega
            have HQ : Hid (tg % 1 = (k : Int) / ways) := hq
            clear hq
            refine wp_region_lies (by kernel_rfl) (by kernel_rfl) ?_
            repeat (go_big_quiet_step ((go_at_call 97; exact lies_quiet _ (HGd.out _))))
            refine wpQuiet_nil ?_
            rintro _ ⟨u, rfl⟩
            go_wp2_with fail
            go_roundw
            case rel => exact ⟨k + 1, by omega, by go_num, HPt.out (by simp [placeM, HGv.out, HQ.out]), Below.step hb2 u.h (Nat.le_refl _)⟩
            case measure => simp [intOf]; omega
          · have hq' : ((0 : Int) != (k : Int) / ways) = true := by rw [bne_iff_ne]; omega
            have HQ : Hid (¬ tg % 1 = (k : Int) / ways) := hq
            clear hq
            refine wp_region_lies (by kernel_rfl) (by kernel_rfl) ?_
            repeat (go_big_quiet_step ((go_at_call 97; exact lies_quiet _ (HGd.out _))))
            refine wpQuiet_nil ?_
            rintro _ ⟨u, rfl⟩
            go_wp2_with fail
            go_ret
            exact ⟨ret_bool (HPf.out (by have hz := HQ.out; rw [Int.emod_one] at hz; simp [placeM, hz])), Below.step n12 u.h (Nat.le_refl _)⟩
    · have hkn : k = n := by omega
      subst hkn
      have HT : Hid (true = R) := by
        show true = R
        rw [← HP.out]
        exact (placesM_true _ p es 0 (fun j x hx => by rw [Nat.zero_add]; exact HA.out j x (by have h1 := (List.getElem?_eq_some_iff.1 hx).1; have h2 := HN.out; omega) hx)).symm
      clear c10 c11 c12 n1 d10 d11
      go_wp2_with fail
      go_ret
      exact ⟨ret_bool HT.out, n1r⟩

end Go.Proofs.YthekickjjaleaacGreat

/- The specification's ValidTlb at 2 sets. -/
namespace Go.Proofs.YthekickjjaleaacGreat
open Go.RowKit
set_option linter.unusedVariables false
attribute [local go_sem ↓] Go.wp_at_zero Go.wp_at_succ

set_option maxHeartbeats 6400000 in
theorem specValid_2 (b off : Nat) (cap : Nat) (ways : Int) (es : List EntM) (n : Nat) (p : Bool) (w : World) (hr : RowC w (some ⟨b, off, none⟩) n 6 (entsC es)) (he : ∀ e ∈ es, entOk e) (hl : n ≤ 1048576) (hN : es.length = n)
   (hw : 1 ≤ ways) (hw' : ways ≤ 4) (hn : (n : Int) = 2 * ways) :
    Calls Tryz.prog 85 #[.agg #[.int .i64 2, .int .i64 ways, .slice (some ⟨b, off, none⟩) n cap], .bool p] w fun e w' => e = .returned (.bool (placesM ⟨2, ways, es⟩ p 0 es)) ∧ Below w.heap.size w w' := by
  have a1 := alloc_facts w #[.int .i64 2, .int .i64 ways, .slice (some ⟨b, off, none⟩) n cap] 34
  have hn' : ((n : Int) != 2 * ways) = false := by rw [bne_eq_false_iff_eq]; omega
  have HN : Hid (es.length = n) := hN
  have HR : Hid (RowC w (some ⟨b, off, none⟩) n 6 (entsC es)) := hr
  have HE : Hid (∀ e ∈ es, entOk e) := he
  obtain ⟨R, hR⟩ : ∃ R, placesM ⟨2, ways, es⟩ p 0 es = R := ⟨_, rfl⟩
  rw [hR]
  have HP : Hid (placesM ⟨2, ways, es⟩ p 0 es = R) := hR
  clear hN hr he hn hR
  go_enter Tryz.func85, Tryz.ntmps85
  go_wp2_with fail
  generalize w.alloc (Obj.cells #[.int .i64 2, .int .i64 ways, .slice (some ⟨b, off, none⟩) n cap] 34) = v1 at a1 ⊢
  obtain ⟨l1, c1, n1⟩ := a1
  have c10 : v1.cell? ⟨w.heap.size, 0, none⟩ = some (.int .i64 2) := c1 0
  have c11 : v1.cell? ⟨w.heap.size, 1, none⟩ = some (.int .i64 ways) := c1 1
  have c12 : v1.cell? ⟨w.heap.size, 2, none⟩ = some (.slice (some ⟨b, off, none⟩) n cap) := c1 2
  clear c1
  go_loopw [5] (fun i wr => ∃ k : Nat, k ≤ n ∧ i = .int .i64 k ∧ (∀ j x, j < k → es[j]? = some x → placeM ⟨2, ways, es⟩ p j x = true) ∧ Below v1.heap.size v1 wr) (fun i _ => n - (intOf i).toNat)
  case atStart => exact ⟨0, Nat.zero_le _, rfl, fun j x hj => absurd hj (by omega), Below.refl _ _⟩
  case round =>
    obtain ⟨k, hk, rfl, hall, hb⟩ := hrel
    have HA : Hid (∀ j x, j < k → es[j]? = some x → placeM ⟨2, ways, es⟩ p j x = true) := hall
    clear hall
    have d10 := Below.cell2 hb c10 l1
    have d11 := Below.cell2 hb c11 l1
    have d12 := Below.cell2 hb c12 l1
    have l2 : w.heap.size < wr.heap.size := Nat.lt_of_lt_of_le l1 hb.size
    have n1r := Below.step n1 hb (Nat.le_refl _)
    by_cases hlt : k < n
    · have hx : ∃ x : EntM, es[k]? = some x := ⟨_, List.getElem?_eq_getElem (by have := HN.out; omega)⟩
      obtain ⟨⟨v, lv, tg, asd, gl, pt⟩, hx⟩ := hx
      have hok : entOk ⟨v, lv, tg, asd, gl, pt⟩ := HE.out _ (List.mem_of_getElem? hx)
      have HRr := RowC.keep HR.out n1r
      have g0 : wr.cell? ⟨b, off + k * 6, none⟩ = some (.bool v) := row_cell HRr HN.out k _ hx 0 _ (by omega) rfl
      have g1 : wr.cell? ⟨b, off + k * 6 + 1, none⟩ = some (.int .i64 lv) := row_cell HRr HN.out k _ hx 1 _ (by omega) rfl
      have g2 : wr.cell? ⟨b, off + k * 6 + 2, none⟩ = some (.int .u64 tg) := row_cell HRr HN.out k _ hx 2 _ (by omega) rfl
      have g3 : wr.cell? ⟨b, off + k * 6 + 3, none⟩ = some (.int .u64 asd) := row_cell HRr HN.out k _ hx 3 _ (by omega) rfl
      have g4 : wr.cell? ⟨b, off + k * 6 + 4, none⟩ = some (.bool gl) := row_cell HRr HN.out k _ hx 4 _ (by omega) rfl
      have g5 : wr.cell? ⟨b, off + k * 6 + 5, none⟩ = some (.int .u64 pt) := row_cell HRr HN.out k _ hx 5 _ (by omega) rfl
      have HX : Hid (es[k]? = some ⟨v, lv, tg, asd, gl, pt⟩) := hx
      have HPf : Hid (placeM ⟨2, ways, es⟩ p k ⟨v, lv, tg, asd, gl, pt⟩ = false → false = R) := fun h => by rw [← HP.out]; exact (placesM_false _ p es 0 k _ hx (by rw [Nat.zero_add]; exact h)).symm
      have HPt : Hid (placeM ⟨2, ways, es⟩ p k ⟨v, lv, tg, asd, gl, pt⟩ = true → ∀ j x, j < k + 1 → es[j]? = some x → placeM ⟨2, ways, es⟩ p j x = true) := fun h j x hj hx' => by
        by_cases e : j = k
        · subst e; rw [hx] at hx'; cases hx'; exact h
        · exact HA.out j x (by omega) hx'
      clear hx HRr
      have a2 := alloc_facts wr #[.bool v, .int .i64 lv, .int .u64 tg, .int .u64 asd, .bool gl, .int .u64 pt] 101
      go_wp2_with fail
      generalize wr.alloc (Obj.cells #[.bool v, .int .i64 lv, .int .u64 tg, .int .u64 asd, .bool gl, .int .u64 pt] 101) = v2 at a2 ⊢
      obtain ⟨l3, c2, n2⟩ := a2
      have k0 := lies_cell (c2 0) l3
      have k1 := lies_cell (c2 1) l3
      have k2 := lies_cell (c2 2) l3
      have k3 := lies_cell (c2 3) l3
      have k4 := lies_cell (c2 4) l3
      have k5 := lies_cell (c2 5) l3
      have j0 := lies_cell (Below.cell2 n2 d10 l2) (Nat.lt_trans l2 l3)
      have j1 := lies_cell (Below.cell2 n2 d11 l2) (Nat.lt_trans l2 l3)
      have hb2 := Below.step hb n2 (Nat.le_refl _)
      have n12 := Below.step n1 hb2 (Nat.le_refl _)
      have ne := lies_some v2
      clear c2 d10 d11 d12 hb n2 g0 g1 g2 g3 g4 g5 c10 c11 c12 n1r
      obtain ⟨gd, hgd⟩ : ∃ gd, goodEntM ⟨v, lv, tg, asd, gl, pt⟩ p = gd := ⟨_, rfl⟩
      have HGd : Hid (∀ u : Lies v2, Calls Tryz.prog 97 #[entV ⟨v, lv, tg, asd, gl, pt⟩, .bool p] u.w fun e w' => e = .returned (.bool gd) ∧ Below u.w.heap.size u.w w') := fun u => by
        have := l4GoodEntry_any ⟨v, lv, tg, asd, gl, pt⟩ p u.w hok
        rw [hgd] at this
        exact this
      have HGv : Hid (goodEntM ⟨v, lv, tg, asd, gl, pt⟩ p = gd) := hgd
      clear hgd
      cases v
      · have hgf : gd = false := by rw [← HGv.out]; simp [goodEntM]
        subst hgf
        by_cases q1n : ¬ (lv = 0)
        · have q1 : (lv == 0) = false := by simpa using q1n
          have HQ : Hid ((lv == 0) = false) := q1
          clear q1n
          refine wp_region_lies (by kernel_rfl) (by kernel_rfl) ?_
          repeat (go_big_quiet_step ((go_at_call 97; exact lies_quiet _ (HGd.out _))))
          refine wpQuiet_nil ?_
          rintro _ ⟨u, rfl⟩
          go_wp2_with fail
          go_ret
          exact ⟨ret_bool (HPf.out (by simp [placeM, HGv.out, HQ.out])), Below.step n12 u.h (Nat.le_refl _)⟩
        have q1z : lv = 0 := Decidable.not_not.1 q1n
        subst q1z
        clear q1n
        by_cases q2n : ¬ (tg = 0)
        · have q2 : (tg == 0) = false := by simpa using q2n
          have HQ : Hid ((tg == 0) = false) := q2
          clear q2n
          refine wp_region_lies (by kernel_rfl) (by kernel_rfl) ?_
          repeat (go_big_quiet_step ((go_at_call 97; exact lies_quiet _ (HGd.out _))))
          refine wpQuiet_nil ?_
          rintro _ ⟨u, rfl⟩
          go_wp2_with fail
          go_ret
          exact ⟨ret_bool (HPf.out (by simp [placeM, HGv.out, HQ.out])), Below.step n12 u.h (Nat.le_refl _)⟩
        have q2z : tg = 0 := Decidable.not_not.1 q2n
        subst q2z
        clear q2n
        by_cases q3n : ¬ (asd = 0)
        · have q3 : (asd == 0) = false := by simpa using q3n
          have HQ : Hid ((asd == 0) = false) := q3
          clear q3n
          refine wp_region_lies (by kernel_rfl) (by kernel_rfl) ?_
          repeat (go_big_quiet_step ((go_at_call 97; exact lies_quiet _ (HGd.out _))))
          refine wpQuiet_nil ?_
          rintro _ ⟨u, rfl⟩
          go_wp2_with fail
          go_ret
          exact ⟨ret_bool (HPf.out (by simp [placeM, HGv.out, HQ.out])), Below.step n12 u.h (Nat.le_refl _)⟩
        have q3z : asd = 0 := Decidable.not_not.1 q3n
        subst q3z
        clear q3n
        cases hgl : gl
        · subst hgl
          by_cases q5n : ¬ (pt = 0)
          · have q5 : (pt == 0) = false := by simpa using q5n
            have HQ : Hid ((pt == 0) = false) := q5
            clear q5n
            refine wp_region_lies (by kernel_rfl) (by kernel_rfl) ?_
            repeat (go_big_quiet_step ((go_at_call 97; exact lies_quiet _ (HGd.out _))))
            refine wpQuiet_nil ?_
            rintro _ ⟨u, rfl⟩
            go_wp2_with fail
            go_ret
            exact ⟨ret_bool (HPf.out (by simp [placeM, HGv.out, HQ.out])), Below.step n12 u.h (Nat.le_refl _)⟩
          have q5z : pt = 0 := Decidable.not_not.1 q5n
          subst q5z
          clear q5n
          refine wp_region_lies (by kernel_rfl) (by kernel_rfl) ?_
          repeat (go_big_quiet_step ((go_at_call 97; exact lies_quiet _ (HGd.out _))))
          refine wpQuiet_nil ?_
          rintro _ ⟨u, rfl⟩
          go_wp2_with fail
          go_roundw
          case rel => exact ⟨k + 1, by omega, by go_num, HPt.out (by simp [placeM]), Below.step hb2 u.h (Nat.le_refl _)⟩
          case measure => simp [intOf]; omega
        · subst hgl
          refine wp_region_lies (by kernel_rfl) (by kernel_rfl) ?_
          repeat (go_big_quiet_step ((go_at_call 97; exact lies_quiet _ (HGd.out _))))
          refine wpQuiet_nil ?_
          rintro _ ⟨u, rfl⟩
          go_wp2_with fail
          go_ret
          exact ⟨ret_bool (HPf.out (by simp [placeM, HGv.out])), Below.step n12 u.h (Nat.le_refl _)⟩
      · cases gd
        · -- not good
          refine wp_region_lies (by kernel_rfl) (by kernel_rfl) ?_
          repeat (go_big_quiet_step ((go_at_call 97; exact lies_quiet _ (HGd.out _))))
          refine wpQuiet_nil ?_
          rintro _ ⟨u, rfl⟩
          go_wp2_with fail
          go_ret
          exact ⟨ret_bool (HPf.out (by simp [placeM, HGv.out])), Below.step n12 u.h (Nat.le_refl _)⟩
        · have htg : tg < 512 := good_tag HGv.out
          have htg0 : 0 ≤ tg := hok.2.1.1
          have hd0 : 0 ≤ (k : Int) / ways := Int.ediv_nonneg (by omega) (by omega)
          have hd1 : (k : Int) / ways ≤ 1048576 := Int.le_trans (Int.ediv_le_self _ (by omega)) (by omega)
          by_cases hq : tg % 2 = (k : Int) / ways
          · have hq' : (tg % 2 != (k : Int) / ways) = false := by rw [bne_eq_false_iff_eq]; exact hq
            have HQ : Hid (tg % 2 = (k : Int) / ways) := hq
            clear hq
            refine wp_region_lies (by kernel_rfl) (by kernel_rfl) ?_
            repeat (go_big_quiet_step ((go_at_call 97; exact lies_quiet _ (HGd.out _))))
            refine wpQuiet_nil ?_
            rintro _ ⟨u, rfl⟩
            go_wp2_with fail
            go_roundw
            case rel => exact ⟨k + 1, by omega, by go_num, HPt.out (by simp [placeM, HGv.out, HQ.out]), Below.step hb2 u.h (Nat.le_refl _)⟩
            case measure => simp [intOf]; omega
          · have hq' : (tg % 2 != (k : Int) / ways) = true := by rw [bne_iff_ne]; exact hq
            have HQ : Hid (¬ tg % 2 = (k : Int) / ways) := hq
            clear hq
            refine wp_region_lies (by kernel_rfl) (by kernel_rfl) ?_
            repeat (go_big_quiet_step ((go_at_call 97; exact lies_quiet _ (HGd.out _))))
            refine wpQuiet_nil ?_
            rintro _ ⟨u, rfl⟩
            go_wp2_with fail
            go_ret
            exact ⟨ret_bool (HPf.out (by simp [placeM, HQ.out])), Below.step n12 u.h (Nat.le_refl _)⟩
    · have hkn : k = n := by omega
      subst hkn
      have HT : Hid (true = R) := by
        show true = R
        rw [← HP.out]
        exact (placesM_true _ p es 0 (fun j x hx => by rw [Nat.zero_add]; exact HA.out j x (by have h1 := (List.getElem?_eq_some_iff.1 hx).1; have h2 := HN.out; omega) hx)).symm
      clear c10 c11 c12 n1 d10 d11
      go_wp2_with fail
      go_ret
      exact ⟨ret_bool HT.out, n1r⟩

end Go.Proofs.YthekickjjaleaacGreat
