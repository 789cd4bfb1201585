import Derived.Test.YthekickjjaleaabPack14
import Derived.Test.YthekickjjaleaabPack13
import Derived.Test.YthekickjjaleaabPack11
import Derived.Test.YthekickjjaleaabPack08
import Derived.Test.YthekickjjaleaabPack12
import Derived.BigRegion
/- The program's insertedIn, for one kind of cache. Written by mk4.py. -/
namespace Go.Proofs.Ythekickjjaleaab
open Go.RowKit
set_option linter.unusedVariables false

/-- What insertedIn answers where it did it. -/
def InsAnsL (base : Nat) (w : World) (e : Ending) (t : TlbM) : Prop := ∃ x, e = .returned (.tuple #[x, .bool true]) ∧ TlbOwn base w x t

set_option maxHeartbeats 3200000 in
theorem insertedInL_any (v : Value) (t : TlbM) (x : EntM) (pick : Int) (w : World) (h : TlbAt w v t) (hx : entOk x) (hp0 : 0 ≤ pick) (hp1 : pick ≤ 255) :
    Calls Try.prog 106 #[v, entV x, .int .i64 pick] w fun e w' => cond (validM t false && goodEntM x false) (InsAnsL w.heap.size w' e ⟨t.sets, t.ways, t.es.set (firstM t x + wayM t x pick) x⟩) (e = .returned (.tuple #[.agg #[.int .i64 0, .int .i64 0, .slice none 0 0], .bool false])) ∧ Below w.heap.size w w' := by
  have HK : Hid (tlbOk t) := TlbAt.ok h
  have HT : Hid (TlbAt w v t) := h
  obtain ⟨a, cap, rfl, _⟩ := h
  obtain ⟨vv, lv, tg, asd, gl, pt⟩ := x
  unfold entV
  simp only
  obtain ⟨sets, ways, es⟩ := t
  simp only at *
  obtain ⟨n, hn⟩ : ∃ n, es.length = n := ⟨_, rfl⟩
  have HN : Hid (es.length = n) := hn
  rw [hn] at HT ⊢
  have n1 := (((Below.refl w.heap.size w).alloc (Nat.le_refl _) (Obj.cells #[.int .i64 sets, .int .i64 ways, .slice a n cap] 63)).alloc (by simp) (Obj.cells #[.bool vv, .int .i64 lv, .int .u64 tg, .int .u64 asd, .bool gl, .int .u64 pt] 75)).alloc (by simp; omega) (Obj.cells #[.int .i64 0, .int .i64 0, .slice none 0 0] 63)
  have HT1 : Hid (TlbAt (((w.alloc (Obj.cells #[.int .i64 sets, .int .i64 ways, .slice a n cap] 63)).alloc (Obj.cells #[.bool vv, .int .i64 lv, .int .u64 tg, .int .u64 asd, .bool gl, .int .u64 pt] 75)).alloc (Obj.cells #[.int .i64 0, .int .i64 0, .slice none 0 0] 63)) (.agg #[.int .i64 sets, .int .i64 ways, .slice a n cap]) ⟨sets, ways, es⟩) := HT.out.keep n1
  have H2 : Hid ((((w.alloc (Obj.cells #[.int .i64 sets, .int .i64 ways, .slice a n cap] 63)).alloc (Obj.cells #[.bool vv, .int .i64 lv, .int .u64 tg, .int .u64 asd, .bool gl, .int .u64 pt] 75)).alloc (Obj.cells #[.int .i64 0, .int .i64 0, .slice none 0 0] 63)).heap[w.heap.size + 1]? = some (.cells #[.bool vv, .int .i64 lv, .int .u64 tg, .int .u64 asd, .bool gl, .int .u64 pt] 75 (0, 0))) := by
    show _ = _
    rw [heap_alloc_old _ _ (by simp)]
    have := heap_alloc_new (w.alloc (Obj.cells #[.int .i64 sets, .int .i64 ways, .slice a n cap] 63)) (Obj.cells #[.bool vv, .int .i64 lv, .int .u64 tg, .int .u64 asd, .bool gl, .int .u64 pt] 75)
    simp only [World.size_alloc] at this
    exact this
  have H3 : Hid ((((w.alloc (Obj.cells #[.int .i64 sets, .int .i64 ways, .slice a n cap] 63)).alloc (Obj.cells #[.bool vv, .int .i64 lv, .int .u64 tg, .int .u64 asd, .bool gl, .int .u64 pt] 75)).alloc (Obj.cells #[.int .i64 0, .int .i64 0, .slice none 0 0] 63)).heap[w.heap.size + 1 + 1]? = some (.cells #[.int .i64 0, .int .i64 0, .slice none 0 0] 63 (0, 0))) := by
    have := heap_alloc_new ((w.alloc (Obj.cells #[.int .i64 sets, .int .i64 ways, .slice a n cap] 63)).alloc (Obj.cells #[.bool vv, .int .i64 lv, .int .u64 tg, .int .u64 asd, .bool gl, .int .u64 pt] 75)) (Obj.cells #[.int .i64 0, .int .i64 0, .slice none 0 0] 63)
    simp only [World.size_alloc] at this
    exact this
  have l1 : w.heap.size + 1 + 1 < (((w.alloc (Obj.cells #[.int .i64 sets, .int .i64 ways, .slice a n cap] 63)).alloc (Obj.cells #[.bool vv, .int .i64 lv, .int .u64 tg, .int .u64 asd, .bool gl, .int .u64 pt] 75)).alloc (Obj.cells #[.int .i64 0, .int .i64 0, .slice none 0 0] 63)).heap.size := by simp
  clear HT hn
  obtain ⟨qv, hqv⟩ : ∃ q, validM ⟨sets, ways, es⟩ false = q := ⟨_, rfl⟩
  obtain ⟨qg, hqg⟩ : ∃ q, goodEntM ⟨vv, lv, tg, asd, gl, pt⟩ false = q := ⟨_, rfl⟩
  have HQ : Hid (validM ⟨sets, ways, es⟩ false = qv) := hqv
  have HG : Hid (goodEntM ⟨vv, lv, tg, asd, gl, pt⟩ false = qg) := hqg
  have HSl : Hid (∀ u, Calls Try.prog 136 #[.agg #[.bool vv, .int .i64 lv, .int .u64 tg, .int .u64 asd, .bool gl, .int .u64 pt]] u fun e w' => e = .returned (.tuple #[slotV (if qg = true then ⟨vv, lv, tg, asd, gl, pt⟩ else ent0), .bool qg]) ∧ Below u.heap.size u w') := fun u => by
    have := slotOfL_any ⟨vv, lv, tg, asd, gl, pt⟩ u hx
    rw [hqg] at this
    exact this
  obtain ⟨Y, hY⟩ : ∃ Y, es.set (firstM ⟨sets, ways, es⟩ ⟨vv, lv, tg, asd, gl, pt⟩ + wayM ⟨sets, ways, es⟩ ⟨vv, lv, tg, asd, gl, pt⟩ pick) ⟨vv, lv, tg, asd, gl, pt⟩ = Y := ⟨_, rfl⟩
  have HY : Hid (es.set (firstM ⟨sets, ways, es⟩ ⟨vv, lv, tg, asd, gl, pt⟩ + wayM ⟨sets, ways, es⟩ ⟨vv, lv, tg, asd, gl, pt⟩ pick) ⟨vv, lv, tg, asd, gl, pt⟩ = Y) := hY
  have HYl : Hid (Y.length = n) := by show _ = _; rw [← hY, List.length_set]; exact HN.out
  rw [hqv, hqg, hY]
  clear hqv hqg hY
  go_enter Try.func106, Try.ntmps106
  go_wp2_with fail
  generalize (((w.alloc (Obj.cells #[.int .i64 sets, .int .i64 ways, .slice a n cap] 63)).alloc (Obj.cells #[.bool vv, .int .i64 lv, .int .u64 tg, .int .u64 asd, .bool gl, .int .u64 pt] 75)).alloc (Obj.cells #[.int .i64 0, .int .i64 0, .slice none 0 0] 63)) = v1 at n1 HT1 H2 H3 l1 ⊢
  refine (cacheOfL_any _ ⟨sets, ways, es⟩ v1 HT1.out).mono ?_
  rw [HQ.out]
  rintro e v2 ⟨hc, n2⟩
  have A2 := Below.step n1 n2 (Nat.le_refl _)
  have K2 := hid_keep H2 n2
  have K3 := hid_keep H3 n2
  have l2 : w.heap.size + 1 + 1 < v2.heap.size := Nat.lt_of_lt_of_le l1 n2.size
  clear n1 HT1 H2 H3
  obtain ⟨⟨c0, c1, c2, c3, c4, c5⟩, _⟩ := six_at K2.out
  have l0 : w.heap.size + 1 < v2.heap.size := by omega
  cases qv
  · dsimp only [cond] at hc
    subst hc
    have n3 := (Below.refl v2.heap.size v2).alloc (Nat.le_refl _) (Obj.cells #[.int .i64 0, .int .i64 0, .slice none 0 0] 129)
    have A3 := Below.step A2 n3 (Nat.le_refl _)
    have J3 := hid_keep K3 n3
    have l3 : w.heap.size + 1 + 1 < (v2.alloc (Obj.cells #[.int .i64 0, .int .i64 0, .slice none 0 0] 129)).heap.size := by simp; omega
    go_wp2_with fail
    generalize v2.alloc (Obj.cells #[.int .i64 0, .int .i64 0, .slice none 0 0] 129) = v3 at n3 A3 J3 l3 ⊢
    refine (HSl.out v3).mono ?_
    rintro e v4 ⟨rfl, n4⟩
    have A4 := Below.step A3 n4 (Nat.le_refl _)
    have J4 := hid_keep J3 n4
    have l4 : w.heap.size + 1 + 1 < v4.heap.size := Nat.lt_of_lt_of_le l3 n4.size
    clear n3 n4 A3 J3 c0 c1 c2 c3 c4 c5
    obtain ⟨⟨d0, d1, d2⟩, e0, e1, e2⟩ := three_cells J4.out
    cases qg
    all_goals
      simp only [slotV, ent0, Bool.false_eq_true, if_false, if_true]
      go_wp2_with fail
      exact bodyPost_ret (v := .tuple #[.agg #[.int .i64 0, .int .i64 0, .slice none 0 0], .bool false]) (by simp [results, Try.results106, go_sem, d0, d1, d2, l4]) rfl ⟨rfl, by first | exact (bel3 A4 (by omega) _ _ _).alloc (by simp; omega) _ | exact bel3 (A4.alloc A4.size _) (by omega) _ _ _⟩
  · dsimp only [cond] at hc
    obtain ⟨g, rfl, ho⟩ := hc
    have hg := own_at ho
    obtain ⟨_, hg1, hg2⟩ := hg
    simp only at hg1 hg2 ho ⊢
    rw [HN.out] at ho ⊢
    have n3 := (Below.refl v2.heap.size v2).alloc (Nat.le_refl _) (Obj.cells #[.int .i64 sets, .int .i64 ways, .slice (some ⟨g, 0, none⟩) n n] 129)
    have H3 : Hid ((v2.alloc (Obj.cells #[.int .i64 sets, .int .i64 ways, .slice (some ⟨g, 0, none⟩) n n] 129)).heap[v2.heap.size]? = some (.cells #[.int .i64 sets, .int .i64 ways, .slice (some ⟨g, 0, none⟩) n n] 129 (0, 0))) := heap_alloc_new v2 _
    have O3 : Hid ((v2.alloc (Obj.cells #[.int .i64 sets, .int .i64 ways, .slice (some ⟨g, 0, none⟩) n n] 129)).ownsRow v1.heap.size 172 6 (.slice (some ⟨g, 0, none⟩) n n) n (slotsC es)) := own_below ho n3
    have A3 := Below.step A2 n3 (Nat.le_refl _)
    have J3 := hid_keep K3 n3
    have l3 : v2.heap.size < (v2.alloc (Obj.cells #[.int .i64 sets, .int .i64 ways, .slice (some ⟨g, 0, none⟩) n n] 129)).heap.size := by simp
    clear ho
    go_wp2_with fail
    generalize v2.alloc (Obj.cells #[.int .i64 sets, .int .i64 ways, .slice (some ⟨g, 0, none⟩) n n] 129) = v3 at n3 H3 O3 A3 J3 l3 ⊢
    refine (HSl.out v3).mono ?_
    rintro e v4 ⟨rfl, n4⟩
    have A4 := Below.step A3 n4 (Nat.le_refl _)
    have J4 := hid_keep J3 n4
    have H4 := hid_keep H3 n4
    have O4 : Hid (v4.ownsRow v1.heap.size 172 6 (.slice (some ⟨g, 0, none⟩) n n) n (slotsC es)) := own_below O3.out n4
    have l4 : v2.heap.size < v4.heap.size := Nat.lt_of_lt_of_le l3 n4.size
    have l4' : w.heap.size + 1 + 1 < v4.heap.size := by omega
    clear n3 n4 A3 J3 H3 O3 c0 c1 c2 c3 c4 c5
    cases qg
    · obtain ⟨⟨d0, d1, d2⟩, e0, e1, e2⟩ := three_cells J4.out
      simp only [slotV, ent0, Bool.false_eq_true, if_false]
      go_wp2_with fail
      exact bodyPost_ret (v := .tuple #[.agg #[.int .i64 0, .int .i64 0, .slice none 0 0], .bool false]) (by simp [results, Try.results106, go_sem, d0, d1, d2, l4']) rfl ⟨rfl, by first | exact (bel3 A4 (by omega) _ _ _).alloc (by simp; omega) _ | exact bel3 (A4.alloc A4.size _) (by omega) _ _ _⟩
    · simp only [slotV, if_true]
      have n5 := (Below.refl v4.heap.size v4).alloc (Nat.le_refl _) (Obj.cells #[.int .i64 lv, .int .u64 tg, .int .u64 asd, .bool gl, .bool vv, .int .u64 pt] 172)
      have A5 := Below.step A4 n5 (Nat.le_refl _)
      have J5 := hid_keep J4 n5
      have H5 := hid_keep H4 n5
      have O5 : Hid ((v4.alloc (Obj.cells #[.int .i64 lv, .int .u64 tg, .int .u64 asd, .bool gl, .bool vv, .int .u64 pt] 172)).ownsRow v1.heap.size 172 6 (.slice (some ⟨g, 0, none⟩) n n) n (slotsC es)) := own_below O4.out n5
      have l5 : v4.heap.size < (v4.alloc (Obj.cells #[.int .i64 lv, .int .u64 tg, .int .u64 asd, .bool gl, .bool vv, .int .u64 pt] 172)).heap.size := by simp
      clear n5
      go_wp2_with fail
      generalize v4.alloc (Obj.cells #[.int .i64 lv, .int .u64 tg, .int .u64 asd, .bool gl, .bool vv, .int .u64 pt] 172) = v5 at A5 J5 H5 O5 l5 ⊢
      obtain ⟨⟨p0, p1, p2⟩, _, _, _⟩ := three_cells H5.out
      have hsh := shape_of HQ.out
      simp only at hsh
      rw [HN.out] at hsh
      refine (insertL_any v2.heap.size 0 g n v1.heap.size ⟨sets, ways, es⟩ ⟨vv, lv, tg, asd, gl, pt⟩ pick v5 HN.out (by rw [← HN.out]; exact HK.out.2.2.2) hsh.1 hsh.2.1 hsh.2.2.1 hsh.2.2.2 (by omega) (by omega) p0 p1 p2 O5.out hx.2.1.1 hx.2.1.2 hp0 hp1).mono ?_
      rintro e v6 ⟨rfl, o6, m6⟩
      simp only at o6
      rw [HY.out] at o6
      have O6 : Hid (v6.ownsRow v1.heap.size 172 6 (.slice (some ⟨g, 0, none⟩) n n) n (slotsC Y)) := o6
      have H6 : Hid (v6.heap[v2.heap.size]? = some (.cells #[.int .i64 sets, .int .i64 ways, .slice (some ⟨g, 0, none⟩) n n] 129 (0, 0))) := heap_gb H5.out m6 (by omega)
      have J6 : Hid (v6.heap[w.heap.size + 1 + 1]? = some (.cells #[.int .i64 0, .int .i64 0, .slice none 0 0] 63 (0, 0))) := heap_gb J5.out m6 (by omega)
      have l6 : v5.heap.size ≤ v6.heap.size := m6.size
      have A6 : Below w.heap.size w v6 := A5.grown m6 A5.size (fun k hk => by cases hk; omega)
      clear o6 m6 p0 p1 p2 H5 J5 O5 A5
      obtain ⟨⟨p0, p1, p2⟩, _, _, _⟩ := three_cells H6.out
      go_wp2_with fail
      refine (tlbL_any v2.heap.size 0 g n ⟨sets, ways, Y⟩ v6 HYl.out (by rw [← HN.out]; exact HK.out.2.2.2) (by omega) (by omega) p0 p1 p2 (row_own O6.out)).mono ?_
      rintro e v7 ⟨⟨y, rfl, gy, cy, rfl, oy⟩, n7⟩
      simp only at oy ⊢
      have J7 := hid_keep J6 n7
      have A7 := Below.step A6 n7 (Nat.le_refl _)
      have gy1 := (own_at oy).2.1
      simp only at gy1
      obtain ⟨⟨d0, d1, d2⟩, e0, e1, e2⟩ := three_cells J7.out
      go_wp2_with fail
      exact bodyPost_ret (v := .tuple #[.agg #[.int .i64 sets, .int .i64 ways, .slice (some ⟨gy, 0, none⟩) Y.length cy], .bool true]) (by simp [results, Try.results106, go_sem, d0, d1, d2]) rfl ⟨⟨_, rfl, gy, cy, rfl, own_low (own_gb oy (gb3 v7 (w.heap.size + 1 + 1) _ _ _) (by omega)) (by omega)⟩, bel3 A7 (by omega) _ _ _⟩

end Go.Proofs.Ythekickjjaleaab

/- The program's entry and tlb, for one kind of cache. Written by mk4.py. -/
namespace Go.Proofs.Ythekickjjaleaab
open Go.RowKit
set_option linter.unusedVariables false
attribute [local go_sem ↓] Go.wp_at_zero Go.wp_at_succ

theorem entryP_any (lv tg asd pt : Int) (gl vv : Bool) (w : World) :
    Calls Try.prog 157 #[.agg #[.int .i64 lv, .int .u64 tg, .int .u64 asd, .bool gl, .bool vv, .int .u64 pt]] w fun e w' => e = .returned (.agg #[.bool vv, .int .i64 lv, .int .u64 tg, .int .u64 asd, .bool gl, .int .u64 pt]) ∧ Below w.heap.size w w' := by
  have n1 := ((Below.refl w.heap.size w).alloc (Nat.le_refl _) (Obj.cells #[.int .i64 lv, .int .u64 tg, .int .u64 asd, .bool gl, .bool vv, .int .u64 pt] 167)).alloc (by simp) (Obj.cells #[.bool vv, .int .i64 lv, .int .u64 tg, .int .u64 asd, .bool gl, .int .u64 pt] 75)
  go_enter Try.func157, Try.ntmps157
  go_wp2_with fail
  exact bodyPost_ret (v := .agg #[.bool vv, .int .i64 lv, .int .u64 tg, .int .u64 asd, .bool gl, .int .u64 pt]) (by simp [results, Try.results157, go_sem]) rfl ⟨rfl, n1⟩

set_option maxRecDepth 20000 in
set_option maxHeartbeats 3200000 in
theorem tlbP_any (b o g n : Nat) (t : TlbM) (w : World) (hn : t.es.length = n) (hn1 : n ≤ 1048576) (hbl : b < w.heap.size) (hgl : g < w.heap.size)
    (c0 : w.cell? ⟨b, o, none⟩ = some (.int .i64 t.sets)) (c1 : w.cell? ⟨b, o + 1, none⟩ = some (.int .i64 t.ways)) (c2 : w.cell? ⟨b, o + 2, none⟩ = some (.slice (some ⟨g, 0, none⟩) n n)) (hr : RowC w (some ⟨g, 0, none⟩) n 6 (slotsC t.es)) :
    Calls Try.prog 145 #[.pointer (some ⟨b, o, none⟩)] w fun e w' => (∃ x, e = .returned x ∧ TlbOwn w.heap.size w' x t) ∧ Below w.heap.size w w' := by
  have HR : Hid (RowC w (some ⟨g, 0, none⟩) n 6 (slotsC t.es)) := hr
  have HN : Hid (t.es.length = n) := hn
  obtain ⟨sets, ways, es⟩ := t
  simp only at c0 c1 c2 HR HN
  clear hr hn
  obtain ⟨cs, hcs, hmk⟩ := makeE n hn1
  have n1 := (Below.refl w.heap.size w).alloc (Nat.le_refl _) (Obj.cells #[.int .i64 0, .int .i64 0, .slice none 0 0] 63)
  have H1 : Hid ((w.alloc (Obj.cells #[.int .i64 0, .int .i64 0, .slice none 0 0] 63)).heap[w.heap.size]? = some (.cells #[.int .i64 0, .int .i64 0, .slice none 0 0] 63 (0, 0))) := heap_alloc_new w _
  have l1 : (w.alloc (Obj.cells #[.int .i64 0, .int .i64 0, .slice none 0 0] 63)).heap.size = w.heap.size + 1 := by simp
  have nV : Below (w.alloc (Obj.cells #[.int .i64 0, .int .i64 0, .slice none 0 0] 63)).heap.size (w.alloc (Obj.cells #[.int .i64 0, .int .i64 0, .slice none 0 0] 63)) ((w.alloc (Obj.cells #[.int .i64 0, .int .i64 0, .slice none 0 0] 63)).alloc (.cells cs 75)) := (Below.refl _ _).alloc (Nat.le_refl _) _
  have hG : ((w.alloc (Obj.cells #[.int .i64 0, .int .i64 0, .slice none 0 0] 63)).alloc (.cells cs 75)).heap[w.heap.size + 1]? = some (.cells cs 75 (0, 0)) := by
    have := heap_alloc_new (w.alloc (Obj.cells #[.int .i64 0, .int .i64 0, .slice none 0 0] 63)) (.cells cs 75)
    simp only [World.size_alloc] at this
    exact this
  have hcl : cs.toList.length = n * 6 := by rw [hcs, entsC_len]; simp
  have O2 : Hid (((w.alloc (Obj.cells #[.int .i64 0, .int .i64 0, .slice none 0 0] 63)).alloc (.cells cs 75)).ownsRow (w.heap.size + 1) 75 6 (.slice (some ⟨w.heap.size + 1, 0, none⟩) n n) n (entsC (firstN 0 n es))) := by
    rw [firstN_start, ← hcs]
    exact ⟨hcl, .inr ⟨_, n, cs, rfl, Nat.le_refl _, hG, Nat.le_refl _, by unfold maxLen; omega, by rw [← hcl]; simp, List.take_of_length_le (by omega)⟩⟩
  have A2 := Below.step n1 nV (Nat.le_refl _)
  have K2 := hid_keep H1 nV
  have B2 : Below (w.heap.size + 1) ((w.alloc (Obj.cells #[.int .i64 0, .int .i64 0, .slice none 0 0] 63)).alloc (.cells cs 75)) ((w.alloc (Obj.cells #[.int .i64 0, .int .i64 0, .slice none 0 0] 63)).alloc (.cells cs 75)) := Below.refl _ _
  have l2 : ((w.alloc (Obj.cells #[.int .i64 0, .int .i64 0, .slice none 0 0] 63)).alloc (.cells cs 75)).heap.size = w.heap.size + 2 := by simp
  clear hG hcl hcs H1 n1 nV
  have e0 : w.heap.size ≠ b := by omega
  have e1 : w.heap.size + 1 ≠ b := by omega
  go_enter Try.func145, Try.ntmps145
  go_wp2_with fail
  generalize ((w.alloc (Obj.cells #[.int .i64 0, .int .i64 0, .slice none 0 0] 63)).alloc (.cells cs 75)) = v2 at O2 A2 K2 l2 B2 ⊢
  go_loopw [17] (fun i wr => ∃ k : Nat, k ≤ n ∧ i = .int .i64 k ∧ wr.ownsRow (w.heap.size + 1) 75 6 (.slice (some ⟨w.heap.size + 1, 0, none⟩) n n) n (entsC (firstN k n es)) ∧ Below (w.heap.size + 1) v2 wr) (fun i _ => n - (intOf i).toNat)
  case atStart => exact ⟨0, Nat.zero_le _, rfl, O2.out, B2⟩
  case round =>
    obtain ⟨k, hk, rfl, hO, hb⟩ := hrel
    have PO : Hid (wr.ownsRow (w.heap.size + 1) 75 6 (.slice (some ⟨w.heap.size + 1, 0, none⟩) n n) n (entsC (firstN k n es))) := hO
    have lg : w.heap.size + 1 < wr.heap.size := (own_at hO).2.2
    have A3 : Below w.heap.size w wr := A2.trans (hb.mono (by omega))
    have P1 : Hid (wr.heap[w.heap.size]? = some (.cells #[.int .i64 0, .int .i64 0, .slice none 0 0] 63 (0, 0))) := (hb.block w.heap.size (by omega)).trans K2.out
    clear hO
    have r0 : wr.cell? ⟨b, o, none⟩ = some (.int .i64 sets) := Below.cell2 A3 c0 hbl
    have r1 : wr.cell? ⟨b, o + 1, none⟩ = some (.int .i64 ways) := Below.cell2 A3 c1 hbl
    have r2 : wr.cell? ⟨b, o + 2, none⟩ = some (.slice (some ⟨g, 0, none⟩) n n) := Below.cell2 A3 c2 hbl
    by_cases hlt : k < n
    · obtain ⟨⟨vv, lv, tg, asd, gl, pt⟩, hx⟩ : ∃ x, es[k]? = some x := ⟨_, List.getElem?_eq_getElem (by rw [HN.out]; exact hlt)⟩
      have HXk : Hid (es[k]? = some ⟨vv, lv, tg, asd, gl, pt⟩) := hx
      have CE : ∀ j u, j < 6 → (slotC ⟨vv, lv, tg, asd, gl, pt⟩)[j]? = some u → wr.cell? ⟨g, k * 6 + j, none⟩ = some u := fun j u hj hu => slotRow_cell (HR.out.keep A3) HN.out k _ hx j u hj hu
      have g0 : wr.cell? ⟨g, k * 6, none⟩ = some (.int .i64 lv) := CE 0 _ (by omega) rfl
      have g1 : wr.cell? ⟨g, k * 6 + 1, none⟩ = some (.int .u64 tg) := CE 1 _ (by omega) rfl
      have g2 : wr.cell? ⟨g, k * 6 + 2, none⟩ = some (.int .u64 asd) := CE 2 _ (by omega) rfl
      have g3 : wr.cell? ⟨g, k * 6 + 3, none⟩ = some (.bool gl) := CE 3 _ (by omega) rfl
      have g4 : wr.cell? ⟨g, k * 6 + 4, none⟩ = some (.bool vv) := CE 4 _ (by omega) rfl
      have g5 : wr.cell? ⟨g, k * 6 + 5, none⟩ = some (.int .u64 pt) := CE 5 _ (by omega) rfl
      clear CE hx
      have n5 := (Below.refl wr.heap.size wr).alloc (Nat.le_refl _) (Obj.cells #[.int .i64 lv, .int .u64 tg, .int .u64 asd, .bool gl, .bool vv, .int .u64 pt] 167)
      go_wp2_with fail
      generalize wr.alloc (Obj.cells #[.int .i64 lv, .int .u64 tg, .int .u64 asd, .bool gl, .bool vv, .int .u64 pt] 167) = v5 at n5 ⊢
      refine (entryP_any lv tg asd pt gl vv v5).mono ?_
      rintro e v6 ⟨rfl, n6⟩
      have n56 := Below.step n5 n6 (Nat.le_refl _)
      have SO : Hid (v6.ownsRow (w.heap.size + 1) 75 6 (.slice (some ⟨w.heap.size + 1, 0, none⟩) n n) n (entsC (firstN k n es))) := own_below PO.out n56
      have B6 : Below (w.heap.size + 1) v2 v6 := hb.trans (n56.mono (by omega))
      have hfl : (entsC (firstN k n es)).length = n * 6 := by
        have := HN.out
        subst this
        rw [entsC_len, firstN_len _ _ (by omega)]
      clear g0 g1 g2 g3 g4 g5 r0 r1 r2 n5 n6 n56 hb A3
      have q0 := own_cell SO.out (k * 6) _ (List.getElem?_eq_getElem (by omega))
      have q1 := own_cell SO.out (k * 6 + 1) _ (List.getElem?_eq_getElem (by omega))
      have q2 := own_cell SO.out (k * 6 + 2) _ (List.getElem?_eq_getElem (by omega))
      have q3 := own_cell SO.out (k * 6 + 3) _ (List.getElem?_eq_getElem (by omega))
      have q4 := own_cell SO.out (k * 6 + 4) _ (List.getElem?_eq_getElem (by omega))
      have q5 := own_cell SO.out (k * 6 + 5) _ (List.getElem?_eq_getElem (by omega))
      generalize (entsC (firstN k n es))[k * 6]'_ = y0 at q0
      generalize (entsC (firstN k n es))[k * 6 + 1]'_ = y1 at q1
      generalize (entsC (firstN k n es))[k * 6 + 2]'_ = y2 at q2
      generalize (entsC (firstN k n es))[k * 6 + 3]'_ = y3 at q3
      generalize (entsC (firstN k n es))[k * 6 + 4]'_ = y4 at q4
      generalize (entsC (firstN k n es))[k * 6 + 5]'_ = y5 at q5
      have s0 := own_free SO.out (k * 6)
      have s1 := own_free SO.out (k * 6 + 1)
      have s2 := own_free SO.out (k * 6 + 2)
      have s3 := own_free SO.out (k * 6 + 3)
      have s4 := own_free SO.out (k * 6 + 4)
      have s5 := own_free SO.out (k * 6 + 5)
      go_wp2_with fail
      go_roundw
      case rel =>
        refine ⟨k + 1, by omega, by go_num, ?_, ?_⟩
        · have := HN.out
          subst this
          rw [firstN_next k es _ HXk.out, entsC_set _ _ _ (by rw [firstN_len _ _ (by omega)]; exact hlt)]
          exact own_store (own_store (own_store (own_store (own_store (own_store SO.out _ _) _ _) _ _) _ _) _ _) _ _
        · have hg1 : w.heap.size + 1 ≤ w.heap.size + 1 := Nat.le_refl _
          exact (((((B6.setCell (p := ⟨w.heap.size + 1, _, none⟩) hg1 _).setCell (p := ⟨w.heap.size + 1, _, none⟩) hg1 _).setCell (p := ⟨w.heap.size + 1, _, none⟩) hg1 _).setCell (p := ⟨w.heap.size + 1, _, none⟩) hg1 _).setCell (p := ⟨w.heap.size + 1, _, none⟩) hg1 _).setCell (p := ⟨w.heap.size + 1, _, none⟩) hg1 _
      case measure => simp [intOf]; omega
    · have hkn : k = n := by omega
      subst hkn
      obtain ⟨⟨d0, d1, d2⟩, f0, f1, f2⟩ := three_cells P1.out
      go_wp2_with fail
      go_region
      all_goals
        go_wp2_with fail
        refine bodyPost_ret (v := .agg #[.int .i64 sets, .int .i64 ways, .slice (some ⟨w.heap.size + 1, 0, none⟩) k k]) (by simp [results, Try.results145, go_sem, d0, d1, d2]) rfl ⟨⟨_, rfl, w.heap.size + 1, k, by simp only; rw [HN.out], ?_⟩, (bel3 A3 (Nat.le_refl _) _ _ _).drew⟩
        simp only
        rw [HN.out]
        have hO := PO.out
        have hq := HN.out
        subst hq
        rw [firstN_all] at hO
        exact own_low (own_drew (own_gb hO (gb3 wr w.heap.size _ _ _) (by omega))) (by omega)

end Go.Proofs.Ythekickjjaleaab
