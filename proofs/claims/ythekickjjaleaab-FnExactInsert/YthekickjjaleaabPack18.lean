import Derived.Test.YthekickjjaleaabPack17
import Derived.Test.YthekickjjaleaabPack16
import Derived.Test.YthekickjjaleaabPack15
import Derived.Test.YthekickjjaleaabPack12
import Derived.Test.YthekickjjaleaabPack05
/- The program's insertedIn, for one kind of cache. Written by mk4.py. -/
namespace Go.Proofs.Ythekickjjaleaab
open Go.RowKit
set_option linter.unusedVariables false

/-- What insertedIn answers where it did it. -/
def InsAnsP (base : Nat) (w : World) (e : Ending) (t : TlbM) : Prop := ∃ x, e = .returned (.tuple #[x, .bool true]) ∧ TlbOwn base w x t

set_option maxHeartbeats 3200000 in
theorem insertedInP_any (v : Value) (t : TlbM) (x : EntM) (pick : Int) (w : World) (h : TlbAt w v t) (hx : entOk x) (hp0 : 0 ≤ pick) (hp1 : pick ≤ 255) :
    Calls Try.prog 107 #[v, entV x, .int .i64 pick] w fun e w' => cond (validM t true && goodEntM x true) (InsAnsP w.heap.size w' e ⟨t.sets, t.ways, t.es.set (firstM t x + wayM t x pick) x⟩) (e = .returned (.tuple #[.agg #[.int .i64 0, .int .i64 0, .slice none 0 0], .bool false])) ∧ Below w.heap.size w w' := by
  have HK : Hid (tlbOk t) := TlbAt.ok h
  have HT : Hid (TlbAt w v t) := h
  obtain ⟨a, cap, rfl, _⟩ := h
  obtain ⟨vv, lv, tg, asd, gl, pt⟩ := x
  unfold entV
  simp only
  obtain ⟨sets, ways, es⟩ := t
  simp only at *
  obtain ⟨n, hn⟩ : ∃ n, es.length = n := ⟨_, rfl⟩
  have HN : Hid (es.length = n) := hn
  rw [hn] at HT ⊢
  have n1 := (((Below.refl w.heap.size w).alloc (Nat.le_refl _) (Obj.cells #[.int .i64 sets, .int .i64 ways, .slice a n cap] 63)).alloc (by simp) (Obj.cells #[.bool vv, .int .i64 lv, .int .u64 tg, .int .u64 asd, .bool gl, .int .u64 pt] 75)).alloc (by simp; omega) (Obj.cells #[.int .i64 0, .int .i64 0, .slice none 0 0] 63)
  have HT1 : Hid (TlbAt (((w.alloc (Obj.cells #[.int .i64 sets, .int .i64 ways, .slice a n cap] 63)).alloc (Obj.cells #[.bool vv, .int .i64 lv, .int .u64 tg, .int .u64 asd, .bool gl, .int .u64 pt] 75)).alloc (Obj.cells #[.int .i64 0, .int .i64 0, .slice none 0 0] 63)) (.agg #[.int .i64 sets, .int .i64 ways, .slice a n cap]) ⟨sets, ways, es⟩) := HT.out.keep n1
  have H2 : Hid ((((w.alloc (Obj.cells #[.int .i64 sets, .int .i64 ways, .slice a n cap] 63)).alloc (Obj.cells #[.bool vv, .int .i64 lv, .int .u64 tg, .int .u64 asd, .bool gl, .int .u64 pt] 75)).alloc (Obj.cells #[.int .i64 0, .int .i64 0, .slice none 0 0] 63)).heap[w.heap.size + 1]? = some (.cells #[.bool vv, .int .i64 lv, .int .u64 tg, .int .u64 asd, .bool gl, .int .u64 pt] 75 (0, 0))) := by
    show _ = _
    rw [heap_alloc_old _ _ (by simp)]
    have := heap_alloc_new (w.alloc (Obj.cells #[.int .i64 sets, .int .i64 ways, .slice a n cap] 63)) (Obj.cells #[.bool vv, .int .i64 lv, .int .u64 tg, .int .u64 asd, .bool gl, .int .u64 pt] 75)
    simp only [World.size_alloc] at this
    exact this
  have H3 : Hid ((((w.alloc (Obj.cells #[.int .i64 sets, .int .i64 ways, .slice a n cap] 63)).alloc (Obj.cells #[.bool vv, .int .i64 lv, .int .u64 tg, .int .u64 asd, .bool gl, .int .u64 pt] 75)).alloc (Obj.cells #[.int .i64 0, .int .i64 0, .slice none 0 0] 63)).heap[w.heap.size + 1 + 1]? = some (.cells #[.int .i64 0, .int .i64 0, .slice none 0 0] 63 (0, 0))) := by
    have := heap_alloc_new ((w.alloc (Obj.cells #[.int .i64 sets, .int .i64 ways, .slice a n cap] 63)).alloc (Obj.cells #[.bool vv, .int .i64 lv, .int .u64 tg, .int .u64 asd, .bool gl, .int .u64 pt] 75)) (Obj.cells #[.int .i64 0, .int .i64 0, .slice none 0 0] 63)
    simp only [World.size_alloc] at this
    exact this
  have l1 : w.heap.size + 1 + 1 < (((w.alloc (Obj.cells #[.int .i64 sets, .int .i64 ways, .slice a n cap] 63)).alloc (Obj.cells #[.bool vv, .int .i64 lv, .int .u64 tg, .int .u64 asd, .bool gl, .int .u64 pt] 75)).alloc (Obj.cells #[.int .i64 0, .int .i64 0, .slice none 0 0] 63)).heap.size := by simp
  clear HT hn
  obtain ⟨qv, hqv⟩ : ∃ q, validM ⟨sets, ways, es⟩ true = q := ⟨_, rfl⟩
  obtain ⟨qg, hqg⟩ : ∃ q, goodEntM ⟨vv, lv, tg, asd, gl, pt⟩ true = q := ⟨_, rfl⟩
  have HQ : Hid (validM ⟨sets, ways, es⟩ true = qv) := hqv
  have HG : Hid (goodEntM ⟨vv, lv, tg, asd, gl, pt⟩ true = qg) := hqg
  have HSl : Hid (∀ u, Calls Try.prog 134 #[.agg #[.bool vv, .int .i64 lv, .int .u64 tg, .int .u64 asd, .bool gl, .int .u64 pt]] u fun e w' => e = .returned (.tuple #[slotV (if qg = true then ⟨vv, lv, tg, asd, gl, pt⟩ else ent0), .bool qg]) ∧ Below u.heap.size u w') := fun u => by
    have := slotOfP_any ⟨vv, lv, tg, asd, gl, pt⟩ u hx
    rw [hqg] at this
    exact this
  obtain ⟨Y, hY⟩ : ∃ Y, es.set (firstM ⟨sets, ways, es⟩ ⟨vv, lv, tg, asd, gl, pt⟩ + wayM ⟨sets, ways, es⟩ ⟨vv, lv, tg, asd, gl, pt⟩ pick) ⟨vv, lv, tg, asd, gl, pt⟩ = Y := ⟨_, rfl⟩
  have HY : Hid (es.set (firstM ⟨sets, ways, es⟩ ⟨vv, lv, tg, asd, gl, pt⟩ + wayM ⟨sets, ways, es⟩ ⟨vv, lv, tg, asd, gl, pt⟩ pick) ⟨vv, lv, tg, asd, gl, pt⟩ = Y) := hY
  have HYl : Hid (Y.length = n) := by show _ = _; rw [← hY, List.length_set]; exact HN.out
  rw [hqv, hqg, hY]
  clear hqv hqg hY
  go_enter Try.func107, Try.ntmps107
  go_wp2_with fail
  generalize (((w.alloc (Obj.cells #[.int .i64 sets, .int .i64 ways, .slice a n cap] 63)).alloc (Obj.cells #[.bool vv, .int .i64 lv, .int .u64 tg, .int .u64 asd, .bool gl, .int .u64 pt] 75)).alloc (Obj.cells #[.int .i64 0, .int .i64 0, .slice none 0 0] 63)) = v1 at n1 HT1 H2 H3 l1 ⊢
  refine (cacheOfP_any _ ⟨sets, ways, es⟩ v1 HT1.out).mono ?_
  rw [HQ.out]
  rintro e v2 ⟨hc, n2⟩
  have A2 := Below.step n1 n2 (Nat.le_refl _)
  have K2 := hid_keep H2 n2
  have K3 := hid_keep H3 n2
  have l2 : w.heap.size + 1 + 1 < v2.heap.size := Nat.lt_of_lt_of_le l1 n2.size
  clear n1 HT1 H2 H3
  obtain ⟨⟨c0, c1, c2, c3, c4, c5⟩, _⟩ := six_at K2.out
  have l0 : w.heap.size + 1 < v2.heap.size := by omega
  cases qv
  · dsimp only [cond] at hc
    subst hc
    have n3 := (Below.refl v2.heap.size v2).alloc (Nat.le_refl _) (Obj.cells #[.int .i64 0, .int .i64 0, .slice none 0 0] 123)
    have A3 := Below.step A2 n3 (Nat.le_refl _)
    have J3 := hid_keep K3 n3
    have l3 : w.heap.size + 1 + 1 < (v2.alloc (Obj.cells #[.int .i64 0, .int .i64 0, .slice none 0 0] 123)).heap.size := by simp; omega
    go_wp2_with fail
    generalize v2.alloc (Obj.cells #[.int .i64 0, .int .i64 0, .slice none 0 0] 123) = v3 at n3 A3 J3 l3 ⊢
    refine (HSl.out v3).mono ?_
    rintro e v4 ⟨rfl, n4⟩
    have A4 := Below.step A3 n4 (Nat.le_refl _)
    have J4 := hid_keep J3 n4
    have l4 : w.heap.size + 1 + 1 < v4.heap.size := Nat.lt_of_lt_of_le l3 n4.size
    clear n3 n4 A3 J3 c0 c1 c2 c3 c4 c5
    obtain ⟨⟨d0, d1, d2⟩, e0, e1, e2⟩ := three_cells J4.out
    cases qg
    all_goals
      simp only [slotV, ent0, Bool.false_eq_true, if_false, if_true]
      go_wp2_with fail
      exact bodyPost_ret (v := .tuple #[.agg #[.int .i64 0, .int .i64 0, .slice none 0 0], .bool false]) (by simp [results, Try.results107, go_sem, d0, d1, d2, l4]) rfl ⟨rfl, by first | exact (bel3 A4 (by omega) _ _ _).alloc (by simp; omega) _ | exact bel3 (A4.alloc A4.size _) (by omega) _ _ _⟩
  · dsimp only [cond] at hc
    obtain ⟨g, rfl, ho⟩ := hc
    have hg := own_at ho
    obtain ⟨_, hg1, hg2⟩ := hg
    simp only at hg1 hg2 ho ⊢
    rw [HN.out] at ho ⊢
    have n3 := (Below.refl v2.heap.size v2).alloc (Nat.le_refl _) (Obj.cells #[.int .i64 sets, .int .i64 ways, .slice (some ⟨g, 0, none⟩) n n] 123)
    have H3 : Hid ((v2.alloc (Obj.cells #[.int .i64 sets, .int .i64 ways, .slice (some ⟨g, 0, none⟩) n n] 123)).heap[v2.heap.size]? = some (.cells #[.int .i64 sets, .int .i64 ways, .slice (some ⟨g, 0, none⟩) n n] 123 (0, 0))) := heap_alloc_new v2 _
    have O3 : Hid ((v2.alloc (Obj.cells #[.int .i64 sets, .int .i64 ways, .slice (some ⟨g, 0, none⟩) n n] 123)).ownsRow v1.heap.size 167 6 (.slice (some ⟨g, 0, none⟩) n n) n (slotsC es)) := own_below ho n3
    have A3 := Below.step A2 n3 (Nat.le_refl _)
    have J3 := hid_keep K3 n3
    have l3 : v2.heap.size < (v2.alloc (Obj.cells #[.int .i64 sets, .int .i64 ways, .slice (some ⟨g, 0, none⟩) n n] 123)).heap.size := by simp
    clear ho
    go_wp2_with fail
    generalize v2.alloc (Obj.cells #[.int .i64 sets, .int .i64 ways, .slice (some ⟨g, 0, none⟩) n n] 123) = v3 at n3 H3 O3 A3 J3 l3 ⊢
    refine (HSl.out v3).mono ?_
    rintro e v4 ⟨rfl, n4⟩
    have A4 := Below.step A3 n4 (Nat.le_refl _)
    have J4 := hid_keep J3 n4
    have H4 := hid_keep H3 n4
    have O4 : Hid (v4.ownsRow v1.heap.size 167 6 (.slice (some ⟨g, 0, none⟩) n n) n (slotsC es)) := own_below O3.out n4
    have l4 : v2.heap.size < v4.heap.size := Nat.lt_of_lt_of_le l3 n4.size
    have l4' : w.heap.size + 1 + 1 < v4.heap.size := by omega
    clear n3 n4 A3 J3 H3 O3 c0 c1 c2 c3 c4 c5
    cases qg
    · obtain ⟨⟨d0, d1, d2⟩, e0, e1, e2⟩ := three_cells J4.out
      simp only [slotV, ent0, Bool.false_eq_true, if_false]
      go_wp2_with fail
      exact bodyPost_ret (v := .tuple #[.agg #[.int .i64 0, .int .i64 0, .slice none 0 0], .bool false]) (by simp [results, Try.results107, go_sem, d0, d1, d2, l4']) rfl ⟨rfl, by first | exact (bel3 A4 (by omega) _ _ _).alloc (by simp; omega) _ | exact bel3 (A4.alloc A4.size _) (by omega) _ _ _⟩
    · simp only [slotV, if_true]
      have n5 := (Below.refl v4.heap.size v4).alloc (Nat.le_refl _) (Obj.cells #[.int .i64 lv, .int .u64 tg, .int .u64 asd, .bool gl, .bool vv, .int .u64 pt] 167)
      have A5 := Below.step A4 n5 (Nat.le_refl _)
      have J5 := hid_keep J4 n5
      have H5 := hid_keep H4 n5
      have O5 : Hid ((v4.alloc (Obj.cells #[.int .i64 lv, .int .u64 tg, .int .u64 asd, .bool gl, .bool vv, .int .u64 pt] 167)).ownsRow v1.heap.size 167 6 (.slice (some ⟨g, 0, none⟩) n n) n (slotsC es)) := own_below O4.out n5
      have l5 : v4.heap.size < (v4.alloc (Obj.cells #[.int .i64 lv, .int .u64 tg, .int .u64 asd, .bool gl, .bool vv, .int .u64 pt] 167)).heap.size := by simp
      clear n5
      go_wp2_with fail
      generalize v4.alloc (Obj.cells #[.int .i64 lv, .int .u64 tg, .int .u64 asd, .bool gl, .bool vv, .int .u64 pt] 167) = v5 at A5 J5 H5 O5 l5 ⊢
      obtain ⟨⟨p0, p1, p2⟩, _, _, _⟩ := three_cells H5.out
      have hsh := shape_of HQ.out
      simp only at hsh
      rw [HN.out] at hsh
      refine (insertP_any v2.heap.size 0 g n v1.heap.size ⟨sets, ways, es⟩ ⟨vv, lv, tg, asd, gl, pt⟩ pick v5 HN.out (by rw [← HN.out]; exact HK.out.2.2.2) hsh.1 hsh.2.1 hsh.2.2.1 hsh.2.2.2 (by omega) (by omega) p0 p1 p2 O5.out hx.2.1.1 hx.2.1.2 hp0 hp1).mono ?_
      rintro e v6 ⟨rfl, o6, m6⟩
      simp only at o6
      rw [HY.out] at o6
      have O6 : Hid (v6.ownsRow v1.heap.size 167 6 (.slice (some ⟨g, 0, none⟩) n n) n (slotsC Y)) := o6
      have H6 : Hid (v6.heap[v2.heap.size]? = some (.cells #[.int .i64 sets, .int .i64 ways, .slice (some ⟨g, 0, none⟩) n n] 123 (0, 0))) := heap_gb H5.out m6 (by omega)
      have J6 : Hid (v6.heap[w.heap.size + 1 + 1]? = some (.cells #[.int .i64 0, .int .i64 0, .slice none 0 0] 63 (0, 0))) := heap_gb J5.out m6 (by omega)
      have l6 : v5.heap.size ≤ v6.heap.size := m6.size
      have A6 : Below w.heap.size w v6 := A5.grown m6 A5.size (fun k hk => by cases hk; omega)
      clear o6 m6 p0 p1 p2 H5 J5 O5 A5
      obtain ⟨⟨p0, p1, p2⟩, _, _, _⟩ := three_cells H6.out
      go_wp2_with fail
      refine (tlbP_any v2.heap.size 0 g n ⟨sets, ways, Y⟩ v6 HYl.out (by rw [← HN.out]; exact HK.out.2.2.2) (by omega) (by omega) p0 p1 p2 (row_own O6.out)).mono ?_
      rintro e v7 ⟨⟨y, rfl, gy, cy, rfl, oy⟩, n7⟩
      simp only at oy ⊢
      have J7 := hid_keep J6 n7
      have A7 := Below.step A6 n7 (Nat.le_refl _)
      have gy1 := (own_at oy).2.1
      simp only at gy1
      obtain ⟨⟨d0, d1, d2⟩, e0, e1, e2⟩ := three_cells J7.out
      go_wp2_with fail
      exact bodyPost_ret (v := .tuple #[.agg #[.int .i64 sets, .int .i64 ways, .slice (some ⟨gy, 0, none⟩) Y.length cy], .bool true]) (by simp [results, Try.results107, go_sem, d0, d1, d2]) rfl ⟨⟨_, rfl, gy, cy, rfl, own_low (own_gb oy (gb3 v7 (w.heap.size + 1 + 1) _ _ _) (by omega)) (by omega)⟩, bel3 A7 (by omega) _ _ _⟩

end Go.Proofs.Ythekickjjaleaab

/- The program's Insert. -/
namespace Go.Proofs.Ythekickjjaleaab
open Go.RowKit
set_option linter.unusedVariables false

theorem tlb_keep {base : Nat} {w w' : World} {v : Value} {t : TlbM} {g : Nat} (h : TlbOwn base w v t) (hg : w.grownBy w' (some g)) (hb : g < base) : TlbOwn base w' v t := by
  obtain ⟨q, c, rfl, o⟩ := h
  exact ⟨q, c, rfl, own_gb o hg hb⟩

theorem tlb_low {base base' : Nat} {w : World} {v : Value} {t : TlbM} (h : TlbOwn base w v t) (hb : base' ≤ base) : TlbOwn base' w v t := by
  obtain ⟨q, c, rfl, o⟩ := h
  exact ⟨q, c, rfl, own_low o hb⟩

set_option maxHeartbeats 3200000 in
theorem implInsert_any (v : Value) (t : TlbM) (x : EntM) (pick : Int) (w : World) (h : TlbAt w v t) (hx : entOk x) (hpb : -9223372036854775808 ≤ pick ∧ pick ≤ 9223372036854775807) :
    Calls Try.prog 51 #[v, entV x, .int .i64 pick] w fun e w' => (∃ y, e = .returned y ∧ TlbOwn w.heap.size w' y (insertM t x pick)) ∧ Below w.heap.size w w' := by
  have HT : Hid (TlbAt w v t) := h
  obtain ⟨a, cap, rfl, _⟩ := h
  obtain ⟨vv, lv, tg, asd, gl, pt⟩ := x
  unfold entV
  simp only
  obtain ⟨sets, ways, es⟩ := t
  simp only at *
  obtain ⟨n, hn⟩ : ∃ n, es.length = n := ⟨_, rfl⟩
  rw [hn] at HT ⊢
  clear hn
  have n1 := (((Below.refl w.heap.size w).alloc (Nat.le_refl _) (Obj.cells #[.int .i64 sets, .int .i64 ways, .slice a n cap] 63)).alloc (by simp) (Obj.cells #[.bool vv, .int .i64 lv, .int .u64 tg, .int .u64 asd, .bool gl, .int .u64 pt] 75)).alloc (by simp; omega) (Obj.cells #[.int .i64 0, .int .i64 0, .slice none 0 0] 63)
  have HT1 : Hid (TlbAt (((w.alloc (Obj.cells #[.int .i64 sets, .int .i64 ways, .slice a n cap] 63)).alloc (Obj.cells #[.bool vv, .int .i64 lv, .int .u64 tg, .int .u64 asd, .bool gl, .int .u64 pt] 75)).alloc (Obj.cells #[.int .i64 0, .int .i64 0, .slice none 0 0] 63)) (.agg #[.int .i64 sets, .int .i64 ways, .slice a n cap]) ⟨sets, ways, es⟩) := HT.out.keep n1
  have H1 : Hid ((((w.alloc (Obj.cells #[.int .i64 sets, .int .i64 ways, .slice a n cap] 63)).alloc (Obj.cells #[.bool vv, .int .i64 lv, .int .u64 tg, .int .u64 asd, .bool gl, .int .u64 pt] 75)).alloc (Obj.cells #[.int .i64 0, .int .i64 0, .slice none 0 0] 63)).heap[w.heap.size]? = some (.cells #[.int .i64 sets, .int .i64 ways, .slice a n cap] 63 (0, 0))) := by
    show _ = _
    rw [heap_alloc_old _ _ (by simp; omega), heap_alloc_old _ _ (by simp)]
    exact heap_alloc_new w _
  have H2 : Hid ((((w.alloc (Obj.cells #[.int .i64 sets, .int .i64 ways, .slice a n cap] 63)).alloc (Obj.cells #[.bool vv, .int .i64 lv, .int .u64 tg, .int .u64 asd, .bool gl, .int .u64 pt] 75)).alloc (Obj.cells #[.int .i64 0, .int .i64 0, .slice none 0 0] 63)).heap[w.heap.size + 1]? = some (.cells #[.bool vv, .int .i64 lv, .int .u64 tg, .int .u64 asd, .bool gl, .int .u64 pt] 75 (0, 0))) := by
    show _ = _
    rw [heap_alloc_old _ _ (by simp)]
    have := heap_alloc_new (w.alloc (Obj.cells #[.int .i64 sets, .int .i64 ways, .slice a n cap] 63)) (Obj.cells #[.bool vv, .int .i64 lv, .int .u64 tg, .int .u64 asd, .bool gl, .int .u64 pt] 75)
    simp only [World.size_alloc] at this
    exact this
  have H3 : Hid ((((w.alloc (Obj.cells #[.int .i64 sets, .int .i64 ways, .slice a n cap] 63)).alloc (Obj.cells #[.bool vv, .int .i64 lv, .int .u64 tg, .int .u64 asd, .bool gl, .int .u64 pt] 75)).alloc (Obj.cells #[.int .i64 0, .int .i64 0, .slice none 0 0] 63)).heap[w.heap.size + 1 + 1]? = some (.cells #[.int .i64 0, .int .i64 0, .slice none 0 0] 63 (0, 0))) := by
    have := heap_alloc_new ((w.alloc (Obj.cells #[.int .i64 sets, .int .i64 ways, .slice a n cap] 63)).alloc (Obj.cells #[.bool vv, .int .i64 lv, .int .u64 tg, .int .u64 asd, .bool gl, .int .u64 pt] 75)) (Obj.cells #[.int .i64 0, .int .i64 0, .slice none 0 0] 63)
    simp only [World.size_alloc] at this
    exact this
  have l1 : w.heap.size + 1 + 1 < (((w.alloc (Obj.cells #[.int .i64 sets, .int .i64 ways, .slice a n cap] 63)).alloc (Obj.cells #[.bool vv, .int .i64 lv, .int .u64 tg, .int .u64 asd, .bool gl, .int .u64 pt] 75)).alloc (Obj.cells #[.int .i64 0, .int .i64 0, .slice none 0 0] 63)).heap.size := by simp
  obtain ⟨kp, hkp⟩ : ∃ kp, decide (0 ≤ pick ∧ pick ≤ 255) = kp := ⟨_, rfl⟩
  have HKp : Hid (∀ u : World, Calls Try.prog 104 #[.int .i64 pick] u fun e w' => e = .returned (.bool kp) ∧ w' = u) := fun u => by
    have := knownPick_at pick u
    rw [hkp] at this
    exact this
  have HKp' : Hid (decide (0 ≤ pick ∧ pick ≤ 255) = kp) := hkp
  obtain ⟨qL, hqL⟩ : ∃ q, (validM ⟨sets, ways, es⟩ false && goodEntM ⟨vv, lv, tg, asd, gl, pt⟩ false) = q := ⟨_, rfl⟩
  obtain ⟨qP, hqP⟩ : ∃ q, (validM ⟨sets, ways, es⟩ true && goodEntM ⟨vv, lv, tg, asd, gl, pt⟩ true) = q := ⟨_, rfl⟩
  obtain ⟨Y, hY⟩ : ∃ Y, es.set (firstM ⟨sets, ways, es⟩ ⟨vv, lv, tg, asd, gl, pt⟩ + wayM ⟨sets, ways, es⟩ ⟨vv, lv, tg, asd, gl, pt⟩ pick) ⟨vv, lv, tg, asd, gl, pt⟩ = Y := ⟨_, rfl⟩
  obtain ⟨R, hR⟩ : ∃ R, insertM ⟨sets, ways, es⟩ ⟨vv, lv, tg, asd, gl, pt⟩ pick = R := ⟨_, rfl⟩
  have HRt : Hid ((qL = true ∨ qP = true) → kp = true → R = ⟨sets, ways, Y⟩) := fun h1 h2 => by
    rw [h2] at hkp
    rw [← hR, ← hY]
    unfold insertM
    rw [if_pos]
    refine ⟨?_, by simpa using hkp⟩
    unfold fitsInM
    rw [hqL, hqP]
    rcases h1 with h1 | h1 <;> rw [h1] <;> simp
  have HRf : Hid ((qL = false ∧ qP = false) ∨ kp = false → R = ⟨sets, ways, es⟩) := fun h1 => by
    rw [← hR]
    unfold insertM
    rw [if_neg]
    rintro ⟨h2, h3⟩
    rcases h1 with h1 | h1
    · unfold fitsInM at h2
      rw [hqL, hqP, h1.1, h1.2] at h2
      cases h2
    · rw [h1] at hkp
      simp at hkp
      omega
  have HL : Hid (kp = true → ∀ u, TlbAt u (.agg #[.int .i64 sets, .int .i64 ways, .slice a n cap]) ⟨sets, ways, es⟩ → Calls Try.prog 106 #[.agg #[.int .i64 sets, .int .i64 ways, .slice a n cap], .agg #[.bool vv, .int .i64 lv, .int .u64 tg, .int .u64 asd, .bool gl, .int .u64 pt], .int .i64 pick] u fun e w' => cond qL (InsAnsL u.heap.size w' e ⟨sets, ways, Y⟩) (e = .returned (.tuple #[.agg #[.int .i64 0, .int .i64 0, .slice none 0 0], .bool false])) ∧ Below u.heap.size u w') := fun hk u hu => by
    rw [hk] at hkp
    have hk2 : 0 ≤ pick ∧ pick ≤ 255 := by simpa using hkp
    have := insertedInL_any _ ⟨sets, ways, es⟩ ⟨vv, lv, tg, asd, gl, pt⟩ pick u hu hx hk2.1 hk2.2
    rw [hqL, hY] at this
    exact this
  have HP : Hid (kp = true → ∀ u, TlbAt u (.agg #[.int .i64 sets, .int .i64 ways, .slice a n cap]) ⟨sets, ways, es⟩ → Calls Try.prog 107 #[.agg #[.int .i64 sets, .int .i64 ways, .slice a n cap], .agg #[.bool vv, .int .i64 lv, .int .u64 tg, .int .u64 asd, .bool gl, .int .u64 pt], .int .i64 pick] u fun e w' => cond qP (InsAnsP u.heap.size w' e ⟨sets, ways, Y⟩) (e = .returned (.tuple #[.agg #[.int .i64 0, .int .i64 0, .slice none 0 0], .bool false])) ∧ Below u.heap.size u w') := fun hk u hu => by
    rw [hk] at hkp
    have hk2 : 0 ≤ pick ∧ pick ≤ 255 := by simpa using hkp
    have := insertedInP_any _ ⟨sets, ways, es⟩ ⟨vv, lv, tg, asd, gl, pt⟩ pick u hu hx hk2.1 hk2.2
    rw [hqP, hY] at this
    exact this
  have HC : Hid (∀ u, TlbAt u (.agg #[.int .i64 sets, .int .i64 ways, .slice a n cap]) ⟨sets, ways, es⟩ → Calls Try.prog 105 #[.agg #[.int .i64 sets, .int .i64 ways, .slice a n cap]] u fun e w' => (∃ y, e = .returned y ∧ TlbOwn u.heap.size w' y ⟨sets, ways, es⟩) ∧ Below u.heap.size u w') := fun u hu => copiedTlb_any _ ⟨sets, ways, es⟩ u hu
  rw [hR]
  clear hkp hqL hqP hY hR HT HKp'
  go_enter Try.func51, Try.ntmps51
  go_wp2_with fail
  generalize (((w.alloc (Obj.cells #[.int .i64 sets, .int .i64 ways, .slice a n cap] 63)).alloc (Obj.cells #[.bool vv, .int .i64 lv, .int .u64 tg, .int .u64 asd, .bool gl, .int .u64 pt] 75)).alloc (Obj.cells #[.int .i64 0, .int .i64 0, .slice none 0 0] 63)) = v1 at n1 HT1 H1 H2 H3 l1 ⊢
  refine (HKp.out v1).mono ?_
  rintro e w' ⟨rfl, rfl⟩
  rename World => v1
  obtain ⟨⟨c0, c1, c2⟩, _, _, _⟩ := three_cells H1.out
  obtain ⟨⟨b0, b1, b2, b3, b4, b5⟩, _⟩ := six_at H2.out
  cases kp
  · have hr := HRf.out (.inr (by trivial))
    subst hr
    go_wp2_with fail
    refine (HC.out v1 HT1.out).mono ?_
    rintro e v2 ⟨⟨y, rfl, hy⟩, n2⟩
    have J2 := hid_keep H3 n2
    have A2 := Below.step n1 n2 (Nat.le_refl _)
    have hy2 := hy
    obtain ⟨gy, cy, rfl, _⟩ := hy2
    obtain ⟨⟨d0, d1, d2⟩, e0, e1, e2⟩ := three_cells J2.out
    simp only at hy ⊢
    go_wp2_with fail
    exact bodyPost_ret (v := .agg #[.int .i64 sets, .int .i64 ways, .slice (some ⟨gy, 0, none⟩) es.length cy]) (by simp [results, Try.results51, go_sem, d0, d1, d2]) rfl ⟨⟨_, rfl, tlb_low (tlb_keep hy (gb3 v2 (w.heap.size + 1 + 1) _ _ _) (by omega)) (by omega)⟩, bel3 A2 (by omega) _ _ _⟩
  · go_wp2_with fail
    refine (HL.out (by trivial) v1 HT1.out).mono ?_
    rintro e v2 ⟨hc, n2⟩
    have A2 := Below.step n1 n2 (Nat.le_refl _)
    have K1 := hid_keep H1 n2
    have K2 := hid_keep H2 n2
    have J2 := hid_keep H3 n2
    have T2 : TlbAt v2 (.agg #[.int .i64 sets, .int .i64 ways, .slice a n cap]) ⟨sets, ways, es⟩ := HT1.out.keep n2
    have l2 : w.heap.size + 1 + 1 < v2.heap.size := Nat.lt_of_lt_of_le l1 n2.size
    have n2' := n2.size
    clear n2 n1 HT1 H1 H2 H3 c0 c1 c2 b0 b1 b2 b3 b4 b5 HL
    cases qL
    · dsimp only [cond] at hc
      subst hc
      have n3 := (Below.refl v2.heap.size v2).alloc (Nat.le_refl _) (Obj.cells #[.int .i64 0, .int .i64 0, .slice none 0 0] 63)
      have A3 := Below.step A2 n3 (Nat.le_refl _)
      have P1 := hid_keep K1 n3
      have P2 := hid_keep K2 n3
      have J3 := hid_keep J2 n3
      have T3 := T2.keep n3
      have m0 : w.heap.size < v2.heap.size := by omega
      have m1 : w.heap.size + 1 < v2.heap.size := by omega
      have l3 : w.heap.size + 1 + 1 < (v2.alloc (Obj.cells #[.int .i64 0, .int .i64 0, .slice none 0 0] 63)).heap.size := by simp; omega
      obtain ⟨⟨c0, c1, c2⟩, _, _, _⟩ := three_cells K1.out
      obtain ⟨⟨b0, b1, b2, b3, b4, b5⟩, _⟩ := six_at K2.out
      go_wp2_with fail
      generalize v2.alloc (Obj.cells #[.int .i64 0, .int .i64 0, .slice none 0 0] 63) = v3 at n3 A3 P1 P2 J3 T3 l3 ⊢
      refine (HP.out (by trivial) v3 T3).mono ?_
      rintro e v4 ⟨hc, n4⟩
      have A4 := Below.step A3 n4 (Nat.le_refl _)
      have J4 := hid_keep J3 n4
      have R1 := hid_keep P1 n4
      have T4 := T3.keep n4
      have l4 : w.heap.size + 1 + 1 < v4.heap.size := Nat.lt_of_lt_of_le l3 n4.size
      have n34 := Below.step n3 n4 (Nat.le_refl _)
      have q34 := n34.size
      have n4s := n4.size
      have n3s := n3.size
      clear n3 n4 n34 A3 J3 P1 P2 T3 K1 K2 J2 T2 A2 c0 c1 c2 b0 b1 b2 b3 b4 b5
      cases qP
      · dsimp only [cond] at hc
        subst hc
        have hr := HRf.out (.inl ⟨by trivial, by trivial⟩)
        subst hr
        have n5 := (Below.refl v4.heap.size v4).alloc (Nat.le_refl _) (Obj.cells #[.int .i64 0, .int .i64 0, .slice none 0 0] 63)
        have A5 := Below.step A4 n5 (Nat.le_refl _)
        have J5 := hid_keep J4 n5
        have T5 := T4.keep n5
        have l5 : w.heap.size + 1 + 1 < (v4.alloc (Obj.cells #[.int .i64 0, .int .i64 0, .slice none 0 0] 63)).heap.size := by simp; omega
        have m2 : w.heap.size < v4.heap.size := by omega
        obtain ⟨⟨c0, c1, c2⟩, _, _, _⟩ := three_cells R1.out
        go_wp2_with fail
        generalize v4.alloc (Obj.cells #[.int .i64 0, .int .i64 0, .slice none 0 0] 63) = v5 at n5 A5 J5 T5 l5 ⊢
        refine (HC.out v5 T5).mono ?_
        rintro e v6 ⟨⟨y, rfl, hy⟩, n6⟩
        have J6 := hid_keep J5 n6
        have A6 := Below.step A5 n6 (Nat.le_refl _)
        have hy2 := hy
        obtain ⟨gy, cy, rfl, _⟩ := hy2
        obtain ⟨⟨d0, d1, d2⟩, e0, e1, e2⟩ := three_cells J6.out
        simp only at hy ⊢
        go_wp2_with fail
        exact bodyPost_ret (v := .agg #[.int .i64 sets, .int .i64 ways, .slice (some ⟨gy, 0, none⟩) es.length cy]) (by simp [results, Try.results51, go_sem, d0, d1, d2]) rfl ⟨⟨_, rfl, tlb_low (tlb_keep hy (gb3 v6 (w.heap.size + 1 + 1) _ _ _) (by omega)) (by omega)⟩, bel3 A6 (by omega) _ _ _⟩
      · dsimp only [cond] at hc
        have hr := HRt.out (.inr (by trivial)) (by trivial)
        subst hr
        obtain ⟨y, rfl, hy⟩ := hc
        have hy2 := hy
        obtain ⟨gy, cy, rfl, oy⟩ := hy2
        have hgy := (own_at oy).2.2
        simp only at hy hgy ⊢
        obtain ⟨⟨d0, d1, d2⟩, e0, e1, e2⟩ := three_cells J4.out
        go_wp2_with fail
        exact bodyPost_ret (v := .agg #[.int .i64 sets, .int .i64 ways, .slice (some ⟨gy, 0, none⟩) Y.length cy]) (by simp [results, Try.results51, go_sem, d0, d1, d2, l4]) rfl ⟨⟨_, rfl, tlb_low (TlbOwn.keep (tlb_keep hy (gb3 v4 (w.heap.size + 1 + 1) _ _ _) (by omega)) ((Below.refl _ _).alloc (Nat.le_refl _) _)) (by omega)⟩, (bel3 A4 (by omega) _ _ _).alloc (by simp; omega) _⟩
    · dsimp only [cond] at hc
      have hr := HRt.out (.inl (by trivial)) (by trivial)
      subst hr
      obtain ⟨y, rfl, hy⟩ := hc
      have hy2 := hy
      obtain ⟨gy, cy, rfl, oy⟩ := hy2
      have hgy := (own_at oy).2.2
      simp only at hy hgy ⊢
      obtain ⟨⟨d0, d1, d2⟩, e0, e1, e2⟩ := three_cells J2.out
      go_wp2_with fail
      exact bodyPost_ret (v := .agg #[.int .i64 sets, .int .i64 ways, .slice (some ⟨gy, 0, none⟩) Y.length cy]) (by simp [results, Try.results51, go_sem, d0, d1, d2, l2]) rfl ⟨⟨_, rfl, tlb_low (TlbOwn.keep (tlb_keep hy (gb3 v2 (w.heap.size + 1 + 1) _ _ _) (by omega)) ((Below.refl _ _).alloc (Nat.le_refl _) _)) (by omega)⟩, (bel3 A2 (by omega) _ _ _).alloc (by simp; omega) _⟩

end Go.Proofs.Ythekickjjaleaab

/- A cell of a block that is known. No program is named here. -/
namespace Go.Proofs.Ythekickjjaleaab
open Go.RowKit

theorem cell_of {v : World} {p : Nat} {cs : Array Value} {T : TypeId} (h : v.heap[p]? = some (.cells cs T (0, 0))) (i : Nat) (x : Value) (hx : cs[i]? = some x) : v.cell? ⟨p, i, none⟩ = some x := by
  simp [World.cell?, h, hx]

theorem three_setL {v : World} {p : Nat} {T : TypeId} {a b c x y z : Value} (h : v.heap[p]? = some (.cells #[a, b, c] T (0, 0))) : (((v.setCell ⟨p, 0, none⟩ x).setCell ⟨p, 1, none⟩ y).setCell ⟨p, 2, none⟩ z).heap[p]? = some (.cells #[x, y, z] T (0, 0)) := by
  simp [World.setCell, Array.getElem?_modify, h]

end Go.Proofs.Ythekickjjaleaab
