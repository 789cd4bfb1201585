/- The program's insertedIn, for one kind of cache. Written by mk4.py. -/
import Derived.Test.YtgdcghpanaljdabInsP
import Derived.Test.YtgdcghpanaljdabSlotP
namespace Go.Proofs.Ytgdcghpanaljdab
open Go.RowKit
set_option linter.unusedVariables false

/-- What insertedIn answers where it did it. -/
def InsAnsP (base : Nat) (w : World) (e : Ending) (t : TlbM) : Prop := ∃ x, e = .returned (.tuple #[x, .bool true]) ∧ TlbOwn base w x t

set_option maxHeartbeats 3200000 in
theorem insertedInP_any (v : Value) (t : TlbM) (x : EntM) (pick : Int) (w : World) (h : TlbAt w v t) (hx : entOk x) (hp0 : 0 ≤ pick) (hp1 : pick ≤ 255) :
    Calls Try.prog 107 #[v, entV x, .int .i64 pick] w fun e w' => cond (validM t true && goodEntM x true) (InsAnsP w.heap.size w' e ⟨t.sets, t.ways, t.es.set (firstM t x + wayM t x pick) x⟩) (e = .returned (.tuple #[.agg #[.int .i64 0, .int .i64 0, .slice none 0 0], .bool false])) ∧ Below w.heap.size w w' := by
  have HK : Hid (tlbOk t) := TlbAt.ok h
  have HT : Hid (TlbAt w v t) := h
  obtain ⟨a, cap, rfl, _⟩ := h
  obtain ⟨vv, lv, tg, asd, gl, pt⟩ := x
  unfold entV
  simp only
  obtain ⟨sets, ways, es⟩ := t
  simp only at *
  obtain ⟨n, hn⟩ : ∃ n, es.length = n := ⟨_, rfl⟩
  have HN : Hid (es.length = n) := hn
  rw [hn] at HT ⊢
  have n1 := (((Below.refl w.heap.size w).alloc (Nat.le_refl _) (Obj.cells #[.int .i64 sets, .int .i64 ways, .slice a n cap] 63)).alloc (by simp) (Obj.cells #[.bool vv, .int .i64 lv, .int .u64 tg, .int .u64 asd, .bool gl, .int .u64 pt] 75)).alloc (by simp; omega) (Obj.cells #[.int .i64 0, .int .i64 0, .slice none 0 0] 63)
  have HT1 : Hid (TlbAt (((w.alloc (Obj.cells #[.int .i64 sets, .int .i64 ways, .slice a n cap] 63)).alloc (Obj.cells #[.bool vv, .int .i64 lv, .int .u64 tg, .int .u64 asd, .bool gl, .int .u64 pt] 75)).alloc (Obj.cells #[.int .i64 0, .int .i64 0, .slice none 0 0] 63)) (.agg #[.int .i64 sets, .int .i64 ways, .slice a n cap]) ⟨sets, ways, es⟩) := HT.out.keep n1
  have H2 : Hid ((((w.alloc (Obj.cells #[.int .i64 sets, .int .i64 ways, .slice a n cap] 63)).alloc (Obj.cells #[.bool vv, .int .i64 lv, .int .u64 tg, .int .u64 asd, .bool gl, .int .u64 pt] 75)).alloc (Obj.cells #[.int .i64 0, .int .i64 0, .slice none 0 0] 63)).heap[w.heap.size + 1]? = some (.cells #[.bool vv, .int .i64 lv, .int .u64 tg, .int .u64 asd, .bool gl, .int .u64 pt] 75 (0, 0))) := by
    show _ = _
    rw [heap_alloc_old _ _ (by simp)]
    have := heap_alloc_new (w.alloc (Obj.cells #[.int .i64 sets, .int .i64 ways, .slice a n cap] 63)) (Obj.cells #[.bool vv, .int .i64 lv, .int .u64 tg, .int .u64 asd, .bool gl, .int .u64 pt] 75)
    simp only [World.size_alloc] at this
    exact this
  have H3 : Hid ((((w.alloc (Obj.cells #[.int .i64 sets, .int .i64 ways, .slice a n cap] 63)).alloc (Obj.cells #[.bool vv, .int .i64 lv, .int .u64 tg, .int .u64 asd, .bool gl, .int .u64 pt] 75)).alloc (Obj.cells #[.int .i64 0, .int .i64 0, .slice none 0 0] 63)).heap[w.heap.size + 1 + 1]? = some (.cells #[.int .i64 0, .int .i64 0, .slice none 0 0] 63 (0, 0))) := by
    have := heap_alloc_new ((w.alloc (Obj.cells #[.int .i64 sets, .int .i64 ways, .slice a n cap] 63)).alloc (Obj.cells #[.bool vv, .int .i64 lv, .int .u64 tg, .int .u64 asd, .bool gl, .int .u64 pt] 75)) (Obj.cells #[.int .i64 0, .int .i64 0, .slice none 0 0] 63)
    simp only [World.size_alloc] at this
    exact this
  have l1 : w.heap.size + 1 + 1 < (((w.alloc (Obj.cells #[.int .i64 sets, .int .i64 ways, .slice a n cap] 63)).alloc (Obj.cells #[.bool vv, .int .i64 lv, .int .u64 tg, .int .u64 asd, .bool gl, .int .u64 pt] 75)).alloc (Obj.cells #[.int .i64 0, .int .i64 0, .slice none 0 0] 63)).heap.size := by simp
  clear HT hn
  obtain ⟨qv, hqv⟩ : ∃ q, validM ⟨sets, ways, es⟩ true = q := ⟨_, rfl⟩
  obtain ⟨qg, hqg⟩ : ∃ q, goodEntM ⟨vv, lv, tg, asd, gl, pt⟩ true = q := ⟨_, rfl⟩
  have HQ : Hid (validM ⟨sets, ways, es⟩ true = qv) := hqv
  have HG : Hid (goodEntM ⟨vv, lv, tg, asd, gl, pt⟩ true = qg) := hqg
  have HSl : Hid (∀ u, Calls Try.prog 134 #[.agg #[.bool vv, .int .i64 lv, .int .u64 tg, .int .u64 asd, .bool gl, .int .u64 pt]] u fun e w' => e = .returned (.tuple #[slotV (if qg = true then ⟨vv, lv, tg, asd, gl, pt⟩ else ent0), .bool qg]) ∧ Below u.heap.size u w') := fun u => by
    have := slotOfP_any ⟨vv, lv, tg, asd, gl, pt⟩ u hx
    rw [hqg] at this
    exact this
  obtain ⟨Y, hY⟩ : ∃ Y, es.set (firstM ⟨sets, ways, es⟩ ⟨vv, lv, tg, asd, gl, pt⟩ + wayM ⟨sets, ways, es⟩ ⟨vv, lv, tg, asd, gl, pt⟩ pick) ⟨vv, lv, tg, asd, gl, pt⟩ = Y := ⟨_, rfl⟩
  have HY : Hid (es.set (firstM ⟨sets, ways, es⟩ ⟨vv, lv, tg, asd, gl, pt⟩ + wayM ⟨sets, ways, es⟩ ⟨vv, lv, tg, asd, gl, pt⟩ pick) ⟨vv, lv, tg, asd, gl, pt⟩ = Y) := hY
  have HYl : Hid (Y.length = n) := by show _ = _; rw [← hY, List.length_set]; exact HN.out
  rw [hqv, hqg, hY]
  clear hqv hqg hY
  go_enter Try.func107, Try.ntmps107
  go_wp2_with fail
  generalize (((w.alloc (Obj.cells #[.int .i64 sets, .int .i64 ways, .slice a n cap] 63)).alloc (Obj.cells #[.bool vv, .int .i64 lv, .int .u64 tg, .int .u64 asd, .bool gl, .int .u64 pt] 75)).alloc (Obj.cells #[.int .i64 0, .int .i64 0, .slice none 0 0] 63)) = v1 at n1 HT1 H2 H3 l1 ⊢
  refine (cacheOfP_any _ ⟨sets, ways, es⟩ v1 HT1.out).mono ?_
  rw [HQ.out]
  rintro e v2 ⟨hc, n2⟩
  have A2 := Below.step n1 n2 (Nat.le_refl _)
  have K2 := hid_keep H2 n2
  have K3 := hid_keep H3 n2
  have l2 : w.heap.size + 1 + 1 < v2.heap.size := Nat.lt_of_lt_of_le l1 n2.size
  clear n1 HT1 H2 H3
  obtain ⟨⟨c0, c1, c2, c3, c4, c5⟩, _⟩ := six_at K2.out
  have l0 : w.heap.size + 1 < v2.heap.size := by omega
  cases qv
  · dsimp only [cond] at hc
    subst hc
    have n3 := (Below.refl v2.heap.size v2).alloc (Nat.le_refl _) (Obj.cells #[.int .i64 0, .int .i64 0, .slice none 0 0] 123)
    have A3 := Below.step A2 n3 (Nat.le_refl _)
    have J3 := hid_keep K3 n3
    have l3 : w.heap.size + 1 + 1 < (v2.alloc (Obj.cells #[.int .i64 0, .int .i64 0, .slice none 0 0] 123)).heap.size := by simp; omega
    go_wp2_with fail
    generalize v2.alloc (Obj.cells #[.int .i64 0, .int .i64 0, .slice none 0 0] 123) = v3 at n3 A3 J3 l3 ⊢
    refine (HSl.out v3).mono ?_
    rintro e v4 ⟨rfl, n4⟩
    have A4 := Below.step A3 n4 (Nat.le_refl _)
    have J4 := hid_keep J3 n4
    have l4 : w.heap.size + 1 + 1 < v4.heap.size := Nat.lt_of_lt_of_le l3 n4.size
    clear n3 n4 A3 J3 c0 c1 c2 c3 c4 c5
    obtain ⟨⟨d0, d1, d2⟩, e0, e1, e2⟩ := three_cells J4.out
    cases qg
    all_goals
      simp only [slotV, ent0, Bool.false_eq_true, if_false, if_true]
      go_wp2_with fail
      exact bodyPost_ret (v := .tuple #[.agg #[.int .i64 0, .int .i64 0, .slice none 0 0], .bool false]) (by simp [results, Try.results107, go_sem, d0, d1, d2, l4]) rfl ⟨rfl, by first | exact (bel3 A4 (by omega) _ _ _).alloc (by simp; omega) _ | exact bel3 (A4.alloc A4.size _) (by omega) _ _ _⟩
  · dsimp only [cond] at hc
    obtain ⟨g, rfl, ho⟩ := hc
    have hg := own_at ho
    obtain ⟨_, hg1, hg2⟩ := hg
    simp only at hg1 hg2 ho ⊢
    rw [HN.out] at ho ⊢
    have n3 := (Below.refl v2.heap.size v2).alloc (Nat.le_refl _) (Obj.cells #[.int .i64 sets, .int .i64 ways, .slice (some ⟨g, 0, none⟩) n n] 123)
    have H3 : Hid ((v2.alloc (Obj.cells #[.int .i64 sets, .int .i64 ways, .slice (some ⟨g, 0, none⟩) n n] 123)).heap[v2.heap.size]? = some (.cells #[.int .i64 sets, .int .i64 ways, .slice (some ⟨g, 0, none⟩) n n] 123 (0, 0))) := heap_alloc_new v2 _
    have O3 : Hid ((v2.alloc (Obj.cells #[.int .i64 sets, .int .i64 ways, .slice (some ⟨g, 0, none⟩) n n] 123)).ownsRow v1.heap.size 167 6 (.slice (some ⟨g, 0, none⟩) n n) n (slotsC es)) := own_below ho n3
    have A3 := Below.step A2 n3 (Nat.le_refl _)
    have J3 := hid_keep K3 n3
    have l3 : v2.heap.size < (v2.alloc (Obj.cells #[.int .i64 sets, .int .i64 ways, .slice (some ⟨g, 0, none⟩) n n] 123)).heap.size := by simp
    clear ho
    go_wp2_with fail
    generalize v2.alloc (Obj.cells #[.int .i64 sets, .int .i64 ways, .slice (some ⟨g, 0, none⟩) n n] 123) = v3 at n3 H3 O3 A3 J3 l3 ⊢
    refine (HSl.out v3).mono ?_
    rintro e v4 ⟨rfl, n4⟩
    have A4 := Below.step A3 n4 (Nat.le_refl _)
    have J4 := hid_keep J3 n4
    have H4 := hid_keep H3 n4
    have O4 : Hid (v4.ownsRow v1.heap.size 167 6 (.slice (some ⟨g, 0, none⟩) n n) n (slotsC es)) := own_below O3.out n4
    have l4 : v2.heap.size < v4.heap.size := Nat.lt_of_lt_of_le l3 n4.size
    have l4' : w.heap.size + 1 + 1 < v4.heap.size := by omega
    clear n3 n4 A3 J3 H3 O3 c0 c1 c2 c3 c4 c5
    cases qg
    · obtain ⟨⟨d0, d1, d2⟩, e0, e1, e2⟩ := three_cells J4.out
      simp only [slotV, ent0, Bool.false_eq_true, if_false]
      go_wp2_with fail
      exact bodyPost_ret (v := .tuple #[.agg #[.int .i64 0, .int .i64 0, .slice none 0 0], .bool false]) (by simp [results, Try.results107, go_sem, d0, d1, d2, l4']) rfl ⟨rfl, by first | exact (bel3 A4 (by omega) _ _ _).alloc (by simp; omega) _ | exact bel3 (A4.alloc A4.size _) (by omega) _ _ _⟩
    · simp only [slotV, if_true]
      have n5 := (Below.refl v4.heap.size v4).alloc (Nat.le_refl _) (Obj.cells #[.int .i64 lv, .int .u64 tg, .int .u64 asd, .bool gl, .bool vv, .int .u64 pt] 167)
      have A5 := Below.step A4 n5 (Nat.le_refl _)
      have J5 := hid_keep J4 n5
      have H5 := hid_keep H4 n5
      have O5 : Hid ((v4.alloc (Obj.cells #[.int .i64 lv, .int .u64 tg, .int .u64 asd, .bool gl, .bool vv, .int .u64 pt] 167)).ownsRow v1.heap.size 167 6 (.slice (some ⟨g, 0, none⟩) n n) n (slotsC es)) := own_below O4.out n5
      have l5 : v4.heap.size < (v4.alloc (Obj.cells #[.int .i64 lv, .int .u64 tg, .int .u64 asd, .bool gl, .bool vv, .int .u64 pt] 167)).heap.size := by simp
      clear n5
      go_wp2_with fail
      generalize v4.alloc (Obj.cells #[.int .i64 lv, .int .u64 tg, .int .u64 asd, .bool gl, .bool vv, .int .u64 pt] 167) = v5 at A5 J5 H5 O5 l5 ⊢
      obtain ⟨⟨p0, p1, p2⟩, _, _, _⟩ := three_cells H5.out
      have hsh := shape_of HQ.out
      simp only at hsh
      rw [HN.out] at hsh
      refine (insertP_any v2.heap.size 0 g n v1.heap.size ⟨sets, ways, es⟩ ⟨vv, lv, tg, asd, gl, pt⟩ pick v5 HN.out (by rw [← HN.out]; exact HK.out.2.2.2) hsh.1 hsh.2.1 hsh.2.2.1 hsh.2.2.2 (by omega) (by omega) p0 p1 p2 O5.out hx.2.1.1 hx.2.1.2 hp0 hp1).mono ?_
      rintro e v6 ⟨rfl, o6, m6⟩
      simp only at o6
      rw [HY.out] at o6
      have O6 : Hid (v6.ownsRow v1.heap.size 167 6 (.slice (some ⟨g, 0, none⟩) n n) n (slotsC Y)) := o6
      have H6 : Hid (v6.heap[v2.heap.size]? = some (.cells #[.int .i64 sets, .int .i64 ways, .slice (some ⟨g, 0, none⟩) n n] 123 (0, 0))) := heap_gb H5.out m6 (by omega)
      have J6 : Hid (v6.heap[w.heap.size + 1 + 1]? = some (.cells #[.int .i64 0, .int .i64 0, .slice none 0 0] 63 (0, 0))) := heap_gb J5.out m6 (by omega)
      have l6 : v5.heap.size ≤ v6.heap.size := m6.size
      have A6 : Below w.heap.size w v6 := A5.grown m6 A5.size (fun k hk => by cases hk; omega)
      clear o6 m6 p0 p1 p2 H5 J5 O5 A5
      obtain ⟨⟨p0, p1, p2⟩, _, _, _⟩ := three_cells H6.out
      go_wp2_with fail
      refine (tlbP_any v2.heap.size 0 g n ⟨sets, ways, Y⟩ v6 HYl.out (by rw [← HN.out]; exact HK.out.2.2.2) (by omega) (by omega) p0 p1 p2 (row_own O6.out)).mono ?_
      rintro e v7 ⟨⟨y, rfl, gy, cy, rfl, oy⟩, n7⟩
      simp only at oy ⊢
      have J7 := hid_keep J6 n7
      have A7 := Below.step A6 n7 (Nat.le_refl _)
      have gy1 := (own_at oy).2.1
      simp only at gy1
      obtain ⟨⟨d0, d1, d2⟩, e0, e1, e2⟩ := three_cells J7.out
      go_wp2_with fail
      exact bodyPost_ret (v := .tuple #[.agg #[.int .i64 sets, .int .i64 ways, .slice (some ⟨gy, 0, none⟩) Y.length cy], .bool true]) (by simp [results, Try.results107, go_sem, d0, d1, d2]) rfl ⟨⟨_, rfl, gy, cy, rfl, own_low (own_gb oy (gb3 v7 (w.heap.size + 1 + 1) _ _ _) (by omega)) (by omega)⟩, bel3 A7 (by omega) _ _ _⟩

end Go.Proofs.Ytgdcghpanaljdab
