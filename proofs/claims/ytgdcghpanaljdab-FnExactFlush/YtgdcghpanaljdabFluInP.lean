/- The program's flushedIn, for one kind of cache. Written by mk4.py. -/
import Derived.Test.YtgdcghpanaljdabFluP
import Derived.Test.YtgdcghpanaljdabCacheP
import Derived.Test.YtgdcghpanaljdabCovVal
namespace Go.Proofs.Ytgdcghpanaljdab
open Go.RowKit
set_option linter.unusedVariables false

theorem flushP_any (B : Nat) (cv : Value) (f : FenceM) (b o g n base : Nat) (es : List EntM) (sets ways : Int) (w : World) (hC : CovVal B w cv f) (hBg : B ≤ g) (hv0 : 0 ≤ f.va) (hv1 : f.va ≤ 18446744073709551615) (hn : es.length = n) (hn1 : n ≤ 1048576) (hbl : b < w.heap.size) (hbg : b ≠ g)
    (c2 : w.cell? ⟨b, o + 2, none⟩ = some (.slice (some ⟨g, 0, none⟩) n n)) (ho : w.ownsRow base 167 6 (.slice (some ⟨g, 0, none⟩) n n) n (slotsC es)) (hlv : ∀ (j : Nat) (x : EntM), es[j]? = some x → x.valid = true → 0 ≤ x.level ∧ x.level ≤ 2) :
    Calls Try.prog 150 #[.pointer (some ⟨b, o, none⟩), cv] w fun x w' => x = .returned (.tuple #[]) ∧ w'.ownsRow base 167 6 (.slice (some ⟨g, 0, none⟩) n n) n (slotsC (es.map (struckM f))) ∧ w.grownBy w' (some g) := by
  obtain ⟨hv, fva, ha, fa⟩ := f
  rcases hC with ⟨h1, h2, rfl⟩ | ⟨h1, pf, pv, rfl, lf, lp, hF, hV⟩
  · have := flushAP_any hv fva ha fa 0 0 b o g n base es sets ways w hn hn1 hbl hbg c2 ho hlv
    rw [struck_id _ h1 h2]
    exact this
  · exact flushBP_any hv fva ha fa pf pv b o g n base es sets ways w hn hn1 hbl hbg hv0 hv1 h1 (by omega) (by omega) hF hV c2 ho hlv

/-- What flushedIn answers where it did it. -/
def FluAnsP (base : Nat) (w : World) (e : Ending) (t : TlbM) : Prop := ∃ x, e = .returned (.tuple #[x, .bool true]) ∧ TlbOwn base w x t

set_option maxHeartbeats 3200000 in
theorem flushedInP_any (v : Value) (t : TlbM) (cv : Value) (f : FenceM) (w : World) (h : TlbAt w v t) (hC : CovVal w.heap.size w cv f) (hv0 : 0 ≤ f.va) (hv1 : f.va ≤ 18446744073709551615) :
    Calls Try.prog 113 #[v, cv] w fun e w' => cond (validM t true) (FluAnsP w.heap.size w' e ⟨t.sets, t.ways, t.es.map (struckM f)⟩) (e = .returned (.tuple #[.agg #[.int .i64 0, .int .i64 0, .slice none 0 0], .bool false])) ∧ Below w.heap.size w w' := by
  have HK : Hid (tlbOk t) := TlbAt.ok h
  have HT : Hid (TlbAt w v t) := h
  obtain ⟨a, cap, rfl, _⟩ := h
  obtain ⟨sets, ways, es⟩ := t
  simp only at *
  obtain ⟨n, hn⟩ : ∃ n, es.length = n := ⟨_, rfl⟩
  have HN : Hid (es.length = n) := hn
  rw [hn] at HT ⊢
  have n1 := ((Below.refl w.heap.size w).alloc (Nat.le_refl _) (Obj.cells #[.int .i64 sets, .int .i64 ways, .slice a n cap] 63)).alloc (by simp) (Obj.cells #[.int .i64 0, .int .i64 0, .slice none 0 0] 63)
  have HT1 : Hid (TlbAt ((w.alloc (Obj.cells #[.int .i64 sets, .int .i64 ways, .slice a n cap] 63)).alloc (Obj.cells #[.int .i64 0, .int .i64 0, .slice none 0 0] 63)) (.agg #[.int .i64 sets, .int .i64 ways, .slice a n cap]) ⟨sets, ways, es⟩) := HT.out.keep n1
  have H3 : Hid (((w.alloc (Obj.cells #[.int .i64 sets, .int .i64 ways, .slice a n cap] 63)).alloc (Obj.cells #[.int .i64 0, .int .i64 0, .slice none 0 0] 63)).heap[w.heap.size + 1]? = some (.cells #[.int .i64 0, .int .i64 0, .slice none 0 0] 63 (0, 0))) := by
    have := heap_alloc_new (w.alloc (Obj.cells #[.int .i64 sets, .int .i64 ways, .slice a n cap] 63)) (Obj.cells #[.int .i64 0, .int .i64 0, .slice none 0 0] 63)
    simp only [World.size_alloc] at this
    exact this
  have l1 : w.heap.size + 1 < ((w.alloc (Obj.cells #[.int .i64 sets, .int .i64 ways, .slice a n cap] 63)).alloc (Obj.cells #[.int .i64 0, .int .i64 0, .slice none 0 0] 63)).heap.size := by simp
  have HCV : Hid (∀ u, Below w.heap.size w u → CovVal w.heap.size u cv f) := fun u hu => hC.keep hu
  clear HT hn hC
  obtain ⟨qv, hqv⟩ : ∃ q, validM ⟨sets, ways, es⟩ true = q := ⟨_, rfl⟩
  have HQ : Hid (validM ⟨sets, ways, es⟩ true = qv) := hqv
  obtain ⟨Y, hY⟩ : ∃ Y, es.map (struckM f) = Y := ⟨_, rfl⟩
  have HY : Hid (es.map (struckM f) = Y) := hY
  have HYl : Hid (Y.length = n) := by show _ = _; rw [← hY, List.length_map]; exact HN.out
  rw [hqv, hY]
  clear hqv hY
  go_enter Try.func113, Try.ntmps113
  go_wp2_with fail
  generalize ((w.alloc (Obj.cells #[.int .i64 sets, .int .i64 ways, .slice a n cap] 63)).alloc (Obj.cells #[.int .i64 0, .int .i64 0, .slice none 0 0] 63)) = v1 at n1 HT1 H3 l1 ⊢
  refine (cacheOfP_any _ ⟨sets, ways, es⟩ v1 HT1.out).mono ?_
  rw [HQ.out]
  rintro e v2 ⟨hc, n2⟩
  have A2 := Below.step n1 n2 (Nat.le_refl _)
  have K3 := hid_keep H3 n2
  have l2 : w.heap.size + 1 < v2.heap.size := Nat.lt_of_lt_of_le l1 n2.size
  have s1 := n1.size
  clear n1 HT1 H3
  cases qv
  · dsimp only [cond] at hc
    subst hc
    obtain ⟨⟨d0, d1, d2⟩, e0, e1, e2⟩ := three_cells K3.out
    go_wp2_with fail
    exact bodyPost_ret (v := .tuple #[.agg #[.int .i64 0, .int .i64 0, .slice none 0 0], .bool false]) (by simp [results, Try.results113, go_sem, d0, d1, d2, l2]) rfl ⟨rfl, by first | exact (bel3 A2 (by omega) _ _ _).alloc (by simp; omega) _ | exact bel3 (A2.alloc A2.size _) (by omega) _ _ _⟩
  · dsimp only [cond] at hc
    obtain ⟨g, rfl, ho⟩ := hc
    have hg := own_at ho
    obtain ⟨_, hg1, hg2⟩ := hg
    simp only at hg1 hg2 ho ⊢
    rw [HN.out] at ho ⊢
    have n3 := (Below.refl v2.heap.size v2).alloc (Nat.le_refl _) (Obj.cells #[.int .i64 sets, .int .i64 ways, .slice (some ⟨g, 0, none⟩) n n] 123)
    have H3 : Hid ((v2.alloc (Obj.cells #[.int .i64 sets, .int .i64 ways, .slice (some ⟨g, 0, none⟩) n n] 123)).heap[v2.heap.size]? = some (.cells #[.int .i64 sets, .int .i64 ways, .slice (some ⟨g, 0, none⟩) n n] 123 (0, 0))) := heap_alloc_new v2 _
    have O3 : Hid ((v2.alloc (Obj.cells #[.int .i64 sets, .int .i64 ways, .slice (some ⟨g, 0, none⟩) n n] 123)).ownsRow v1.heap.size 167 6 (.slice (some ⟨g, 0, none⟩) n n) n (slotsC es)) := own_below ho n3
    have A3 := Below.step A2 n3 (Nat.le_refl _)
    have J3 := hid_keep K3 n3
    have l3 : v2.heap.size < (v2.alloc (Obj.cells #[.int .i64 sets, .int .i64 ways, .slice (some ⟨g, 0, none⟩) n n] 123)).heap.size := by simp
    clear ho
    go_wp2_with fail
    generalize v2.alloc (Obj.cells #[.int .i64 sets, .int .i64 ways, .slice (some ⟨g, 0, none⟩) n n] 123) = v5 at n3 H3 O3 A3 J3 l3 ⊢
    obtain ⟨⟨p0, p1, p2⟩, _, _, _⟩ := three_cells H3.out
    refine (flushP_any w.heap.size cv f v2.heap.size 0 g n v1.heap.size es sets ways v5 (HCV.out v5 A3) (by omega) hv0 hv1 HN.out (by rw [← HN.out]; exact HK.out.2.2.2) (by omega) (by omega) p2 O3.out (fun j x hx hv => either_level (t := ⟨sets, ways, es⟩) (either_of HQ.out) j x hx hv)).mono ?_
    rintro e v6 ⟨rfl, o6, m6⟩
    rw [HY.out] at o6
    have O6 : Hid (v6.ownsRow v1.heap.size 167 6 (.slice (some ⟨g, 0, none⟩) n n) n (slotsC Y)) := o6
    have H6 : Hid (v6.heap[v2.heap.size]? = some (.cells #[.int .i64 sets, .int .i64 ways, .slice (some ⟨g, 0, none⟩) n n] 123 (0, 0))) := heap_gb H3.out m6 (by omega)
    have J6 : Hid (v6.heap[w.heap.size + 1]? = some (.cells #[.int .i64 0, .int .i64 0, .slice none 0 0] 63 (0, 0))) := heap_gb J3.out m6 (by omega)
    have l6 : v5.heap.size ≤ v6.heap.size := m6.size
    have A6 : Below w.heap.size w v6 := A3.grown m6 A3.size (fun k hk => by cases hk; omega)
    clear o6 m6 p0 p1 p2 H3 J3 O3 A3
    obtain ⟨⟨p0, p1, p2⟩, _, _, _⟩ := three_cells H6.out
    go_wp2_with fail
    refine (tlbP_any v2.heap.size 0 g n ⟨sets, ways, Y⟩ v6 HYl.out (by rw [← HN.out]; exact HK.out.2.2.2) (by omega) (by omega) p0 p1 p2 (row_own O6.out)).mono ?_
    rintro e v7 ⟨⟨y, rfl, gy, cy, rfl, oy⟩, n7⟩
    simp only at oy ⊢
    have J7 := hid_keep J6 n7
    have A7 := Below.step A6 n7 (Nat.le_refl _)
    have gy1 := (own_at oy).2.1
    simp only at gy1
    obtain ⟨⟨d0, d1, d2⟩, e0, e1, e2⟩ := three_cells J7.out
    go_wp2_with fail
    exact bodyPost_ret (v := .tuple #[.agg #[.int .i64 sets, .int .i64 ways, .slice (some ⟨gy, 0, none⟩) Y.length cy], .bool true]) (by simp [results, Try.results113, go_sem, d0, d1, d2]) rfl ⟨⟨_, rfl, gy, cy, rfl, own_low (own_gb oy (gb3 v7 (w.heap.size + 1) _ _ _) (by omega)) (by omega)⟩, bel3 A7 (by omega) _ _ _⟩

end Go.Proofs.Ytgdcghpanaljdab
