/- The specification's chapter 3: l3Index, l3Rec, l3From, Walk. -/
import Derived.Test.YthekickjjaleaabSpec1
import Derived.Test.YthekickjjaleaabSpec2g
import Derived.Test.YthekickjjaleaabCells
import Derived.Test.YthekickjjaleaabMath3
import Derived.Deep.RegionLaw
namespace Go.Proofs.Ythekickjjaleaab
open Go.RowKit
set_option linter.unusedVariables false

/-- The cells of records. -/
def recC (r : RecM) : List Value := [.int .i64 r.1, .int .u64 r.2.1, .int .u64 r.2.2]
def recsC : List RecM → List Value
  | [] => []
  | r :: rs => recC r ++ recsC rs

theorem recsC_len : ∀ rs : List RecM, (recsC rs).length = rs.length * 3
  | [] => rfl
  | r :: rs => by simp [recsC, recC, recsC_len rs]; omega

theorem recsC_one : ∀ rs : List RecM, ∀ u ∈ recsC rs, u.oneCell' = true
  | [], u, h => by simp [recsC] at h
  | r :: rs, u, h => by
    simp only [recsC, List.mem_append] at h
    rcases h with h | h
    · simp [recC] at h
      rcases h with rfl | rfl | rfl <;> rfl
    · exact recsC_one rs u h

/-- A block of four cells of the call's own. -/
theorem four_cells {w : World} {g : Nat} {T : TypeId} {a b c d : Value} (h : w.heap[g]? = some (.cells #[a, b, c, d] T (0, 0))) :
    (w.cell? ⟨g, 0, none⟩ = some a ∧ w.cell? ⟨g, 1, none⟩ = some b ∧ w.cell? ⟨g, 2, none⟩ = some c ∧ w.cell? ⟨g, 3, none⟩ = some d) ∧
    (w.frozen? ⟨g, 0, none⟩ = false ∧ w.frozen? ⟨g, 1, none⟩ = false ∧ w.frozen? ⟨g, 2, none⟩ = false ∧ w.frozen? ⟨g, 3, none⟩ = false) := by
  simp [World.cell?, World.frozen?, h]

theorem l3Index_at (va level : Int) (w : World) (h0 : 0 ≤ va) (h1 : va ≤ 18446744073709551615) (hl : 0 ≤ level) (hl' : level ≤ 2) :
    Calls Try.prog 122 #[.int .u64 va, .int .i64 level] w fun e w' => e = .returned (.int .u64 (idxM va level)) ∧ ∃ n, w' = w.drewN n := by
  rcases (show level = 0 ∨ level = 1 ∨ level = 2 by omega) with rfl | rfl | rfl
  · go_enter Try.func122, Try.ntmps122
    go_wp2_with fail
    refine (l2Bits_at va 6 8 64 8 w h0 h1 (by omega) (by omega) (by omega) (by omega) rfl rfl).mono ?_
    rintro e w' ⟨rfl, nq, rfl⟩
    go_wp2_with fail
    go_ret
    exact ⟨rfl, nq, rfl⟩
  · go_enter Try.func122, Try.ntmps122
    go_wp2_with fail
    refine (l2Bits_at va 9 11 512 8 w h0 h1 (by omega) (by omega) (by omega) (by omega) rfl rfl).mono ?_
    rintro e w' ⟨rfl, nq, rfl⟩
    go_wp2_with fail
    go_ret
    exact ⟨rfl, nq, rfl⟩
  · go_enter Try.func122, Try.ntmps122
    go_wp2_with fail
    refine (l2Bits_at va 12 14 4096 8 w h0 h1 (by omega) (by omega) (by omega) (by omega) rfl rfl).mono ?_
    rintro e w' ⟨rfl, nq, rfl⟩
    go_wp2_with fail
    go_ret
    exact ⟨rfl, nq, rfl⟩

theorem Try.infoRec : (Try.prog.info? 161).map (fun i => (i.zero, i.size, i.bytes)) = some (some (.agg #[.int .i64 0, .int .u64 0, .int .u64 0]), 3, 24) := by kernel_rfl

theorem l3Rec_any (l a v : Int) (w : World) :
    Calls Try.prog 123 #[.int .i64 l, .int .u64 a, .int .u64 v] w fun e w' =>
      e = .returned (.slice (some ⟨w.heap.size, 0, none⟩) 1 1) ∧ w' = w.alloc (.cells #[.int .i64 l, .int .u64 a, .int .u64 v] 161) := by
  go_enter Try.func123, Try.ntmps123
  go_wp2_with fail
  go_ret
  exact ⟨rfl, rfl⟩

theorem idxM_bd (va level : Int) : 0 ≤ idxM va level ∧ idxM va level ≤ 7 := by
  unfold idxM
  split
  · omega
  · split <;> omega

theorem rdV_bd (zs : List Int) (a n : Int) (hn : n ≤ 8) (h : ∀ i : Nat, 0 ≤ zs[i]?.getD 0 ∧ zs[i]?.getD 0 ≤ 255) : 0 ≤ rdV zs a n ∧ rdV zs a n ≤ 18446744073709551615 := by
  unfold rdV
  split
  · have := num_sub_bd zs a.toNat n.toNat h
    have hp : (256 : Int) ^ n.toNat ≤ 18446744073709551616 := by
      rcases (show n.toNat = 0 ∨ n.toNat = 1 ∨ n.toNat = 2 ∨ n.toNat = 3 ∨ n.toNat = 4 ∨ n.toNat = 5 ∨ n.toNat = 6 ∨ n.toNat = 7 ∨ n.toNat = 8 by omega) with h | h | h | h | h | h | h | h | h <;> rw [h] <;> decide
    omega
  · omega

theorem set3 {v : World} {p : Nat} {T : TypeId} {a b c d u : Value} (h : v.heap[p]? = some (.cells #[a, b, c, d] T (0, 0))) : (v.setCell ⟨p, 3, none⟩ u).heap[p]? = some (.cells #[a, b, c, u] T (0, 0)) := by
  simp [World.setCell, Array.getElem?_modify, h]

theorem gb4 (v : World) (g : Nat) (x y z u : Value) : v.grownBy ((((v.setCell ⟨g, 0, none⟩ x).setCell ⟨g, 1, none⟩ y).setCell ⟨g, 2, none⟩ z).setCell ⟨g, 3, none⟩ u) (some g) :=
  gb_set (gb_set (gb_set (gb_set (gb_refl v (some g)) 0 x) 1 y) 2 z) 3 u

theorem bel4 {B : Nat} {a w : World} {g : Nat} (h : Below B a w) (hg : B ≤ g) (x y z u : Value) : Below B a ((((w.setCell ⟨g, 0, none⟩ x).setCell ⟨g, 1, none⟩ y).setCell ⟨g, 2, none⟩ z).setCell ⟨g, 3, none⟩ u) :=
  (((h.setCell (p := ⟨g, 0, none⟩) hg x).setCell (p := ⟨g, 1, none⟩) hg y).setCell (p := ⟨g, 2, none⟩) hg z).setCell (p := ⟨g, 3, none⟩) hg u

theorem row_new (V : World) (g : Nat) (hg : V.heap.size = g) (e : TypeId) (n size : Nat) (cs : List Value) (hn : cs.length = n * size) (hm : n ≤ maxLen) : RowC (V.alloc (.cells cs.toArray e)).drew (some ⟨g, 0, none⟩) n size cs := by
  subst hg
  exact (OwnC.new e size V cs n hn hm).row

/-- What a walk answers, in memory. -/
def WalkAt (base : Nat) (w' : World) (e : Ending) (r : Int × Int × Int × List RecM) : Prop :=
  ∃ a cap, e = .returned (.agg #[.int .i64 r.1, .int .i64 r.2.1, .int .u64 r.2.2.1, .slice a r.2.2.2.length cap]) ∧ RowC w' a r.2.2.2.length 3 (recsC r.2.2.2) ∧
    (a = none → r.2.2.2.length = 0 ∧ cap = 0) ∧ (∀ q, a = some q → q.spot = none ∧ base ≤ q.block) ∧ r.2.2.2.length ≤ cap

theorem ppnM_bd (x : Int) : 0 ≤ ppnM x ∧ ppnM x < 17592186044416 := ⟨Int.emod_nonneg _ (by omega), Int.emod_lt_of_pos _ (by omega)⟩

theorem kindM_012 (p l : Int) : kindM p l = 0 ∨ kindM p l = 1 ∨ kindM p l = 2 := by
  unfold kindM
  split
  · exact .inl rfl
  · split
    · split
      · exact .inl rfl
      · exact .inr (.inl rfl)
    · split
      · exact .inl rfl
      · exact .inr (.inr rfl)

theorem kindM_zero (p : Int) : kindM p 0 ≠ 1 := by
  unfold kindM
  split
  · simp
  · split
    · simp
    · split <;> simp

theorem heap_keep {B : Nat} {w w' : World} {g : Nat} {o : Obj} (h : w.heap[g]? = some o) (hb : Below B w w') (hg : g < B) : w'.heap[g]? = some o := by rw [hb.block g hg, h]

set_option maxHeartbeats 1600000 in
/-- The entry lies outside. -/
theorem l3From_out (a : Option Addr) (len cap : Nat) (zs : List Int) (va lv n ix rv : Int) (w : World) (hl : len ≤ 1048576) (hc : len ≤ cap) (hm : cap ≤ 9223372036854775807) (hv0 : 0 ≤ va) (hv1 : va ≤ 18446744073709551615)
    (h0 : 0 ≤ lv) (h2 : lv ≤ 2) (hn0 : 0 ≤ n) (hn1 : n < 17592186044416) (hB : Byt w a len zs) (hix : Hid (idxM va lv = ix)) (hib : 0 ≤ ix ∧ ix ≤ 7) (hrv : Hid (rdV zs (64 * n + 8 * ix) 8 = rv)) (hrb : 0 ≤ rv ∧ rv ≤ 18446744073709551615)
    (hg : Hid (goodB len (64 * n + 8 * ix) 8 = false)) :
    Calls Try.prog 82 #[.slice a len cap, .int .u64 n, .int .i64 lv, .int .u64 va] w fun e w' => WalkAt w.heap.size w' e (3, lv, 0, []) ∧ Below w.heap.size w w' := by
  have hz := hB.1
  have H8 : Hid ((w.alloc (Obj.cells #[Value.int .i64 0, Value.int .i64 0, Value.int .u64 0, Value.slice none 0 0] 42)).heap[w.heap.size]? = some (.cells #[Value.int .i64 0, Value.int .i64 0, Value.int .u64 0, Value.slice none 0 0] 42 (0, 0))) := heap_alloc_new _ _
  have n1 := (Below.refl w.heap.size w).alloc (Nat.le_refl _) (Obj.cells #[Value.int .i64 0, Value.int .i64 0, Value.int .u64 0, Value.slice none 0 0] 42)
  have l1 : w.heap.size < (w.alloc (Obj.cells #[Value.int .i64 0, Value.int .i64 0, Value.int .u64 0, Value.slice none 0 0] 42)).heap.size := by simp
  go_enter Try.func82, Try.ntmps82
  go_wp2_with fail
  generalize w.alloc (Obj.cells #[Value.int .i64 0, Value.int .i64 0, Value.int .u64 0, Value.slice none 0 0] 42) = v1 at H8 n1 l1 ⊢
  refine (l3Index_at va lv v1 hv0 hv1 h0 h2).mono ?_
  rintro e w' ⟨rfl, nq, rfl⟩
  rw [hix.out]
  have n2 : Below w.heap.size w (v1.drewN nq) := below_drewN n1 nq
  have H9 : Hid ((v1.drewN nq).heap[w.heap.size]? = some (.cells #[Value.int .i64 0, Value.int .i64 0, Value.int .u64 0, Value.slice none 0 0] 42 (0, 0))) := H8
  have l2 : w.heap.size < (v1.drewN nq).heap.size := l1
  generalize v1.drewN nq = v2 at n2 H9 l2 ⊢
  clear H8 l1 n1
  go_wp2_with fail
  refine (specRead_any a len cap zs (64 * n + 8 * ix) 8 v2 (hB.keep n2) hl hc hm (by omega) (by omega) (by omega)).mono ?_
  rintro e v3 ⟨rfl, n3⟩
  rw [hrv.out, hg.out]
  have n13 := Below.step n2 n3 (Nat.le_refl _)
  have H10 : Hid (v3.heap[w.heap.size]? = some (.cells #[Value.int .i64 0, Value.int .i64 0, Value.int .u64 0, Value.slice none 0 0] 42 (0, 0))) := heap_keep H9.out n3 l2
  have l3 : w.heap.size < v3.heap.size := Nat.lt_of_lt_of_le l2 n3.size
  clear H9 n2 n3 l2
  obtain ⟨⟨d0, d1, d2, d3⟩, e0, e1, e2, e3⟩ := four_cells H10.out
  go_wp2_with fail
  refine bodyPost_ret (v := .agg #[.int .i64 3, .int .i64 lv, .int .u64 0, .slice none 0 0]) (by simp [results, Try.results82, go_sem, d0, d1, d2, d3, l3]) rfl ⟨⟨none, 0, rfl, RowC.nil _ _ _, fun _ => ⟨rfl, rfl⟩, (by intro q hq; cases hq), Nat.zero_le _⟩, ?_⟩
  exact (bel4 n13 (Nat.le_refl _) _ _ _ _).alloc (by simpa [World.setCell] using n13.size) _

set_option maxHeartbeats 1600000 in
/-- A bad entry. -/
theorem l3From_bad (a : Option Addr) (len cap : Nat) (zs : List Int) (va lv n ix rv : Int) (w : World) (hl : len ≤ 1048576) (hc : len ≤ cap) (hm : cap ≤ 9223372036854775807) (hv0 : 0 ≤ va) (hv1 : va ≤ 18446744073709551615)
    (h0 : 0 ≤ lv) (h2 : lv ≤ 2) (hn0 : 0 ≤ n) (hn1 : n < 17592186044416) (hB : Byt w a len zs) (hix : Hid (idxM va lv = ix)) (hib : 0 ≤ ix ∧ ix ≤ 7) (hrv : Hid (rdV zs (64 * n + 8 * ix) 8 = rv)) (hrb : 0 ≤ rv ∧ rv ≤ 18446744073709551615)
    (hg : Hid (goodB len (64 * n + 8 * ix) 8 = true)) (hk : Hid (kindM rv lv = 0)) :
    Calls Try.prog 82 #[.slice a len cap, .int .u64 n, .int .i64 lv, .int .u64 va] w fun e w' => WalkAt w.heap.size w' e (2, lv, 0, []) ∧ Below w.heap.size w w' := by
  have hz := hB.1
  have H8 : Hid ((w.alloc (Obj.cells #[Value.int .i64 0, Value.int .i64 0, Value.int .u64 0, Value.slice none 0 0] 42)).heap[w.heap.size]? = some (.cells #[Value.int .i64 0, Value.int .i64 0, Value.int .u64 0, Value.slice none 0 0] 42 (0, 0))) := heap_alloc_new _ _
  have n1 := (Below.refl w.heap.size w).alloc (Nat.le_refl _) (Obj.cells #[Value.int .i64 0, Value.int .i64 0, Value.int .u64 0, Value.slice none 0 0] 42)
  have l1 : w.heap.size < (w.alloc (Obj.cells #[Value.int .i64 0, Value.int .i64 0, Value.int .u64 0, Value.slice none 0 0] 42)).heap.size := by simp
  go_enter Try.func82, Try.ntmps82
  go_wp2_with fail
  generalize w.alloc (Obj.cells #[Value.int .i64 0, Value.int .i64 0, Value.int .u64 0, Value.slice none 0 0] 42) = v1 at H8 n1 l1 ⊢
  refine (l3Index_at va lv v1 hv0 hv1 h0 h2).mono ?_
  rintro e w' ⟨rfl, nq, rfl⟩
  rw [hix.out]
  have n2 : Below w.heap.size w (v1.drewN nq) := below_drewN n1 nq
  have H9 : Hid ((v1.drewN nq).heap[w.heap.size]? = some (.cells #[Value.int .i64 0, Value.int .i64 0, Value.int .u64 0, Value.slice none 0 0] 42 (0, 0))) := H8
  have l2 : w.heap.size < (v1.drewN nq).heap.size := l1
  generalize v1.drewN nq = v2 at n2 H9 l2 ⊢
  clear H8 l1 n1
  go_wp2_with fail
  refine (specRead_any a len cap zs (64 * n + 8 * ix) 8 v2 (hB.keep n2) hl hc hm (by omega) (by omega) (by omega)).mono ?_
  rintro e v3 ⟨rfl, n3⟩
  rw [hrv.out, hg.out]
  have n13 := Below.step n2 n3 (Nat.le_refl _)
  have H10 : Hid (v3.heap[w.heap.size]? = some (.cells #[Value.int .i64 0, Value.int .i64 0, Value.int .u64 0, Value.slice none 0 0] 42 (0, 0))) := heap_keep H9.out n3 l2
  have l3 : w.heap.size < v3.heap.size := Nat.lt_of_lt_of_le l2 n3.size
  clear H9 n2 n3 l2
  go_wp2_with fail
  have a4 := alloc_facts v3 #[Value.bool true, Value.int IntKind.u64 rv] 25
  generalize v3.alloc (Obj.cells #[Value.bool true, Value.int IntKind.u64 rv] 25) = v4 at a4 ⊢
  obtain ⟨l4, c4, n4⟩ := a4
  have c41 : v4.cell? ⟨v3.heap.size, 1, none⟩ = some (.int .u64 rv) := c4 1
  have n14 := Below.step n13 n4 (Nat.le_refl _)
  have H11 : Hid (v4.heap[w.heap.size]? = some (.cells #[Value.int .i64 0, Value.int .i64 0, Value.int .u64 0, Value.slice none 0 0] 42 (0, 0))) := heap_keep H10.out n4 l3
  clear c4 n13 n4 H10
  refine (specPteKind_at rv lv v4 hrb.1 hrb.2 (by omega) (by omega)).mono ?_
  rintro e w' ⟨rfl, nk, rfl⟩
  rw [hk.out]
  have n15 : Below w.heap.size w (v4.drewN nk) := below_drewN n14 nk
  have c51 : (v4.drewN nk).cell? ⟨v3.heap.size, 1, none⟩ = some (.int .u64 rv) := c41
  have H12 : Hid ((v4.drewN nk).heap[w.heap.size]? = some (.cells #[Value.int .i64 0, Value.int .i64 0, Value.int .u64 0, Value.slice none 0 0] 42 (0, 0))) := H11
  have l5 : v3.heap.size < (v4.drewN nk).heap.size := l4
  generalize v4.drewN nk = v5 at n15 c51 H12 l5 ⊢
  clear n14 c41 H11 l4
  obtain ⟨⟨d0, d1, d2, d3⟩, e0, e1, e2, e3⟩ := four_cells H12.out
  go_wp2_with fail
  refine bodyPost_ret (v := .agg #[.int .i64 2, .int .i64 lv, .int .u64 0, .slice none 0 0]) (by simp [results, Try.results82, go_sem, d0, d1, d2, d3]) rfl ⟨⟨none, 0, rfl, RowC.nil _ _ _, fun _ => ⟨rfl, rfl⟩, (by intro q hq; cases hq), Nat.zero_le _⟩, ?_⟩
  exact bel4 n15 (Nat.le_refl _) _ _ _ _

set_option maxHeartbeats 1600000 in
/-- A leaf. -/
theorem l3From_leaf (a : Option Addr) (len cap : Nat) (zs : List Int) (va lv n ix rv : Int) (w : World) (hl : len ≤ 1048576) (hc : len ≤ cap) (hm : cap ≤ 9223372036854775807) (hv0 : 0 ≤ va) (hv1 : va ≤ 18446744073709551615)
    (h0 : 0 ≤ lv) (h2 : lv ≤ 2) (hn0 : 0 ≤ n) (hn1 : n < 17592186044416) (hB : Byt w a len zs) (hix : Hid (idxM va lv = ix)) (hib : 0 ≤ ix ∧ ix ≤ 7) (hrv : Hid (rdV zs (64 * n + 8 * ix) 8 = rv)) (hrb : 0 ≤ rv ∧ rv ≤ 18446744073709551615)
    (hg : Hid (goodB len (64 * n + 8 * ix) 8 = true)) (hk : Hid (kindM rv lv = 2)) :
    Calls Try.prog 82 #[.slice a len cap, .int .u64 n, .int .i64 lv, .int .u64 va] w fun e w' => WalkAt w.heap.size w' e (1, lv, rv, [(lv, 64 * n + 8 * ix, rv)]) ∧ Below w.heap.size w w' := by
  have hz := hB.1
  have H8 : Hid ((w.alloc (Obj.cells #[Value.int .i64 0, Value.int .i64 0, Value.int .u64 0, Value.slice none 0 0] 42)).heap[w.heap.size]? = some (.cells #[Value.int .i64 0, Value.int .i64 0, Value.int .u64 0, Value.slice none 0 0] 42 (0, 0))) := heap_alloc_new _ _
  have n1 := (Below.refl w.heap.size w).alloc (Nat.le_refl _) (Obj.cells #[Value.int .i64 0, Value.int .i64 0, Value.int .u64 0, Value.slice none 0 0] 42)
  have l1 : w.heap.size < (w.alloc (Obj.cells #[Value.int .i64 0, Value.int .i64 0, Value.int .u64 0, Value.slice none 0 0] 42)).heap.size := by simp
  go_enter Try.func82, Try.ntmps82
  go_wp2_with fail
  generalize w.alloc (Obj.cells #[Value.int .i64 0, Value.int .i64 0, Value.int .u64 0, Value.slice none 0 0] 42) = v1 at H8 n1 l1 ⊢
  refine (l3Index_at va lv v1 hv0 hv1 h0 h2).mono ?_
  rintro e w' ⟨rfl, nq, rfl⟩
  rw [hix.out]
  have n2 : Below w.heap.size w (v1.drewN nq) := below_drewN n1 nq
  have H9 : Hid ((v1.drewN nq).heap[w.heap.size]? = some (.cells #[Value.int .i64 0, Value.int .i64 0, Value.int .u64 0, Value.slice none 0 0] 42 (0, 0))) := H8
  have l2 : w.heap.size < (v1.drewN nq).heap.size := l1
  generalize v1.drewN nq = v2 at n2 H9 l2 ⊢
  clear H8 l1 n1
  go_wp2_with fail
  refine (specRead_any a len cap zs (64 * n + 8 * ix) 8 v2 (hB.keep n2) hl hc hm (by omega) (by omega) (by omega)).mono ?_
  rintro e v3 ⟨rfl, n3⟩
  rw [hrv.out, hg.out]
  have n13 := Below.step n2 n3 (Nat.le_refl _)
  have H10 : Hid (v3.heap[w.heap.size]? = some (.cells #[Value.int .i64 0, Value.int .i64 0, Value.int .u64 0, Value.slice none 0 0] 42 (0, 0))) := heap_keep H9.out n3 l2
  have l3 : w.heap.size < v3.heap.size := Nat.lt_of_lt_of_le l2 n3.size
  clear H9 n2 n3 l2
  go_wp2_with fail
  have a4 := alloc_facts v3 #[Value.bool true, Value.int IntKind.u64 rv] 25
  generalize v3.alloc (Obj.cells #[Value.bool true, Value.int IntKind.u64 rv] 25) = v4 at a4 ⊢
  obtain ⟨l4, c4, n4⟩ := a4
  have c41 : v4.cell? ⟨v3.heap.size, 1, none⟩ = some (.int .u64 rv) := c4 1
  have n14 := Below.step n13 n4 (Nat.le_refl _)
  have H11 : Hid (v4.heap[w.heap.size]? = some (.cells #[Value.int .i64 0, Value.int .i64 0, Value.int .u64 0, Value.slice none 0 0] 42 (0, 0))) := heap_keep H10.out n4 l3
  clear c4 n13 n4 H10
  refine (specPteKind_at rv lv v4 hrb.1 hrb.2 (by omega) (by omega)).mono ?_
  rintro e w' ⟨rfl, nk, rfl⟩
  rw [hk.out]
  have n15 : Below w.heap.size w (v4.drewN nk) := below_drewN n14 nk
  have c51 : (v4.drewN nk).cell? ⟨v3.heap.size, 1, none⟩ = some (.int .u64 rv) := c41
  have H12 : Hid ((v4.drewN nk).heap[w.heap.size]? = some (.cells #[Value.int .i64 0, Value.int .i64 0, Value.int .u64 0, Value.slice none 0 0] 42 (0, 0))) := H11
  have l5 : v3.heap.size < (v4.drewN nk).heap.size := l4
  generalize v4.drewN nk = v5 at n15 c51 H12 l5 ⊢
  clear n14 c41 H11 l4
  obtain ⟨⟨d0, d1, d2, d3⟩, e0, e1, e2, e3⟩ := four_cells H12.out
  have l6 : w.heap.size < v5.heap.size := Nat.lt_trans l3 l5
  have ne1 : v5.heap.size ≠ v3.heap.size := by omega
  have ne2 : w.heap.size ≠ v3.heap.size := by omega
  have ne3 : v3.heap.size ≠ w.heap.size := by omega
  go_wp2_with fail
  go_region_held3 (fun w' => w'.cell? ⟨v3.heap.size, 1, none⟩ = some (.int .u64 rv)) (go_keep)
    (first | (go_at_call 123; refine (l3Rec_any _ _ _ _).mono ?_; rintro e w' ⟨rfl, rfl⟩))
  go_wp2_with fail
  refine bodyPost_ret (v := .agg #[.int .i64 1, .int .i64 lv, .int .u64 rv, .slice (some ⟨v5.heap.size, 0, none⟩) 1 1]) (by simp [results, Try.results82, go_sem, d0, d1, d2, d3, l6]) rfl
    ⟨⟨some ⟨v5.heap.size, 0, none⟩, 1, rfl, row_new _ _ (by simp [World.setCell]) _ 1 3 (recsC [(lv, 64 * n + 8 * ix, rv)]) (recsC_len _) (by decide), (by intro h; cases h), (by intro q hq; cases hq; exact ⟨rfl, Nat.le_of_lt l6⟩), Nat.le_refl _⟩, ?_⟩
  exact ((bel4 n15 (Nat.le_refl _) _ _ _ _).alloc (by simpa [World.setCell] using n15.size) _).drew

end Go.Proofs.Ythekickjjaleaab
