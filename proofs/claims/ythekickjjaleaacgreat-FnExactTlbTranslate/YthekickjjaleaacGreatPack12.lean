import Derived.Test.YthekickjjaleaacGreatPack11
import Derived.Test.YthekickjjaleaacGreatPack07
import Derived.Deep.RegionLaw
/- The specification's TlbTranslate. -/
namespace Go.Proofs.YthekickjjaleaacGreat
open Go.RowKit
set_option linter.unusedVariables false
attribute [local go_sem ↓] Go.wp_at_zero Go.wp_at_succ

/-- An answer of a translation with caches: its caches in rows of its own. -/
def TransOwn (base : Nat) (w : World) (v : Value) (r : (Int × Int) × KM) : Prop :=
  ∃ s1 s2 s3, v = .agg #[.int .i64 r.1.1, .int .u64 r.1.2, .int .i64 r.2.i.sets, .int .i64 r.2.i.ways, s1, .int .i64 r.2.d.sets, .int .i64 r.2.d.ways, s2, .int .i64 r.2.p.sets, .int .i64 r.2.p.ways, s3] ∧
    w.ownsRow base 101 6 s1 r.2.i.es.length (entsC r.2.i.es) ∧ w.ownsRow base 101 6 s2 r.2.d.es.length (entsC r.2.d.es) ∧ w.ownsRow base 101 6 s3 r.2.p.es.length (entsC r.2.p.es)

theorem eleven_cells {v : World} {p : Nat} {T : TypeId} {a b c d e f g h i j k : Value} (hh : v.heap[p]? = some (.cells #[a, b, c, d, e, f, g, h, i, j, k] T (0, 0))) :
    v.cell? ⟨p, 0, none⟩ = some a ∧ v.cell? ⟨p, 1, none⟩ = some b ∧ v.cell? ⟨p, 2, none⟩ = some c ∧ v.cell? ⟨p, 3, none⟩ = some d ∧ v.cell? ⟨p, 4, none⟩ = some e ∧ v.cell? ⟨p, 5, none⟩ = some f ∧ v.cell? ⟨p, 6, none⟩ = some g ∧ v.cell? ⟨p, 7, none⟩ = some h ∧ v.cell? ⟨p, 8, none⟩ = some i ∧ v.cell? ⟨p, 9, none⟩ = some j ∧ v.cell? ⟨p, 10, none⟩ = some k := by
  simp [World.cell?, hh]

theorem eleven_free {v : World} {p : Nat} {T : TypeId} {xs : Array Value} (hh : v.heap[p]? = some (.cells xs T (0, 0))) (i : Nat) : v.frozen? ⟨p, i, none⟩ = false := by
  simp [World.frozen?, hh]

theorem bel11 {B : Nat} {a w : World} {g : Nat} (h : Below B a w) (hg : B ≤ g) (x0 x1 x2 x3 x4 x5 x6 x7 x8 x9 x10 : Value) : Below B a (((((((((((w.setCell ⟨g, 0, none⟩ x0).setCell ⟨g, 1, none⟩ x1).setCell ⟨g, 2, none⟩ x2).setCell ⟨g, 3, none⟩ x3).setCell ⟨g, 4, none⟩ x4).setCell ⟨g, 5, none⟩ x5).setCell ⟨g, 6, none⟩ x6).setCell ⟨g, 7, none⟩ x7).setCell ⟨g, 8, none⟩ x8).setCell ⟨g, 9, none⟩ x9).setCell ⟨g, 10, none⟩ x10) :=
  (((((((((((h.setCell (p := ⟨g, 0, none⟩) hg x0).setCell (p := ⟨g, 1, none⟩) hg x1).setCell (p := ⟨g, 2, none⟩) hg x2).setCell (p := ⟨g, 3, none⟩) hg x3).setCell (p := ⟨g, 4, none⟩) hg x4).setCell (p := ⟨g, 5, none⟩) hg x5).setCell (p := ⟨g, 6, none⟩) hg x6).setCell (p := ⟨g, 7, none⟩) hg x7).setCell (p := ⟨g, 8, none⟩) hg x8).setCell (p := ⟨g, 9, none⟩) hg x9).setCell (p := ⟨g, 10, none⟩) hg x10)

theorem gb11 (w : World) (g : Nat) (x0 x1 x2 x3 x4 x5 x6 x7 x8 x9 x10 : Value) : w.grownBy (((((((((((w.setCell ⟨g, 0, none⟩ x0).setCell ⟨g, 1, none⟩ x1).setCell ⟨g, 2, none⟩ x2).setCell ⟨g, 3, none⟩ x3).setCell ⟨g, 4, none⟩ x4).setCell ⟨g, 5, none⟩ x5).setCell ⟨g, 6, none⟩ x6).setCell ⟨g, 7, none⟩ x7).setCell ⟨g, 8, none⟩ x8).setCell ⟨g, 9, none⟩ x9).setCell ⟨g, 10, none⟩ x10) (some g) :=
  (gb_set (gb_set (gb_set (gb_set (gb_set (gb_set (gb_set (gb_set (gb_set (gb_set (gb_set (gb_refl w (some g)) 0 x0) 1 x1) 2 x2) 3 x3) 4 x4) 5 x5) 6 x6) 7 x7) 8 x8) 9 x9) 10 x10)

theorem own_zero (base : Nat) (w : World) : w.ownsRow base 101 6 (.slice none 0 0) 0 [] := ⟨rfl, .inl ⟨rfl, rfl⟩⟩

set_option maxRecDepth 20000 in
set_option maxHeartbeats 1600000 in
theorem specTrans_bad (a : Option Addr) (len cap : Nat) (mode : Int) (sum mxr : Bool) (satp : Int) (v : Value) (k : KM) (kind va pick : Int) (w : World) (h : KAt w v k)
    (hbad : goodKM k = false ∨ kind < 0 ∨ 2 < kind ∨ mode < 0 ∨ 2 < mode ∨ pick < 0 ∨ 255 < pick) :
    Calls Tryz.prog 8 #[.slice a len cap, ctxV mode sum mxr satp, v, .int .i64 kind, .int .u64 va, .int .i64 pick] w fun e w' => (∃ x, e = .returned x ∧ TransOwn w.heap.size w' x ((63, 0), k0M)) ∧ Below w.heap.size w w' := by
  have HK : Hid (∀ u, Below w.heap.size w u → Calls Tryz.prog 38 #[v] u fun e w' => e = .returned (.bool (goodKM k)) ∧ Below u.heap.size u w') := fun u hu => l4GoodCaches_any v k u (h.keep hu)
  obtain ⟨a1, c1, a2, c2, a3, c3, rfl, _⟩ := h
  obtain ⟨q, hq⟩ : ∃ q, goodKM k = q := ⟨_, rfl⟩
  rw [hq] at hbad HK
  clear hq
  have n1 : Below w.heap.size w (((w.alloc (Obj.cells #[.int .i64 mode, .bool sum, .bool mxr, .int .u64 satp] 41)).alloc (Obj.cells #[.int .i64 k.i.sets, .int .i64 k.i.ways, .slice a1 k.i.es.length c1, .int .i64 k.d.sets, .int .i64 k.d.ways, .slice a2 k.d.es.length c2, .int .i64 k.p.sets, .int .i64 k.p.ways, .slice a3 k.p.es.length c3] 36)).alloc (Obj.cells #[.int .i64 0, .int .u64 0, .int .i64 0, .int .i64 0, .slice none 0 0, .int .i64 0, .int .i64 0, .slice none 0 0, .int .i64 0, .int .i64 0, .slice none 0 0] 38)) := (((Below.refl w.heap.size w).alloc (Nat.le_refl _) _).alloc (by simp) _).alloc (by simp; omega) _
  have H1 : Hid ((((w.alloc (Obj.cells #[.int .i64 mode, .bool sum, .bool mxr, .int .u64 satp] 41)).alloc (Obj.cells #[.int .i64 k.i.sets, .int .i64 k.i.ways, .slice a1 k.i.es.length c1, .int .i64 k.d.sets, .int .i64 k.d.ways, .slice a2 k.d.es.length c2, .int .i64 k.p.sets, .int .i64 k.p.ways, .slice a3 k.p.es.length c3] 36)).alloc (Obj.cells #[.int .i64 0, .int .u64 0, .int .i64 0, .int .i64 0, .slice none 0 0, .int .i64 0, .int .i64 0, .slice none 0 0, .int .i64 0, .int .i64 0, .slice none 0 0] 38)).heap[w.heap.size]? = some (.cells #[.int .i64 mode, .bool sum, .bool mxr, .int .u64 satp] 41 (0, 0))) := by
    show _ = _
    rw [heap_alloc_old _ _ (by simp; omega), heap_alloc_old _ _ (by simp)]
    exact heap_alloc_new w _
  have H2 : Hid ((((w.alloc (Obj.cells #[.int .i64 mode, .bool sum, .bool mxr, .int .u64 satp] 41)).alloc (Obj.cells #[.int .i64 k.i.sets, .int .i64 k.i.ways, .slice a1 k.i.es.length c1, .int .i64 k.d.sets, .int .i64 k.d.ways, .slice a2 k.d.es.length c2, .int .i64 k.p.sets, .int .i64 k.p.ways, .slice a3 k.p.es.length c3] 36)).alloc (Obj.cells #[.int .i64 0, .int .u64 0, .int .i64 0, .int .i64 0, .slice none 0 0, .int .i64 0, .int .i64 0, .slice none 0 0, .int .i64 0, .int .i64 0, .slice none 0 0] 38)).heap[w.heap.size + 1]? = some (.cells #[.int .i64 k.i.sets, .int .i64 k.i.ways, .slice a1 k.i.es.length c1, .int .i64 k.d.sets, .int .i64 k.d.ways, .slice a2 k.d.es.length c2, .int .i64 k.p.sets, .int .i64 k.p.ways, .slice a3 k.p.es.length c3] 36 (0, 0))) := by
    show _ = _
    rw [heap_alloc_old _ _ (by simp)]
    have := heap_alloc_new (w.alloc (Obj.cells #[.int .i64 mode, .bool sum, .bool mxr, .int .u64 satp] 41)) (Obj.cells #[.int .i64 k.i.sets, .int .i64 k.i.ways, .slice a1 k.i.es.length c1, .int .i64 k.d.sets, .int .i64 k.d.ways, .slice a2 k.d.es.length c2, .int .i64 k.p.sets, .int .i64 k.p.ways, .slice a3 k.p.es.length c3] 36)
    simp only [World.size_alloc] at this
    exact this
  have H3 : Hid ((((w.alloc (Obj.cells #[.int .i64 mode, .bool sum, .bool mxr, .int .u64 satp] 41)).alloc (Obj.cells #[.int .i64 k.i.sets, .int .i64 k.i.ways, .slice a1 k.i.es.length c1, .int .i64 k.d.sets, .int .i64 k.d.ways, .slice a2 k.d.es.length c2, .int .i64 k.p.sets, .int .i64 k.p.ways, .slice a3 k.p.es.length c3] 36)).alloc (Obj.cells #[.int .i64 0, .int .u64 0, .int .i64 0, .int .i64 0, .slice none 0 0, .int .i64 0, .int .i64 0, .slice none 0 0, .int .i64 0, .int .i64 0, .slice none 0 0] 38)).heap[w.heap.size + 1 + 1]? = some (.cells #[.int .i64 0, .int .u64 0, .int .i64 0, .int .i64 0, .slice none 0 0, .int .i64 0, .int .i64 0, .slice none 0 0, .int .i64 0, .int .i64 0, .slice none 0 0] 38 (0, 0))) := by
    have := heap_alloc_new ((w.alloc (Obj.cells #[.int .i64 mode, .bool sum, .bool mxr, .int .u64 satp] 41)).alloc (Obj.cells #[.int .i64 k.i.sets, .int .i64 k.i.ways, .slice a1 k.i.es.length c1, .int .i64 k.d.sets, .int .i64 k.d.ways, .slice a2 k.d.es.length c2, .int .i64 k.p.sets, .int .i64 k.p.ways, .slice a3 k.p.es.length c3] 36)) (Obj.cells #[.int .i64 0, .int .u64 0, .int .i64 0, .int .i64 0, .slice none 0 0, .int .i64 0, .int .i64 0, .slice none 0 0, .int .i64 0, .int .i64 0, .slice none 0 0] 38)
    simp only [World.size_alloc] at this
    exact this
  have l1 : w.heap.size + 1 + 1 < (((w.alloc (Obj.cells #[.int .i64 mode, .bool sum, .bool mxr, .int .u64 satp] 41)).alloc (Obj.cells #[.int .i64 k.i.sets, .int .i64 k.i.ways, .slice a1 k.i.es.length c1, .int .i64 k.d.sets, .int .i64 k.d.ways, .slice a2 k.d.es.length c2, .int .i64 k.p.sets, .int .i64 k.p.ways, .slice a3 k.p.es.length c3] 36)).alloc (Obj.cells #[.int .i64 0, .int .u64 0, .int .i64 0, .int .i64 0, .slice none 0 0, .int .i64 0, .int .i64 0, .slice none 0 0, .int .i64 0, .int .i64 0, .slice none 0 0] 38)).heap.size := by simp
  unfold ctxV
  rcases (show q = false ∨ (q = true ∧ kind < 0) ∨ (q = true ∧ 0 ≤ kind ∧ 2 < kind) ∨ (q = true ∧ 0 ≤ kind ∧ kind ≤ 2 ∧ mode < 0) ∨ (q = true ∧ 0 ≤ kind ∧ kind ≤ 2 ∧ 0 ≤ mode ∧ 2 < mode) ∨ (q = true ∧ 0 ≤ kind ∧ kind ≤ 2 ∧ 0 ≤ mode ∧ mode ≤ 2 ∧ pick < 0) ∨ (q = true ∧ 0 ≤ kind ∧ kind ≤ 2 ∧ 0 ≤ mode ∧ mode ≤ 2 ∧ 0 ≤ pick ∧ 255 < pick) by cases q <;> simp at hbad ⊢ <;> omega) with rfl | ⟨rfl, h0⟩ | ⟨rfl, h0, h1⟩ | ⟨rfl, h0, h1, h2⟩ | ⟨rfl, h0, h1, h2, h3⟩ | ⟨rfl, h0, h1, h2, h3, h4⟩ | ⟨rfl, h0, h1, h2, h3, h4, h5⟩
  all_goals
    clear hbad
    go_enter Tryz.func8, Tryz.ntmps8
    go_wp2_with fail
    generalize (((w.alloc (Obj.cells #[.int .i64 mode, .bool sum, .bool mxr, .int .u64 satp] 41)).alloc (Obj.cells #[.int .i64 k.i.sets, .int .i64 k.i.ways, .slice a1 k.i.es.length c1, .int .i64 k.d.sets, .int .i64 k.d.ways, .slice a2 k.d.es.length c2, .int .i64 k.p.sets, .int .i64 k.p.ways, .slice a3 k.p.es.length c3] 36)).alloc (Obj.cells #[.int .i64 0, .int .u64 0, .int .i64 0, .int .i64 0, .slice none 0 0, .int .i64 0, .int .i64 0, .slice none 0 0, .int .i64 0, .int .i64 0, .slice none 0 0] 38)) = v1 at n1 H1 H2 H3 l1 ⊢
    refine (HK.out v1 n1).mono ?_
    rintro e v2 ⟨rfl, n2⟩
    have G3 : Hid _ := heap_keep H3.out n2 l1
    have l2 := n2.size
    obtain ⟨d0, d1, d2, d3⟩ := four_cells (heap_keep H1.out n2 (by omega))
    obtain ⟨j0, j1, j2, j3, j4, j5, j6, j7, j8, j9, j10⟩ := eleven_cells G3.out
    have ff := eleven_free G3.out
    have f0 := ff 0; have f1 := ff 1; have f2 := ff 2; have f3 := ff 3; have f4 := ff 4; have f5 := ff 5; have f6 := ff 6; have f7 := ff 7; have f8 := ff 8; have f9 := ff 9; have f10 := ff 10
    clear ff
    go_wp2_with fail
    refine bodyPost_ret (v := .agg #[.int .i64 63, .int .u64 0, .int .i64 0, .int .i64 0, .slice none 0 0, .int .i64 0, .int .i64 0, .slice none 0 0, .int .i64 0, .int .i64 0, .slice none 0 0]) (by simp [results, Tryz.results8, go_sem, j0, j1, j2, j3, j4, j5, j6, j7, j8, j9, j10]) rfl
      ⟨⟨_, rfl, .slice none 0 0, .slice none 0 0, .slice none 0 0, rfl, own_zero _ _, own_zero _ _, own_zero _ _⟩, bel11 (Below.step n1 n2 (Nat.le_refl _)) (by omega) _ _ _ _ _ _ _ _ _ _ _⟩

end Go.Proofs.YthekickjjaleaacGreat

/- The specification's TlbTranslate, behind the guards. -/
namespace Go.Proofs.YthekickjjaleaacGreat
open Go.RowKit
set_option linter.unusedVariables false
attribute [local go_sem ↓] Go.wp_at_zero Go.wp_at_succ

theorem own_gbn {e : TypeId} {size : Nat} {w w' : World} {base n g cap r : Nat} {cs : List Value} (h : w.ownsRow base e size (.slice (some ⟨g, 0, none⟩) n cap) n cs) (hg : w.grownBy w' (some r)) (hr : g ≠ r) : w'.ownsRow base e size (.slice (some ⟨g, 0, none⟩) n cap) n cs := by
  refine h.kept hg (.inr ?_)
  simp [Value.ownBlock]
  omega

set_option maxRecDepth 20000 in
set_option maxHeartbeats 1600000 in
theorem specTrans_off (a : Option Addr) (len cap : Nat) (mode : Int) (sum mxr : Bool) (satp : Int) (v : Value) (k : KM) (kind va pick : Int) (w : World) (h : KAt w v k)
    (hgood : goodKM k = true) (h0 : 0 ≤ kind) (h1 : kind ≤ 2) (h2 : 0 ≤ mode) (h3 : mode ≤ 2) (h4 : 0 ≤ pick) (h5 : pick ≤ 255) (hs0 : 0 ≤ satp) (hs1 : satp ≤ 18446744073709551615) (hon : onM mode satp = false) :
    Calls Tryz.prog 8 #[.slice a len cap, ctxV mode sum mxr satp, v, .int .i64 kind, .int .u64 va, .int .i64 pick] w fun e w' => (∃ x, e = .returned x ∧ TransOwn w.heap.size w' x ((0, va), k)) ∧ Below w.heap.size w w' := by
  have HK : Hid (∀ u, Below w.heap.size w u → Calls Tryz.prog 38 #[v] u fun e w' => e = .returned (.bool (goodKM k)) ∧ Below u.heap.size u w') := fun u hu => l4GoodCaches_any v k u (h.keep hu)
  have HL : Hid (∀ u, Below w.heap.size w u → Calls Tryz.prog 39 #[v] u fun e w' => (∃ x, e = .returned x ∧ KOwn u.heap.size w' x k) ∧ Below u.heap.size u w') := fun u hu => l4Caches_any v k u (h.keep hu)
  have HO : Hid (∀ u, Calls Tryz.prog 40 #[ctxV mode sum mxr satp] u fun e w' => e = .returned (.bool false) ∧ Below u.heap.size u w') := fun u => by have := l3On_at mode sum mxr satp u hs0 hs1; rw [hon] at this; exact this
  obtain ⟨a1, c1, a2, c2, a3, c3, rfl, _⟩ := h
  rw [hgood] at HK
  clear hgood hon
  have n1 : Below w.heap.size w (((w.alloc (Obj.cells #[.int .i64 mode, .bool sum, .bool mxr, .int .u64 satp] 41)).alloc (Obj.cells #[.int .i64 k.i.sets, .int .i64 k.i.ways, .slice a1 k.i.es.length c1, .int .i64 k.d.sets, .int .i64 k.d.ways, .slice a2 k.d.es.length c2, .int .i64 k.p.sets, .int .i64 k.p.ways, .slice a3 k.p.es.length c3] 36)).alloc (Obj.cells #[.int .i64 0, .int .u64 0, .int .i64 0, .int .i64 0, .slice none 0 0, .int .i64 0, .int .i64 0, .slice none 0 0, .int .i64 0, .int .i64 0, .slice none 0 0] 38)) := (((Below.refl w.heap.size w).alloc (Nat.le_refl _) _).alloc (by simp) _).alloc (by simp; omega) _
  have H1 : Hid ((((w.alloc (Obj.cells #[.int .i64 mode, .bool sum, .bool mxr, .int .u64 satp] 41)).alloc (Obj.cells #[.int .i64 k.i.sets, .int .i64 k.i.ways, .slice a1 k.i.es.length c1, .int .i64 k.d.sets, .int .i64 k.d.ways, .slice a2 k.d.es.length c2, .int .i64 k.p.sets, .int .i64 k.p.ways, .slice a3 k.p.es.length c3] 36)).alloc (Obj.cells #[.int .i64 0, .int .u64 0, .int .i64 0, .int .i64 0, .slice none 0 0, .int .i64 0, .int .i64 0, .slice none 0 0, .int .i64 0, .int .i64 0, .slice none 0 0] 38)).heap[w.heap.size]? = some (.cells #[.int .i64 mode, .bool sum, .bool mxr, .int .u64 satp] 41 (0, 0))) := by
    show _ = _
    rw [heap_alloc_old _ _ (by simp; omega), heap_alloc_old _ _ (by simp)]
    exact heap_alloc_new w _
  have H2 : Hid ((((w.alloc (Obj.cells #[.int .i64 mode, .bool sum, .bool mxr, .int .u64 satp] 41)).alloc (Obj.cells #[.int .i64 k.i.sets, .int .i64 k.i.ways, .slice a1 k.i.es.length c1, .int .i64 k.d.sets, .int .i64 k.d.ways, .slice a2 k.d.es.length c2, .int .i64 k.p.sets, .int .i64 k.p.ways, .slice a3 k.p.es.length c3] 36)).alloc (Obj.cells #[.int .i64 0, .int .u64 0, .int .i64 0, .int .i64 0, .slice none 0 0, .int .i64 0, .int .i64 0, .slice none 0 0, .int .i64 0, .int .i64 0, .slice none 0 0] 38)).heap[w.heap.size + 1]? = some (.cells #[.int .i64 k.i.sets, .int .i64 k.i.ways, .slice a1 k.i.es.length c1, .int .i64 k.d.sets, .int .i64 k.d.ways, .slice a2 k.d.es.length c2, .int .i64 k.p.sets, .int .i64 k.p.ways, .slice a3 k.p.es.length c3] 36 (0, 0))) := by
    show _ = _
    rw [heap_alloc_old _ _ (by simp)]
    have := heap_alloc_new (w.alloc (Obj.cells #[.int .i64 mode, .bool sum, .bool mxr, .int .u64 satp] 41)) (Obj.cells #[.int .i64 k.i.sets, .int .i64 k.i.ways, .slice a1 k.i.es.length c1, .int .i64 k.d.sets, .int .i64 k.d.ways, .slice a2 k.d.es.length c2, .int .i64 k.p.sets, .int .i64 k.p.ways, .slice a3 k.p.es.length c3] 36)
    simp only [World.size_alloc] at this
    exact this
  have H3 : Hid ((((w.alloc (Obj.cells #[.int .i64 mode, .bool sum, .bool mxr, .int .u64 satp] 41)).alloc (Obj.cells #[.int .i64 k.i.sets, .int .i64 k.i.ways, .slice a1 k.i.es.length c1, .int .i64 k.d.sets, .int .i64 k.d.ways, .slice a2 k.d.es.length c2, .int .i64 k.p.sets, .int .i64 k.p.ways, .slice a3 k.p.es.length c3] 36)).alloc (Obj.cells #[.int .i64 0, .int .u64 0, .int .i64 0, .int .i64 0, .slice none 0 0, .int .i64 0, .int .i64 0, .slice none 0 0, .int .i64 0, .int .i64 0, .slice none 0 0] 38)).heap[w.heap.size + 1 + 1]? = some (.cells #[.int .i64 0, .int .u64 0, .int .i64 0, .int .i64 0, .slice none 0 0, .int .i64 0, .int .i64 0, .slice none 0 0, .int .i64 0, .int .i64 0, .slice none 0 0] 38 (0, 0))) := by
    have := heap_alloc_new ((w.alloc (Obj.cells #[.int .i64 mode, .bool sum, .bool mxr, .int .u64 satp] 41)).alloc (Obj.cells #[.int .i64 k.i.sets, .int .i64 k.i.ways, .slice a1 k.i.es.length c1, .int .i64 k.d.sets, .int .i64 k.d.ways, .slice a2 k.d.es.length c2, .int .i64 k.p.sets, .int .i64 k.p.ways, .slice a3 k.p.es.length c3] 36)) (Obj.cells #[.int .i64 0, .int .u64 0, .int .i64 0, .int .i64 0, .slice none 0 0, .int .i64 0, .int .i64 0, .slice none 0 0, .int .i64 0, .int .i64 0, .slice none 0 0] 38)
    simp only [World.size_alloc] at this
    exact this
  have l1 : w.heap.size + 1 + 1 < (((w.alloc (Obj.cells #[.int .i64 mode, .bool sum, .bool mxr, .int .u64 satp] 41)).alloc (Obj.cells #[.int .i64 k.i.sets, .int .i64 k.i.ways, .slice a1 k.i.es.length c1, .int .i64 k.d.sets, .int .i64 k.d.ways, .slice a2 k.d.es.length c2, .int .i64 k.p.sets, .int .i64 k.p.ways, .slice a3 k.p.es.length c3] 36)).alloc (Obj.cells #[.int .i64 0, .int .u64 0, .int .i64 0, .int .i64 0, .slice none 0 0, .int .i64 0, .int .i64 0, .slice none 0 0, .int .i64 0, .int .i64 0, .slice none 0 0] 38)).heap.size := by simp
  unfold ctxV at HO ⊢
  go_enter Tryz.func8, Tryz.ntmps8
  go_upto_region 1 with fail
  generalize (((w.alloc (Obj.cells #[.int .i64 mode, .bool sum, .bool mxr, .int .u64 satp] 41)).alloc (Obj.cells #[.int .i64 k.i.sets, .int .i64 k.i.ways, .slice a1 k.i.es.length c1, .int .i64 k.d.sets, .int .i64 k.d.ways, .slice a2 k.d.es.length c2, .int .i64 k.p.sets, .int .i64 k.p.ways, .slice a3 k.p.es.length c3] 36)).alloc (Obj.cells #[.int .i64 0, .int .u64 0, .int .i64 0, .int .i64 0, .slice none 0 0, .int .i64 0, .int .i64 0, .slice none 0 0, .int .i64 0, .int .i64 0, .slice none 0 0] 38)) = v1 at n1 H1 H2 H3 l1 ⊢
  obtain ⟨⟨d0, d1, d2, d3⟩, _⟩ := four_cells H1.out
  obtain ⟨b0, b1, b2, b3, b4, b5, b6, b7, b8⟩ := nine_cells H2.out
  go_cut [49] (fun s49 wx => s49 = .bool false ∧ Below v1.heap.size v1 wx)
  case first =>
    go_wp2_with fail
    refine (HK.out v1 n1).mono ?_
    rintro e v2 ⟨rfl, n2⟩
    obtain ⟨⟨d0, d1, d2, d3⟩, _⟩ := four_cells (hid_keep H1 n2).out
    go_wp2_with fail
    go_meet
    refine ⟨?_, n2⟩
    simp
    omega
  obtain ⟨rfl, n2⟩ := hcut
  generalize wc = v2 at n2 ⊢
  have l2 := n2.size
  have n12 := Below.step n1 n2 (Nat.le_refl _)
  have K1 := hid_keep H1 n2
  have K2 := hid_keep H2 n2
  have K3 := hid_keep H3 n2
  clear d0 d1 d2 d3 b0 b1 b2 b3 b4 b5 b6 b7 b8
  obtain ⟨⟨d0, d1, d2, d3⟩, _⟩ := four_cells K1.out
  obtain ⟨b0, b1, b2, b3, b4, b5, b6, b7, b8⟩ := nine_cells K2.out
  have s0 : w.heap.size + 1 + 1 < v2.heap.size := by omega
  clear n1 n2 H1 H2 H3
  go_wp2_with fail
  refine (HL.out v2 n12).mono ?_
  rintro e v3 ⟨⟨x, rfl, g1, e1, g2, e2, g3, e3, rfl, o1, o2, o3⟩, n3⟩
  have l3 := n3.size
  have n13 := Below.step n12 n3 (Nat.le_refl _)
  have P1 := hid_keep K1 n3
  have P2 := hid_keep K2 n3
  have P3 := hid_keep K3 n3
  have O1 : Hid _ := o1
  have O2 : Hid _ := o2
  have O3 : Hid _ := o3
  clear o1 o2 o3 n12 n3 K1 K2 K3 d0 d1 d2 d3 b0 b1 b2 b3 b4 b5 b6 b7 b8
  obtain ⟨⟨d0, d1, d2, d3⟩, _⟩ := four_cells P1.out
  have t0 : w.heap.size < v3.heap.size := by omega
  have t1 : w.heap.size + 1 < v3.heap.size := by omega
  have t2 : w.heap.size + 1 + 1 < v3.heap.size := by omega
  go_wp2_with fail
  have n4 := (Below.refl v3.heap.size v3).alloc (Nat.le_refl _) (Obj.cells #[.int .i64 0, .int .u64 0, .int .i64 k.i.sets, .int .i64 k.i.ways, .slice (some ⟨g1, 0, none⟩) k.i.es.length e1, .int .i64 k.d.sets, .int .i64 k.d.ways, .slice (some ⟨g2, 0, none⟩) k.d.es.length e2, .int .i64 k.p.sets, .int .i64 k.p.ways, .slice (some ⟨g3, 0, none⟩) k.p.es.length e3] 38)
  have H4 : Hid ((v3.alloc (Obj.cells #[.int .i64 0, .int .u64 0, .int .i64 k.i.sets, .int .i64 k.i.ways, .slice (some ⟨g1, 0, none⟩) k.i.es.length e1, .int .i64 k.d.sets, .int .i64 k.d.ways, .slice (some ⟨g2, 0, none⟩) k.d.es.length e2, .int .i64 k.p.sets, .int .i64 k.p.ways, .slice (some ⟨g3, 0, none⟩) k.p.es.length e3] 38)).heap[v3.heap.size]? = some (.cells #[.int .i64 0, .int .u64 0, .int .i64 k.i.sets, .int .i64 k.i.ways, .slice (some ⟨g1, 0, none⟩) k.i.es.length e1, .int .i64 k.d.sets, .int .i64 k.d.ways, .slice (some ⟨g2, 0, none⟩) k.d.es.length e2, .int .i64 k.p.sets, .int .i64 k.p.ways, .slice (some ⟨g3, 0, none⟩) k.p.es.length e3] 38 (0, 0))) := heap_alloc_new v3 _
  have l4 : v3.heap.size < (v3.alloc (Obj.cells #[.int .i64 0, .int .u64 0, .int .i64 k.i.sets, .int .i64 k.i.ways, .slice (some ⟨g1, 0, none⟩) k.i.es.length e1, .int .i64 k.d.sets, .int .i64 k.d.ways, .slice (some ⟨g2, 0, none⟩) k.d.es.length e2, .int .i64 k.p.sets, .int .i64 k.p.ways, .slice (some ⟨g3, 0, none⟩) k.p.es.length e3] 38)).heap.size := by simp
  generalize v3.alloc (Obj.cells #[.int .i64 0, .int .u64 0, .int .i64 k.i.sets, .int .i64 k.i.ways, .slice (some ⟨g1, 0, none⟩) k.i.es.length e1, .int .i64 k.d.sets, .int .i64 k.d.ways, .slice (some ⟨g2, 0, none⟩) k.d.es.length e2, .int .i64 k.p.sets, .int .i64 k.p.ways, .slice (some ⟨g3, 0, none⟩) k.p.es.length e3] 38) = v4 at n4 H4 l4 ⊢
  refine (HO.out v4).mono ?_
  rintro e v5 ⟨rfl, n5⟩
  have l5 := n5.size
  have n45 := Below.step n4 n5 (Nat.le_refl _)
  have n15 := Below.step n13 n45 (Nat.le_refl _)
  have Q3 := hid_keep P3 n45
  have Q4 := hid_keep H4 n5
  have U1 := own_below O1.out n45
  have U2 := own_below O2.out n45
  have U3 := own_below O3.out n45
  have a1' := own_at O1.out
  have a2' := own_at O2.out
  have a3' := own_at O3.out
  have V1 : Hid _ := U1
  have V2 : Hid _ := U2
  have V3 : Hid _ := U3
  have A1 : Hid _ := a1'
  have A2 : Hid _ := a2'
  have A3 : Hid _ := a3'
  clear U1 U2 U3 a1' a2' a3' O1 O2 O3 n4 n5 P1 P2 P3 H4
  obtain ⟨j0, j1, j2, j3, j4, j5, j6, j7, j8, j9, j10⟩ := eleven_cells Q3.out
  obtain ⟨m0, m1, m2, m3, m4, m5, m6, m7, m8, m9, m10⟩ := eleven_cells Q4.out
  have ff := eleven_free Q3.out
  have f0 := ff 0; have f1 := ff 1; have f2 := ff 2; have f3 := ff 3; have f4 := ff 4; have f5 := ff 5; have f6 := ff 6; have f7 := ff 7; have f8 := ff 8; have f9 := ff 9; have f10 := ff 10
  have gg := eleven_free Q4.out
  have g0' := gg 0; have g1' := gg 1
  clear ff gg
  have ne1 : v3.heap.size ≠ w.heap.size + 1 + 1 := by omega
  have ne2 : w.heap.size + 1 + 1 ≠ v3.heap.size := by omega
  go_wp2_with fail
  obtain ⟨_, z1, z1'⟩ := A1.out
  obtain ⟨_, z2, z2'⟩ := A2.out
  obtain ⟨_, z3, z3'⟩ := A3.out
  have gO := gb_set (gb_refl v5 (some v3.heap.size)) 1 (Value.int .u64 va)
  refine bodyPost_ret (v := .agg #[.int .i64 0, .int .u64 va, .int .i64 k.i.sets, .int .i64 k.i.ways, .slice (some ⟨g1, 0, none⟩) k.i.es.length e1, .int .i64 k.d.sets, .int .i64 k.d.ways, .slice (some ⟨g2, 0, none⟩) k.d.es.length e2, .int .i64 k.p.sets, .int .i64 k.p.ways, .slice (some ⟨g3, 0, none⟩) k.p.es.length e3]) (by simp [results, Tryz.results8, go_sem, j0, j1, j2, j3, j4, j5, j6, j7, j8, j9, j10]) rfl
    ⟨⟨_, rfl, _, _, _, rfl, own_low (own_gbn (own_gbn V1.out gO (by omega)) (gb11 _ (w.heap.size + 1 + 1) _ _ _ _ _ _ _ _ _ _ _) (by omega)) (by omega), own_low (own_gbn (own_gbn V2.out gO (by omega)) (gb11 _ (w.heap.size + 1 + 1) _ _ _ _ _ _ _ _ _ _ _) (by omega)) (by omega), own_low (own_gbn (own_gbn V3.out gO (by omega)) (gb11 _ (w.heap.size + 1 + 1) _ _ _ _ _ _ _ _ _ _ _) (by omega)) (by omega)⟩, bel11 (n15.setCell (p := ⟨v3.heap.size, 1, none⟩) (by simp only; omega) _) (by omega) _ _ _ _ _ _ _ _ _ _ _⟩

end Go.Proofs.YthekickjjaleaacGreat

/- Three caches of one's own, apart from each other. -/
namespace Go.Proofs.YthekickjjaleaacGreat
open Go.RowKit
set_option linter.unusedVariables false

/-- No block of the one is a block of the other. -/
def rowsApart (s t : Value) : Prop := ∀ g, s.ownBlock = some g → t.ownBlock ≠ some g

def KSep (base : Nat) (w : World) (v : Value) (k : KM) : Prop :=
  ∃ g1 c1 g2 c2 g3 c3, v = .agg #[.int .i64 k.i.sets, .int .i64 k.i.ways, .slice (some ⟨g1, 0, none⟩) k.i.es.length c1, .int .i64 k.d.sets, .int .i64 k.d.ways, .slice (some ⟨g2, 0, none⟩) k.d.es.length c2, .int .i64 k.p.sets, .int .i64 k.p.ways, .slice (some ⟨g3, 0, none⟩) k.p.es.length c3] ∧
    w.ownsRow base 101 6 (.slice (some ⟨g1, 0, none⟩) k.i.es.length c1) k.i.es.length (entsC k.i.es) ∧ w.ownsRow base 101 6 (.slice (some ⟨g2, 0, none⟩) k.d.es.length c2) k.d.es.length (entsC k.d.es) ∧ w.ownsRow base 101 6 (.slice (some ⟨g3, 0, none⟩) k.p.es.length c3) k.p.es.length (entsC k.p.es) ∧
    g1 ≠ g2 ∧ g1 ≠ g3 ∧ g2 ≠ g3

def TransSep (base : Nat) (w : World) (v : Value) (r : (Int × Int) × KM) : Prop :=
  ∃ s1 s2 s3, v = .agg #[.int .i64 r.1.1, .int .u64 r.1.2, .int .i64 r.2.i.sets, .int .i64 r.2.i.ways, s1, .int .i64 r.2.d.sets, .int .i64 r.2.d.ways, s2, .int .i64 r.2.p.sets, .int .i64 r.2.p.ways, s3] ∧
    w.ownsRow base 101 6 s1 r.2.i.es.length (entsC r.2.i.es) ∧ w.ownsRow base 101 6 s2 r.2.d.es.length (entsC r.2.d.es) ∧ w.ownsRow base 101 6 s3 r.2.p.es.length (entsC r.2.p.es) ∧
    rowsApart s1 s2 ∧ rowsApart s1 s3 ∧ rowsApart s2 s3

theorem TransSep.own {base : Nat} {w : World} {v : Value} {r : (Int × Int) × KM} (h : TransSep base w v r) : TransOwn base w v r := by
  obtain ⟨s1, s2, s3, h0, h1, h2, h3, _⟩ := h
  exact ⟨s1, s2, s3, h0, h1, h2, h3⟩

theorem apart_of {g1 g2 n1 n2 c1 c2 : Nat} (h : g1 ≠ g2) : rowsApart (.slice (some ⟨g1, 0, none⟩) n1 c1) (.slice (some ⟨g2, 0, none⟩) n2 c2) := fun g h1 h2 => by
  simp [Value.ownBlock] at h1 h2
  omega

end Go.Proofs.YthekickjjaleaacGreat
