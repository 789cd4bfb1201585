import Derived.Test.YthekickjjaleaacPack05
import Derived.Test.YthekickjjaleaacPack06
/- The laws' helpers over three caches. Written by mkcaches.py. -/
namespace Go.Proofs.Ythekickjjaleaac
open Go.RowKit
set_option linter.unusedVariables false

theorem TlbAt.row {w : World} {a : Option Addr} {c : Nat} {t : TlbM} (h : TlbAt w (.agg #[.int .i64 t.sets, .int .i64 t.ways, .slice a t.es.length c]) t) : RowC w a t.es.length 6 (entsC t.es) ∧ t.es.length ≤ 1048576 := by
  obtain ⟨a', c', he, hr, _, _, _, hl, _⟩ := h
  simp at he
  obtain ⟨rfl, rfl⟩ := he
  exact ⟨hr, hl⟩

theorem nine_put1 {v : World} {p : Nat} {T : TypeId} {a b c d e f g h i x y z : Value} (hh : v.heap[p]? = some (.cells #[a, b, c, d, e, f, g, h, i] T (0, 0))) : (((v.setCell ⟨p, 0, none⟩ x).setCell ⟨p, 1, none⟩ y).setCell ⟨p, 2, none⟩ z).heap[p]? = some (.cells #[x, y, z, d, e, f, g, h, i] T (0, 0)) := by
  simp [World.setCell, Array.getElem?_modify, hh]

theorem nine_put2 {v : World} {p : Nat} {T : TypeId} {a b c d e f g h i x y z : Value} (hh : v.heap[p]? = some (.cells #[a, b, c, d, e, f, g, h, i] T (0, 0))) : (((v.setCell ⟨p, 3, none⟩ x).setCell ⟨p, 4, none⟩ y).setCell ⟨p, 5, none⟩ z).heap[p]? = some (.cells #[a, b, c, x, y, z, g, h, i] T (0, 0)) := by
  simp [World.setCell, Array.getElem?_modify, hh]

set_option maxRecDepth 20000 in
set_option maxHeartbeats 3200000 in
theorem toCaches_any (k : KM) (a1 a2 a3 : Option Addr) (c1 c2 c3 : Nat) (w : World) (r1 : RowC w a1 k.i.es.length 6 (entsC k.i.es)) (r2 : RowC w a2 k.d.es.length 6 (entsC k.d.es)) (r3 : RowC w a3 k.p.es.length 6 (entsC k.p.es)) (l1 : k.i.es.length ≤ 1048576) (l2 : k.d.es.length ≤ 1048576) (l3 : k.p.es.length ≤ 1048576) :
    Calls Try.prog 40 #[.agg #[.int .i64 k.i.sets, .int .i64 k.i.ways, .slice a1 k.i.es.length c1, .int .i64 k.d.sets, .int .i64 k.d.ways, .slice a2 k.d.es.length c2, .int .i64 k.p.sets, .int .i64 k.p.ways, .slice a3 k.p.es.length c3]] w fun e w' => (∃ x, e = .returned x ∧ KSep w.heap.size w' x k) ∧ Below w.heap.size w w' := by
  have HT1 : Hid (∀ u, Below w.heap.size w u → Calls Try.prog 59 #[.agg #[.int .i64 k.i.sets, .int .i64 k.i.ways, .slice a1 k.i.es.length c1]] u fun e w' => (∃ x, e = .returned x ∧ TlbOwn u.heap.size w' x k.i) ∧ Below u.heap.size u w') := fun u hu => toTlb_any k.i.sets k.i.ways a1 k.i.es.length c1 k.i.es u (r1.keep hu) rfl l1
  have HT2 : Hid (∀ u, Below w.heap.size w u → Calls Try.prog 59 #[.agg #[.int .i64 k.d.sets, .int .i64 k.d.ways, .slice a2 k.d.es.length c2]] u fun e w' => (∃ x, e = .returned x ∧ TlbOwn u.heap.size w' x k.d) ∧ Below u.heap.size u w') := fun u hu => toTlb_any k.d.sets k.d.ways a2 k.d.es.length c2 k.d.es u (r2.keep hu) rfl l2
  have HT3 : Hid (∀ u, Below w.heap.size w u → Calls Try.prog 59 #[.agg #[.int .i64 k.p.sets, .int .i64 k.p.ways, .slice a3 k.p.es.length c3]] u fun e w' => (∃ x, e = .returned x ∧ TlbOwn u.heap.size w' x k.p) ∧ Below u.heap.size u w') := fun u hu => toTlb_any k.p.sets k.p.ways a3 k.p.es.length c3 k.p.es u (r3.keep hu) rfl l3
  clear r1 r2 r3
  have n1 := (((Below.refl w.heap.size w).alloc (Nat.le_refl _) (Obj.cells #[.int .i64 k.i.sets, .int .i64 k.i.ways, .slice a1 k.i.es.length c1, .int .i64 k.d.sets, .int .i64 k.d.ways, .slice a2 k.d.es.length c2, .int .i64 k.p.sets, .int .i64 k.p.ways, .slice a3 k.p.es.length c3] 46)).alloc (by simp) (Obj.cells #[.int .i64 0, .int .i64 0, .slice none 0 0, .int .i64 0, .int .i64 0, .slice none 0 0, .int .i64 0, .int .i64 0, .slice none 0 0] 29)).alloc (by simp; omega) (Obj.cells #[.int .i64 0, .int .i64 0, .slice none 0 0, .int .i64 0, .int .i64 0, .slice none 0 0, .int .i64 0, .int .i64 0, .slice none 0 0] 29)
  have H1 : Hid ((((w.alloc (Obj.cells #[.int .i64 k.i.sets, .int .i64 k.i.ways, .slice a1 k.i.es.length c1, .int .i64 k.d.sets, .int .i64 k.d.ways, .slice a2 k.d.es.length c2, .int .i64 k.p.sets, .int .i64 k.p.ways, .slice a3 k.p.es.length c3] 46)).alloc (Obj.cells #[.int .i64 0, .int .i64 0, .slice none 0 0, .int .i64 0, .int .i64 0, .slice none 0 0, .int .i64 0, .int .i64 0, .slice none 0 0] 29)).alloc (Obj.cells #[.int .i64 0, .int .i64 0, .slice none 0 0, .int .i64 0, .int .i64 0, .slice none 0 0, .int .i64 0, .int .i64 0, .slice none 0 0] 29)).heap[w.heap.size]? = some (.cells #[.int .i64 k.i.sets, .int .i64 k.i.ways, .slice a1 k.i.es.length c1, .int .i64 k.d.sets, .int .i64 k.d.ways, .slice a2 k.d.es.length c2, .int .i64 k.p.sets, .int .i64 k.p.ways, .slice a3 k.p.es.length c3] 46 (0, 0))) := by
    show _ = _
    rw [heap_alloc_old _ _ (by simp; omega), heap_alloc_old _ _ (by simp)]
    exact heap_alloc_new w _
  have H2 : Hid ((((w.alloc (Obj.cells #[.int .i64 k.i.sets, .int .i64 k.i.ways, .slice a1 k.i.es.length c1, .int .i64 k.d.sets, .int .i64 k.d.ways, .slice a2 k.d.es.length c2, .int .i64 k.p.sets, .int .i64 k.p.ways, .slice a3 k.p.es.length c3] 46)).alloc (Obj.cells #[.int .i64 0, .int .i64 0, .slice none 0 0, .int .i64 0, .int .i64 0, .slice none 0 0, .int .i64 0, .int .i64 0, .slice none 0 0] 29)).alloc (Obj.cells #[.int .i64 0, .int .i64 0, .slice none 0 0, .int .i64 0, .int .i64 0, .slice none 0 0, .int .i64 0, .int .i64 0, .slice none 0 0] 29)).heap[w.heap.size + 1]? = some (.cells #[.int .i64 0, .int .i64 0, .slice none 0 0, .int .i64 0, .int .i64 0, .slice none 0 0, .int .i64 0, .int .i64 0, .slice none 0 0] 29 (0, 0))) := by
    show _ = _
    rw [heap_alloc_old _ _ (by simp)]
    have := heap_alloc_new (w.alloc (Obj.cells #[.int .i64 k.i.sets, .int .i64 k.i.ways, .slice a1 k.i.es.length c1, .int .i64 k.d.sets, .int .i64 k.d.ways, .slice a2 k.d.es.length c2, .int .i64 k.p.sets, .int .i64 k.p.ways, .slice a3 k.p.es.length c3] 46)) (Obj.cells #[.int .i64 0, .int .i64 0, .slice none 0 0, .int .i64 0, .int .i64 0, .slice none 0 0, .int .i64 0, .int .i64 0, .slice none 0 0] 29)
    simp only [World.size_alloc] at this
    exact this
  have H3 : Hid ((((w.alloc (Obj.cells #[.int .i64 k.i.sets, .int .i64 k.i.ways, .slice a1 k.i.es.length c1, .int .i64 k.d.sets, .int .i64 k.d.ways, .slice a2 k.d.es.length c2, .int .i64 k.p.sets, .int .i64 k.p.ways, .slice a3 k.p.es.length c3] 46)).alloc (Obj.cells #[.int .i64 0, .int .i64 0, .slice none 0 0, .int .i64 0, .int .i64 0, .slice none 0 0, .int .i64 0, .int .i64 0, .slice none 0 0] 29)).alloc (Obj.cells #[.int .i64 0, .int .i64 0, .slice none 0 0, .int .i64 0, .int .i64 0, .slice none 0 0, .int .i64 0, .int .i64 0, .slice none 0 0] 29)).heap[w.heap.size + 1 + 1]? = some (.cells #[.int .i64 0, .int .i64 0, .slice none 0 0, .int .i64 0, .int .i64 0, .slice none 0 0, .int .i64 0, .int .i64 0, .slice none 0 0] 29 (0, 0))) := by
    have := heap_alloc_new ((w.alloc (Obj.cells #[.int .i64 k.i.sets, .int .i64 k.i.ways, .slice a1 k.i.es.length c1, .int .i64 k.d.sets, .int .i64 k.d.ways, .slice a2 k.d.es.length c2, .int .i64 k.p.sets, .int .i64 k.p.ways, .slice a3 k.p.es.length c3] 46)).alloc (Obj.cells #[.int .i64 0, .int .i64 0, .slice none 0 0, .int .i64 0, .int .i64 0, .slice none 0 0, .int .i64 0, .int .i64 0, .slice none 0 0] 29)) (Obj.cells #[.int .i64 0, .int .i64 0, .slice none 0 0, .int .i64 0, .int .i64 0, .slice none 0 0, .int .i64 0, .int .i64 0, .slice none 0 0] 29)
    simp only [World.size_alloc] at this
    exact this
  have l1 : w.heap.size + 1 + 1 < (((w.alloc (Obj.cells #[.int .i64 k.i.sets, .int .i64 k.i.ways, .slice a1 k.i.es.length c1, .int .i64 k.d.sets, .int .i64 k.d.ways, .slice a2 k.d.es.length c2, .int .i64 k.p.sets, .int .i64 k.p.ways, .slice a3 k.p.es.length c3] 46)).alloc (Obj.cells #[.int .i64 0, .int .i64 0, .slice none 0 0, .int .i64 0, .int .i64 0, .slice none 0 0, .int .i64 0, .int .i64 0, .slice none 0 0] 29)).alloc (Obj.cells #[.int .i64 0, .int .i64 0, .slice none 0 0, .int .i64 0, .int .i64 0, .slice none 0 0, .int .i64 0, .int .i64 0, .slice none 0 0] 29)).heap.size := by simp
  go_enter Try.func40, Try.ntmps40
  go_wp2_with fail
  generalize ((w.alloc (Obj.cells #[.int .i64 k.i.sets, .int .i64 k.i.ways, .slice a1 k.i.es.length c1, .int .i64 k.d.sets, .int .i64 k.d.ways, .slice a2 k.d.es.length c2, .int .i64 k.p.sets, .int .i64 k.p.ways, .slice a3 k.p.es.length c3] 46)).alloc (Obj.cells #[.int .i64 0, .int .i64 0, .slice none 0 0, .int .i64 0, .int .i64 0, .slice none 0 0, .int .i64 0, .int .i64 0, .slice none 0 0] 29)).alloc (Obj.cells #[.int .i64 0, .int .i64 0, .slice none 0 0, .int .i64 0, .int .i64 0, .slice none 0 0, .int .i64 0, .int .i64 0, .slice none 0 0] 29) = u1 at n1 H1 H2 H3 l1 ⊢
  refine (HT1.out u1 n1).mono ?_
  rintro e v1 ⟨⟨x, rfl, g1, e1, rfl, o1⟩, m1⟩
  have lg1 := (own_at o1).2
  simp only at lg1
  have lm1 := m1.size
  have P1 := hid_keep H1 m1
  have P2 := hid_keep H2 m1
  have P3 := hid_keep H3 m1
  obtain ⟨b0, b1, b2, b3, b4, b5, b6, b7, b8⟩ := nine_cells P1.out
  obtain ⟨q0, q1, q2, q3, q4, q5, q6, q7, q8⟩ := nine_cells P3.out
  have ff := nine_free P3.out
  have f0 := ff 0; have f1 := ff 1; have f2 := ff 2
  clear ff
  have ls : w.heap.size < v1.heap.size := by omega
  have lp : w.heap.size + 1 + 1 < v1.heap.size := by omega
  have O1 : Hid (v1.ownsRow u1.heap.size 91 6 (.slice (some ⟨g1, 0, none⟩) k.i.es.length e1) k.i.es.length (entsC k.i.es)) := o1
  clear o1
  have ne1 : w.heap.size ≠ w.heap.size + 1 + 1 := by omega
  go_wp2_with fail
  have gS := gb_set (gb_set (gb_set (gb_refl v1 (some (w.heap.size + 1 + 1))) 0 (.int .i64 k.i.sets)) 1 (.int .i64 k.i.ways)) 2 (.slice (some ⟨g1, 0, none⟩) k.i.es.length e1)
  have n2 := (Below.step n1 m1 (Nat.le_refl _)).grown gS (by omega) (fun q hq => by cases hq; omega)
  clear H1 H2 H3
  have H1 : Hid ((((v1.setCell ⟨w.heap.size + 1 + 1, 0, none⟩ (.int .i64 k.i.sets)).setCell ⟨w.heap.size + 1 + 1, 1, none⟩ (.int .i64 k.i.ways)).setCell ⟨w.heap.size + 1 + 1, 2, none⟩ (.slice (some ⟨g1, 0, none⟩) k.i.es.length e1)).heap[w.heap.size]? = _) := heap_gb P1.out gS (by omega)
  have H2 : Hid ((((v1.setCell ⟨w.heap.size + 1 + 1, 0, none⟩ (.int .i64 k.i.sets)).setCell ⟨w.heap.size + 1 + 1, 1, none⟩ (.int .i64 k.i.ways)).setCell ⟨w.heap.size + 1 + 1, 2, none⟩ (.slice (some ⟨g1, 0, none⟩) k.i.es.length e1)).heap[w.heap.size + 1]? = _) := heap_gb P2.out gS (by omega)
  have H3 : Hid ((((v1.setCell ⟨w.heap.size + 1 + 1, 0, none⟩ (.int .i64 k.i.sets)).setCell ⟨w.heap.size + 1 + 1, 1, none⟩ (.int .i64 k.i.ways)).setCell ⟨w.heap.size + 1 + 1, 2, none⟩ (.slice (some ⟨g1, 0, none⟩) k.i.es.length e1)).heap[w.heap.size + 1 + 1]? = _) := nine_put1 P3.out
  replace O1 : Hid ((((v1.setCell ⟨w.heap.size + 1 + 1, 0, none⟩ (.int .i64 k.i.sets)).setCell ⟨w.heap.size + 1 + 1, 1, none⟩ (.int .i64 k.i.ways)).setCell ⟨w.heap.size + 1 + 1, 2, none⟩ (.slice (some ⟨g1, 0, none⟩) k.i.es.length e1)).ownsRow u1.heap.size 91 6 (.slice (some ⟨g1, 0, none⟩) k.i.es.length e1) k.i.es.length (entsC k.i.es)) := own_gbn O1.out gS (by omega)
  have lt1 := gS.size
  generalize (((v1.setCell ⟨w.heap.size + 1 + 1, 0, none⟩ (.int .i64 k.i.sets)).setCell ⟨w.heap.size + 1 + 1, 1, none⟩ (.int .i64 k.i.ways)).setCell ⟨w.heap.size + 1 + 1, 2, none⟩ (.slice (some ⟨g1, 0, none⟩) k.i.es.length e1)) = u2 at n2 H1 H2 H3 lt1 O1 ⊢
  clear P1 P2 P3 b0 b1 b2 b3 b4 b5 b6 b7 b8 q0 q1 q2 q3 q4 q5 q6 q7 q8 f0 f1 f2 gS ls lp ne1
  refine (HT2.out u2 n2).mono ?_
  rintro e v2 ⟨⟨x, rfl, g2, e2, rfl, o2⟩, m2⟩
  have lg2 := (own_at o2).2
  simp only at lg2
  have lm2 := m2.size
  have P1 := hid_keep H1 m2
  have P2 := hid_keep H2 m2
  have P3 := hid_keep H3 m2
  obtain ⟨b0, b1, b2, b3, b4, b5, b6, b7, b8⟩ := nine_cells P1.out
  obtain ⟨q0, q1, q2, q3, q4, q5, q6, q7, q8⟩ := nine_cells P3.out
  have ff := nine_free P3.out
  have f0 := ff 3; have f1 := ff 4; have f2 := ff 5
  clear ff
  have ls : w.heap.size < v2.heap.size := by omega
  have lp : w.heap.size + 1 + 1 < v2.heap.size := by omega
  have O2 : Hid (v2.ownsRow u2.heap.size 91 6 (.slice (some ⟨g2, 0, none⟩) k.d.es.length e2) k.d.es.length (entsC k.d.es)) := o2
  replace O1 : Hid (v2.ownsRow u1.heap.size 91 6 (.slice (some ⟨g1, 0, none⟩) k.i.es.length e1) k.i.es.length (entsC k.i.es)) := own_below O1.out m2
  clear o2
  have ne1 : w.heap.size ≠ w.heap.size + 1 + 1 := by omega
  go_wp2_with fail
  have gS := gb_set (gb_set (gb_set (gb_refl v2 (some (w.heap.size + 1 + 1))) 3 (.int .i64 k.d.sets)) 4 (.int .i64 k.d.ways)) 5 (.slice (some ⟨g2, 0, none⟩) k.d.es.length e2)
  have n3 := (Below.step n2 m2 (Nat.le_refl _)).grown gS (by omega) (fun q hq => by cases hq; omega)
  clear H1 H2 H3
  have H1 : Hid ((((v2.setCell ⟨w.heap.size + 1 + 1, 3, none⟩ (.int .i64 k.d.sets)).setCell ⟨w.heap.size + 1 + 1, 4, none⟩ (.int .i64 k.d.ways)).setCell ⟨w.heap.size + 1 + 1, 5, none⟩ (.slice (some ⟨g2, 0, none⟩) k.d.es.length e2)).heap[w.heap.size]? = _) := heap_gb P1.out gS (by omega)
  have H2 : Hid ((((v2.setCell ⟨w.heap.size + 1 + 1, 3, none⟩ (.int .i64 k.d.sets)).setCell ⟨w.heap.size + 1 + 1, 4, none⟩ (.int .i64 k.d.ways)).setCell ⟨w.heap.size + 1 + 1, 5, none⟩ (.slice (some ⟨g2, 0, none⟩) k.d.es.length e2)).heap[w.heap.size + 1]? = _) := heap_gb P2.out gS (by omega)
  have H3 : Hid ((((v2.setCell ⟨w.heap.size + 1 + 1, 3, none⟩ (.int .i64 k.d.sets)).setCell ⟨w.heap.size + 1 + 1, 4, none⟩ (.int .i64 k.d.ways)).setCell ⟨w.heap.size + 1 + 1, 5, none⟩ (.slice (some ⟨g2, 0, none⟩) k.d.es.length e2)).heap[w.heap.size + 1 + 1]? = _) := nine_put2 P3.out
  replace O1 : Hid ((((v2.setCell ⟨w.heap.size + 1 + 1, 3, none⟩ (.int .i64 k.d.sets)).setCell ⟨w.heap.size + 1 + 1, 4, none⟩ (.int .i64 k.d.ways)).setCell ⟨w.heap.size + 1 + 1, 5, none⟩ (.slice (some ⟨g2, 0, none⟩) k.d.es.length e2)).ownsRow u1.heap.size 91 6 (.slice (some ⟨g1, 0, none⟩) k.i.es.length e1) k.i.es.length (entsC k.i.es)) := own_gbn O1.out gS (by omega)
  replace O2 : Hid ((((v2.setCell ⟨w.heap.size + 1 + 1, 3, none⟩ (.int .i64 k.d.sets)).setCell ⟨w.heap.size + 1 + 1, 4, none⟩ (.int .i64 k.d.ways)).setCell ⟨w.heap.size + 1 + 1, 5, none⟩ (.slice (some ⟨g2, 0, none⟩) k.d.es.length e2)).ownsRow u2.heap.size 91 6 (.slice (some ⟨g2, 0, none⟩) k.d.es.length e2) k.d.es.length (entsC k.d.es)) := own_gbn O2.out gS (by omega)
  have lt2 := gS.size
  generalize (((v2.setCell ⟨w.heap.size + 1 + 1, 3, none⟩ (.int .i64 k.d.sets)).setCell ⟨w.heap.size + 1 + 1, 4, none⟩ (.int .i64 k.d.ways)).setCell ⟨w.heap.size + 1 + 1, 5, none⟩ (.slice (some ⟨g2, 0, none⟩) k.d.es.length e2)) = u3 at n3 H1 H2 H3 lt2 O1 O2 ⊢
  clear P1 P2 P3 b0 b1 b2 b3 b4 b5 b6 b7 b8 q0 q1 q2 q3 q4 q5 q6 q7 q8 f0 f1 f2 gS ls lp ne1
  refine (HT3.out u3 n3).mono ?_
  rintro e v3 ⟨⟨x, rfl, g3, e3, rfl, o3⟩, m3⟩
  have lg3 := (own_at o3).2
  simp only at lg3
  have lm3 := m3.size
  have P1 := hid_keep H1 m3
  have P2 := hid_keep H2 m3
  have P3 := hid_keep H3 m3
  obtain ⟨b0, b1, b2, b3, b4, b5, b6, b7, b8⟩ := nine_cells P1.out
  obtain ⟨q0, q1, q2, q3, q4, q5, q6, q7, q8⟩ := nine_cells P3.out
  have ff := nine_free P3.out
  have f0 := ff 6; have f1 := ff 7; have f2 := ff 8
  clear ff
  have ls : w.heap.size < v3.heap.size := by omega
  have lp : w.heap.size + 1 + 1 < v3.heap.size := by omega
  have O3 : Hid (v3.ownsRow u3.heap.size 91 6 (.slice (some ⟨g3, 0, none⟩) k.p.es.length e3) k.p.es.length (entsC k.p.es)) := o3
  replace O1 : Hid (v3.ownsRow u1.heap.size 91 6 (.slice (some ⟨g1, 0, none⟩) k.i.es.length e1) k.i.es.length (entsC k.i.es)) := own_below O1.out m3
  replace O2 : Hid (v3.ownsRow u2.heap.size 91 6 (.slice (some ⟨g2, 0, none⟩) k.d.es.length e2) k.d.es.length (entsC k.d.es)) := own_below O2.out m3
  clear o3
  obtain ⟨j0, j1, j2, j3, j4, j5, j6, j7, j8⟩ := nine_cells P2.out
  have gg := nine_free P2.out
  have d0 := gg 0; have d1 := gg 1; have d2 := gg 2; have d3 := gg 3; have d4 := gg 4; have d5 := gg 5; have d6 := gg 6; have d7 := gg 7; have d8 := gg 8
  clear gg
  have ne1 : w.heap.size + 1 ≠ w.heap.size + 1 + 1 := by omega
  have ne2 : w.heap.size + 1 + 1 ≠ w.heap.size + 1 := by omega
  have lr : w.heap.size + 1 < v3.heap.size := by omega
  go_wp2_with fail
  have gS := gb_set (gb_set (gb_set (gb_refl v3 (some (w.heap.size + 1 + 1))) 6 (.int .i64 k.p.sets)) 7 (.int .i64 k.p.ways)) 8 (.slice (some ⟨g3, 0, none⟩) k.p.es.length e3)
  have n4 := (Below.step n3 m3 (Nat.le_refl _)).grown gS (by omega) (fun q hq => by cases hq; omega)
  have gR := fun w => gb9 w (w.heap.size + 1)
  have gR := gb9 (((v3.setCell ⟨w.heap.size + 1 + 1, 6, none⟩ (.int .i64 k.p.sets)).setCell ⟨w.heap.size + 1 + 1, 7, none⟩ (.int .i64 k.p.ways)).setCell ⟨w.heap.size + 1 + 1, 8, none⟩ (.slice (some ⟨g3, 0, none⟩) k.p.es.length e3)) (w.heap.size + 1)
  have hh := heap_gb P2.out gS (by omega)
  generalize (((v3.setCell ⟨w.heap.size + 1 + 1, 6, none⟩ (.int .i64 k.p.sets)).setCell ⟨w.heap.size + 1 + 1, 7, none⟩ (.int .i64 k.p.ways)).setCell ⟨w.heap.size + 1 + 1, 8, none⟩ (.slice (some ⟨g3, 0, none⟩) k.p.es.length e3)) = v4 at gS n4 gR hh ⊢
  clear j0 j1 j2 j3 j4 j5 j6 j7 j8
  obtain ⟨j0, j1, j2, j3, j4, j5, j6, j7, j8⟩ := nine_cells hh
  refine bodyPost_ret (v := .agg #[.int .i64 k.i.sets, .int .i64 k.i.ways, .slice (some ⟨g1, 0, none⟩) k.i.es.length e1, .int .i64 k.d.sets, .int .i64 k.d.ways, .slice (some ⟨g2, 0, none⟩) k.d.es.length e2, .int .i64 k.p.sets, .int .i64 k.p.ways, .slice (some ⟨g3, 0, none⟩) k.p.es.length e3]) (by simp [results, Try.results40, go_sem, j0, j1, j2, j3, j4, j5, j6, j7, j8]) rfl ⟨⟨_, rfl, g1, e1, g2, e2, g3, e3, rfl, ?_, ?_, ?_, by omega, by omega, by omega⟩, bel9 n4 (by omega) _ _ _ _ _ _ _ _ _⟩
  · exact own_low (own_gbn (own_gbn O1.out gS (by omega)) (gR _ _ _ _ _ _ _ _ _) (by omega)) (by omega)
  · exact own_low (own_gbn (own_gbn O2.out gS (by omega)) (gR _ _ _ _ _ _ _ _ _) (by omega)) (by omega)
  · exact own_low (own_gbn (own_gbn O3.out gS (by omega)) (gR _ _ _ _ _ _ _ _ _) (by omega)) (by omega)

theorem own_cases {e : TypeId} {size base n : Nat} {w : World} {s : Value} {cs : List Value} (h : w.ownsRow base e size s n cs) : (s = .slice none 0 0 ∧ n = 0 ∧ cs = []) ∨ ∃ g cap, s = .slice (some ⟨g, 0, none⟩) n cap := by
  rcases h.2 with ⟨h1, h2⟩ | ⟨g, cap, _, h1, _⟩
  · refine .inl ⟨h1, h2, ?_⟩
    have := h.1
    subst h2
    simpa using this
  · exact .inr ⟨g, cap, h1⟩

/-- A slice whose elements are the cells cs. -/
def RowS (w : World) (s : Value) (n : Nat) (cs : List Value) : Prop := ∃ a cap, s = .slice a n cap ∧ RowC w a n 6 cs

theorem RowS.keep {w w' : World} {s : Value} {n : Nat} {cs : List Value} (h : RowS w s n cs) (hb : Below w.heap.size w w') : RowS w' s n cs := by
  obtain ⟨a, c, h1, h2⟩ := h
  exact ⟨a, c, h1, h2.keep hb⟩

theorem rowS_own {e : TypeId} {base n : Nat} {w : World} {s : Value} {cs : List Value} (h : w.ownsRow base e 6 s n cs) : RowS w s n cs := by
  rcases own_cases h with ⟨rfl, rfl, rfl⟩ | ⟨g, cap, rfl⟩
  · exact ⟨none, 0, rfl, row_own h⟩
  · exact ⟨_, _, rfl, row_own h⟩

theorem eqTlb_row (sets ways : Int) (s t : Value) (es : List EntM) (w : World) (h : RowS w s es.length (entsC es)) (h' : RowS w t es.length (entsC es)) (hl : es.length ≤ 1048576) :
    Calls Try.prog 63 #[.agg #[.int .i64 sets, .int .i64 ways, s], .agg #[.int .i64 sets, .int .i64 ways, t]] w fun e w' => e = .returned (.bool true) ∧ Below w.heap.size w w' := by
  obtain ⟨a, ca, rfl, h1⟩ := h
  obtain ⟨b, cb, rfl, h2⟩ := h'
  exact eqTlb_same sets ways a b es.length ca cb es w h1 h2 rfl hl

set_option maxRecDepth 20000 in
set_option maxHeartbeats 1600000 in
theorem eqCaches_row (k : KM) (s1 s2 s3 t1 t2 t3 : Value) (w : World) (hs1 : RowS w s1 k.i.es.length (entsC k.i.es)) (hs2 : RowS w s2 k.d.es.length (entsC k.d.es)) (hs3 : RowS w s3 k.p.es.length (entsC k.p.es)) (ht1 : RowS w t1 k.i.es.length (entsC k.i.es)) (ht2 : RowS w t2 k.d.es.length (entsC k.d.es)) (ht3 : RowS w t3 k.p.es.length (entsC k.p.es)) (l1 : k.i.es.length ≤ 1048576) (l2 : k.d.es.length ≤ 1048576) (l3 : k.p.es.length ≤ 1048576) :
    Calls Try.prog 44 #[.agg #[.int .i64 k.i.sets, .int .i64 k.i.ways, s1, .int .i64 k.d.sets, .int .i64 k.d.ways, s2, .int .i64 k.p.sets, .int .i64 k.p.ways, s3], .agg #[.int .i64 k.i.sets, .int .i64 k.i.ways, t1, .int .i64 k.d.sets, .int .i64 k.d.ways, t2, .int .i64 k.p.sets, .int .i64 k.p.ways, t3]] w fun e w' => e = .returned (.bool true) ∧ Below w.heap.size w w' := by
  have os : ∀ s n cs, RowS w s n cs → s.oneCell' = true := by
    rintro s n cs ⟨a, c, rfl, _⟩
    rfl
  have E1 : Hid (∀ u, Below w.heap.size w u → Calls Try.prog 63 #[.agg #[.int .i64 k.i.sets, .int .i64 k.i.ways, s1], .agg #[.int .i64 k.i.sets, .int .i64 k.i.ways, t1]] u fun e w' => e = .returned (.bool true) ∧ Below u.heap.size u w') := fun u hu => eqTlb_row k.i.sets k.i.ways s1 t1 k.i.es u (hs1.keep hu) (ht1.keep hu) l1
  have E2 : Hid (∀ u, Below w.heap.size w u → Calls Try.prog 63 #[.agg #[.int .i64 k.d.sets, .int .i64 k.d.ways, s2], .agg #[.int .i64 k.d.sets, .int .i64 k.d.ways, t2]] u fun e w' => e = .returned (.bool true) ∧ Below u.heap.size u w') := fun u hu => eqTlb_row k.d.sets k.d.ways s2 t2 k.d.es u (hs2.keep hu) (ht2.keep hu) l2
  have E3 : Hid (∀ u, Below w.heap.size w u → Calls Try.prog 63 #[.agg #[.int .i64 k.p.sets, .int .i64 k.p.ways, s3], .agg #[.int .i64 k.p.sets, .int .i64 k.p.ways, t3]] u fun e w' => e = .returned (.bool true) ∧ Below u.heap.size u w') := fun u hu => eqTlb_row k.p.sets k.p.ways s3 t3 k.p.es u (hs3.keep hu) (ht3.keep hu) l3
  obtain ⟨sa1, sc1, rfl, _⟩ := hs1
  obtain ⟨ta1, tc1, rfl, _⟩ := ht1
  obtain ⟨sa2, sc2, rfl, _⟩ := hs2
  obtain ⟨ta2, tc2, rfl, _⟩ := ht2
  obtain ⟨sa3, sc3, rfl, _⟩ := hs3
  obtain ⟨ta3, tc3, rfl, _⟩ := ht3
  clear os
  have n1 := ((Below.refl w.heap.size w).alloc (Nat.le_refl _) (Obj.cells #[.int .i64 k.i.sets, .int .i64 k.i.ways, .slice sa1 k.i.es.length sc1, .int .i64 k.d.sets, .int .i64 k.d.ways, .slice sa2 k.d.es.length sc2, .int .i64 k.p.sets, .int .i64 k.p.ways, .slice sa3 k.p.es.length sc3] 29)).alloc (by simp) (Obj.cells #[.int .i64 k.i.sets, .int .i64 k.i.ways, .slice ta1 k.i.es.length tc1, .int .i64 k.d.sets, .int .i64 k.d.ways, .slice ta2 k.d.es.length tc2, .int .i64 k.p.sets, .int .i64 k.p.ways, .slice ta3 k.p.es.length tc3] 29)
  have H1 : Hid (((w.alloc (Obj.cells #[.int .i64 k.i.sets, .int .i64 k.i.ways, .slice sa1 k.i.es.length sc1, .int .i64 k.d.sets, .int .i64 k.d.ways, .slice sa2 k.d.es.length sc2, .int .i64 k.p.sets, .int .i64 k.p.ways, .slice sa3 k.p.es.length sc3] 29)).alloc (Obj.cells #[.int .i64 k.i.sets, .int .i64 k.i.ways, .slice ta1 k.i.es.length tc1, .int .i64 k.d.sets, .int .i64 k.d.ways, .slice ta2 k.d.es.length tc2, .int .i64 k.p.sets, .int .i64 k.p.ways, .slice ta3 k.p.es.length tc3] 29)).heap[w.heap.size]? = some (.cells #[.int .i64 k.i.sets, .int .i64 k.i.ways, .slice sa1 k.i.es.length sc1, .int .i64 k.d.sets, .int .i64 k.d.ways, .slice sa2 k.d.es.length sc2, .int .i64 k.p.sets, .int .i64 k.p.ways, .slice sa3 k.p.es.length sc3] 29 (0, 0))) := by
    show _ = _
    rw [heap_alloc_old _ _ (by simp)]
    exact heap_alloc_new w _
  have H2 : Hid (((w.alloc (Obj.cells #[.int .i64 k.i.sets, .int .i64 k.i.ways, .slice sa1 k.i.es.length sc1, .int .i64 k.d.sets, .int .i64 k.d.ways, .slice sa2 k.d.es.length sc2, .int .i64 k.p.sets, .int .i64 k.p.ways, .slice sa3 k.p.es.length sc3] 29)).alloc (Obj.cells #[.int .i64 k.i.sets, .int .i64 k.i.ways, .slice ta1 k.i.es.length tc1, .int .i64 k.d.sets, .int .i64 k.d.ways, .slice ta2 k.d.es.length tc2, .int .i64 k.p.sets, .int .i64 k.p.ways, .slice ta3 k.p.es.length tc3] 29)).heap[w.heap.size + 1]? = some (.cells #[.int .i64 k.i.sets, .int .i64 k.i.ways, .slice ta1 k.i.es.length tc1, .int .i64 k.d.sets, .int .i64 k.d.ways, .slice ta2 k.d.es.length tc2, .int .i64 k.p.sets, .int .i64 k.p.ways, .slice ta3 k.p.es.length tc3] 29 (0, 0))) := by
    have := heap_alloc_new (w.alloc (Obj.cells #[.int .i64 k.i.sets, .int .i64 k.i.ways, .slice sa1 k.i.es.length sc1, .int .i64 k.d.sets, .int .i64 k.d.ways, .slice sa2 k.d.es.length sc2, .int .i64 k.p.sets, .int .i64 k.p.ways, .slice sa3 k.p.es.length sc3] 29)) (Obj.cells #[.int .i64 k.i.sets, .int .i64 k.i.ways, .slice ta1 k.i.es.length tc1, .int .i64 k.d.sets, .int .i64 k.d.ways, .slice ta2 k.d.es.length tc2, .int .i64 k.p.sets, .int .i64 k.p.ways, .slice ta3 k.p.es.length tc3] 29)
    simp only [World.size_alloc] at this
    exact this
  go_enter Try.func44, Try.ntmps44
  go_wp2_with fail
  generalize (w.alloc (Obj.cells #[.int .i64 k.i.sets, .int .i64 k.i.ways, .slice sa1 k.i.es.length sc1, .int .i64 k.d.sets, .int .i64 k.d.ways, .slice sa2 k.d.es.length sc2, .int .i64 k.p.sets, .int .i64 k.p.ways, .slice sa3 k.p.es.length sc3] 29)).alloc (Obj.cells #[.int .i64 k.i.sets, .int .i64 k.i.ways, .slice ta1 k.i.es.length tc1, .int .i64 k.d.sets, .int .i64 k.d.ways, .slice ta2 k.d.es.length tc2, .int .i64 k.p.sets, .int .i64 k.p.ways, .slice ta3 k.p.es.length tc3] 29) = u1 at n1 H1 H2 ⊢
  refine (E1.out u1 n1).mono ?_
  rintro e u2 ⟨rfl, m1⟩
  have n2 := Below.step n1 m1 (Nat.le_refl _)
  replace H1 := hid_keep H1 m1
  replace H2 := hid_keep H2 m1
  obtain ⟨b0, b1, b2, b3, b4, b5, b6, b7, b8⟩ := nine_cells H1.out
  obtain ⟨q0, q1, q2, q3, q4, q5, q6, q7, q8⟩ := nine_cells H2.out
  go_wp2_with fail
  clear b0 b1 b2 b3 b4 b5 b6 b7 b8 q0 q1 q2 q3 q4 q5 q6 q7 q8
  refine (E2.out u2 n2).mono ?_
  rintro e u3 ⟨rfl, m2⟩
  have n3 := Below.step n2 m2 (Nat.le_refl _)
  replace H1 := hid_keep H1 m2
  replace H2 := hid_keep H2 m2
  obtain ⟨b0, b1, b2, b3, b4, b5, b6, b7, b8⟩ := nine_cells H1.out
  obtain ⟨q0, q1, q2, q3, q4, q5, q6, q7, q8⟩ := nine_cells H2.out
  go_wp2_with fail
  clear b0 b1 b2 b3 b4 b5 b6 b7 b8 q0 q1 q2 q3 q4 q5 q6 q7 q8
  refine (E3.out u3 n3).mono ?_
  rintro e u4 ⟨rfl, m3⟩
  have n4 := Below.step n3 m3 (Nat.le_refl _)
  replace H1 := hid_keep H1 m3
  replace H2 := hid_keep H2 m3
  obtain ⟨b0, b1, b2, b3, b4, b5, b6, b7, b8⟩ := nine_cells H1.out
  obtain ⟨q0, q1, q2, q3, q4, q5, q6, q7, q8⟩ := nine_cells H2.out
  go_wp2_with fail
  clear b0 b1 b2 b3 b4 b5 b6 b7 b8 q0 q1 q2 q3 q4 q5 q6 q7 q8
  go_ret
  exact ⟨rfl, n4⟩

/-- All blocks but those of R are as they were. -/
structure Mid (R : Nat → Prop) (w w' : World) : Prop where
  os : w'.os = w.os
  tape : w'.tape = w.tape
  output : w'.output = w.output
  size : w.heap.size ≤ w'.heap.size
  block : ∀ i, i < w.heap.size → ¬ R i → w'.heap[i]? = w.heap[i]?

theorem Mid.of_gb {R : Nat → Prop} {w w' : World} {r : Option Nat} (h : w.grownBy w' r) (hr : ∀ g, r = some g → R g) : Mid R w w' :=
  ⟨h.os, h.tape, h.output, h.size, fun i hi' hh => h.block i hi' (fun e => hh (hr i e.symm))⟩

theorem Mid.of_below {R : Nat → Prop} {w w' : World} (h : Below w.heap.size w w') : Mid R w w' :=
  ⟨h.os, h.tape, h.output, h.size, fun i hi' _ => h.block i hi'⟩

theorem Mid.trans {R : Nat → Prop} {a b c : World} (h : Mid R a b) (k : Mid R b c) : Mid R a c :=
  ⟨k.os.trans h.os, k.tape.trans h.tape, k.output.trans h.output, Nat.le_trans h.size k.size, fun i hi' hh => (k.block i (Nat.lt_of_lt_of_le hi' h.size) hh).trans (h.block i hi' hh)⟩

theorem Mid.heap {R : Nat → Prop} {g : Nat} {w w' : World} {o : Obj} (h : Mid R w w') (hg : w.heap[g]? = some o) (hh : ¬ R g) : w'.heap[g]? = some o :=
  (h.block g (Array.getElem?_eq_some_iff.1 hg).1 hh).trans hg

theorem Mid.below {R : Nat → Prop} {B : Nat} {a w w' : World} (h : Mid R w w') (hb : Below B a w) (hB : B ≤ w.heap.size) (hl : ∀ g, R g → B ≤ g) : Below B a w' :=
  ⟨h.os.trans hb.os, h.tape.trans hb.tape, h.output.trans hb.output, Nat.le_trans hb.size h.size, fun k hk => (h.block k (by omega) (fun hr => by have := hl k hr; omega)).trans (hb.block k hk)⟩

theorem Mid.own {R : Nat → Prop} {e : TypeId} {size base n : Nat} {w w' : World} {s : Value} {cs : List Value} (h : Mid R w w') (ho : w.ownsRow base e size s n cs) (hh : ∀ g, s.ownBlock = some g → ¬ R g) : w'.ownsRow base e size s n cs := by
  refine ⟨ho.1, ?_⟩
  rcases ho.2 with h1 | ⟨g, cap, cur, h1, h2, h3, h4⟩
  · exact .inl h1
  · exact .inr ⟨g, cap, cur, h1, h2, h.heap h3 (hh g (by rw [h1]; rfl)), h4⟩

/-- The blocks of three rows. -/
def inRows (s1 s2 s3 : Value) (i : Nat) : Prop := s1.ownBlock = some i ∨ s2.ownBlock = some i ∨ s3.ownBlock = some i

theorem own_in {e : TypeId} {size base n : Nat} {w : World} {s : Value} {cs : List Value} (h : w.ownsRow base e size s n cs) : ∀ g, s.ownBlock = some g → base ≤ g ∧ g < w.heap.size := fun g hg => h.lt g hg

theorem own_kept {e : TypeId} {size base n : Nat} {w w' : World} {s t : Value} {cs : List Value} (h : w.ownsRow base e size s n cs) (hg : w.grownBy w' t.ownBlock) (ha : rowsApart s t) : w'.ownsRow base e size s n cs := by
  refine h.kept hg ?_
  cases hs : s.ownBlock with
  | none => exact .inl rfl
  | some g => exact .inr fun he => ha g hs he.symm

theorem gb_of_below {w w' : World} {r : Option Nat} (h : Below w.heap.size w w') : w.grownBy w' r := ⟨h.os, h.tape, h.output, h.size, fun i hi _ => h.block i hi⟩

theorem apart_symm {s t : Value} (h : rowsApart s t) : rowsApart t s := fun g h1 h2 => h g h2 h1

theorem markTlb_own (sets ways : Int) (base n : Nat) (s : Value) (cs : List Value) (k0 : Int) (w : World) (h : w.ownsRow base 91 6 s n cs) (hl : n ≤ 1048576) (hk0 : 0 ≤ k0) (hk1 : k0 ≤ 1073741824) :
    Calls Try.prog 64 #[.agg #[.int .i64 sets, .int .i64 ways, s], .int .i64 k0] w fun e w' => e = .returned (.int .i64 (k0 + n * 6)) ∧ w'.ownsRow base 91 6 s n (mkEs k0 (n * 6)) ∧ w.grownBy w' s.ownBlock := by
  rcases own_cases h with ⟨rfl, rfl, rfl⟩ | ⟨g, cap, rfl⟩
  · refine (markTlb_nil sets ways none 0 k0 w).mono ?_
    rintro e w' ⟨rfl, hb⟩
    exact ⟨by simp, World.ownsRow_nil _ _ _ _, gb_of_below hb⟩
  · exact markTlb_any sets ways base g n cap cs k0 w h hl hk0 hk1

theorem heldTlb_own (sets ways : Int) (base n : Nat) (s : Value) (k0 : Int) (w : World) (h : w.ownsRow base 91 6 s n (mkEs k0 (n * 6))) (hl : n ≤ 1048576) (hk0 : 0 ≤ k0) (hk1 : k0 ≤ 1073741824) :
    Calls Try.prog 65 #[.agg #[.int .i64 sets, .int .i64 ways, s], .int .i64 k0] w fun e w' => e = .returned (.int .i64 (k0 + n * 6)) ∧ Below w.heap.size w w' := by
  rcases own_cases h with ⟨rfl, rfl, _⟩ | ⟨g, cap, rfl⟩
  · refine (heldTlb_nil sets ways none 0 k0 w hk0).mono ?_
    rintro e w' ⟨rfl, hb⟩
    exact ⟨by simp, hb⟩
  · exact heldTlb_any sets ways base g n cap k0 w h hl hk0 hk1

set_option maxRecDepth 20000 in
set_option maxHeartbeats 1600000 in
theorem markCaches_own (k : KM) (base : Nat) (s1 s2 s3 : Value) (cs1 cs2 cs3 : List Value) (k0 : Int) (w : World) (h1 : w.ownsRow base 91 6 s1 k.i.es.length cs1) (h2 : w.ownsRow base 91 6 s2 k.d.es.length cs2) (h3 : w.ownsRow base 91 6 s3 k.p.es.length cs3) (d12 : rowsApart s1 s2) (d13 : rowsApart s1 s3) (d23 : rowsApart s2 s3) (l1 : k.i.es.length ≤ 1048576) (l2 : k.d.es.length ≤ 1048576) (l3 : k.p.es.length ≤ 1048576) (hk0 : 0 ≤ k0) (hk1 : k0 ≤ 1048577):
    Calls Try.prog 53 #[.agg #[.int .i64 k.i.sets, .int .i64 k.i.ways, s1, .int .i64 k.d.sets, .int .i64 k.d.ways, s2, .int .i64 k.p.sets, .int .i64 k.p.ways, s3], .int .i64 k0] w fun e w' => e = .returned (.int .i64 (k0 + k.i.es.length * 6 + k.d.es.length * 6 + k.p.es.length * 6)) ∧ (w'.ownsRow base 91 6 s1 k.i.es.length (mkEs k0 (k.i.es.length * 6)) ∧ w'.ownsRow base 91 6 s2 k.d.es.length (mkEs (k0 + k.i.es.length * 6) (k.d.es.length * 6)) ∧ w'.ownsRow base 91 6 s3 k.p.es.length (mkEs (k0 + k.i.es.length * 6 + k.d.es.length * 6) (k.p.es.length * 6))) ∧ Mid (inRows s1 s2 s3) w w' := by
  have B1 := own_in h1
  have B2 := own_in h2
  have B3 := own_in h3
  have os : ∀ s n cs, w.ownsRow base 91 6 s n cs → ∃ a c, s = .slice a n c := fun s n cs h => by
    obtain ⟨a, c, e, _⟩ := rowS_own h
    exact ⟨a, c, e⟩
  obtain ⟨a1, c1, rfl⟩ := os _ _ _ h1
  obtain ⟨a2, c2, rfl⟩ := os _ _ _ h2
  obtain ⟨a3, c3, rfl⟩ := os _ _ _ h3
  have HH1 : Hid _ := h1
  have HH2 : Hid _ := h2
  have HH3 : Hid _ := h3
  clear os h1 h2 h3
  have n1 := (Below.refl w.heap.size w).alloc (Nat.le_refl _) (Obj.cells #[.int .i64 k.i.sets, .int .i64 k.i.ways, .slice a1 k.i.es.length c1, .int .i64 k.d.sets, .int .i64 k.d.ways, .slice a2 k.d.es.length c2, .int .i64 k.p.sets, .int .i64 k.p.ways, .slice a3 k.p.es.length c3] 29)
  have H1 : Hid ((w.alloc (Obj.cells #[.int .i64 k.i.sets, .int .i64 k.i.ways, .slice a1 k.i.es.length c1, .int .i64 k.d.sets, .int .i64 k.d.ways, .slice a2 k.d.es.length c2, .int .i64 k.p.sets, .int .i64 k.p.ways, .slice a3 k.p.es.length c3] 29)).heap[w.heap.size]? = some (.cells #[.int .i64 k.i.sets, .int .i64 k.i.ways, .slice a1 k.i.es.length c1, .int .i64 k.d.sets, .int .i64 k.d.ways, .slice a2 k.d.es.length c2, .int .i64 k.p.sets, .int .i64 k.p.ways, .slice a3 k.p.es.length c3] 29 (0, 0))) := heap_alloc_new w _
  go_enter Try.func53, Try.ntmps53
  go_wp2_with fail
  generalize w.alloc (Obj.cells #[.int .i64 k.i.sets, .int .i64 k.i.ways, .slice a1 k.i.es.length c1, .int .i64 k.d.sets, .int .i64 k.d.ways, .slice a2 k.d.es.length c2, .int .i64 k.p.sets, .int .i64 k.p.ways, .slice a3 k.p.es.length c3] 29) = u1 at n1 H1 ⊢
  have M1 : Mid (inRows (.slice a1 k.i.es.length c1) (.slice a2 k.d.es.length c2) (.slice a3 k.p.es.length c3)) w u1 := Mid.of_below n1
  have K1 : Hid _ := own_below HH1.out n1
  have K2 : Hid _ := own_below HH2.out n1
  have K3 : Hid _ := own_below HH3.out n1
  refine (markTlb_own k.i.sets k.i.ways base k.i.es.length _ _ k0 u1 K1.out l1 (by omega) (by omega)).mono ?_
  rintro e u2 ⟨rfl, r1, gm1⟩
  have M2 := M1.trans (Mid.of_gb gm1 (fun g hg => .inl hg))
  replace K1 : Hid _ := r1
  replace K2 : Hid _ := own_kept K2.out gm1 (apart_symm d12)
  replace K3 : Hid _ := own_kept K3.out gm1 (apart_symm d13)
  have X1 : Hid (u2.heap[w.heap.size]? = some (.cells #[.int .i64 k.i.sets, .int .i64 k.i.ways, .slice a1 k.i.es.length c1, .int .i64 k.d.sets, .int .i64 k.d.ways, .slice a2 k.d.es.length c2, .int .i64 k.p.sets, .int .i64 k.p.ways, .slice a3 k.p.es.length c3] 29 (0, 0))) := (gm1.block w.heap.size (Array.getElem?_eq_some_iff.1 H1.out).1 (fun e => by have := B1 _ e.symm; omega)).trans H1.out
  replace H1 := X1
  clear r1 gm1 X1
  obtain ⟨b0, b1, b2, b3, b4, b5, b6, b7, b8⟩ := nine_cells H1.out
  go_wp2_with fail
  clear b0 b1 b2 b3 b4 b5 b6 b7 b8
  refine (markTlb_own k.d.sets k.d.ways base k.d.es.length _ _ (k0 + k.i.es.length * 6) u2 K2.out l2 (by omega) (by omega)).mono ?_
  rintro e u3 ⟨rfl, r2, gm2⟩
  have M3 := M2.trans (Mid.of_gb gm2 (fun g hg => .inr (.inl hg)))
  replace K1 : Hid _ := own_kept K1.out gm2 d12
  replace K2 : Hid _ := r2
  replace K3 : Hid _ := own_kept K3.out gm2 (apart_symm d23)
  have X2 : Hid (u3.heap[w.heap.size]? = some (.cells #[.int .i64 k.i.sets, .int .i64 k.i.ways, .slice a1 k.i.es.length c1, .int .i64 k.d.sets, .int .i64 k.d.ways, .slice a2 k.d.es.length c2, .int .i64 k.p.sets, .int .i64 k.p.ways, .slice a3 k.p.es.length c3] 29 (0, 0))) := (gm2.block w.heap.size (Array.getElem?_eq_some_iff.1 H1.out).1 (fun e => by have := B2 _ e.symm; omega)).trans H1.out
  replace H1 := X2
  clear r2 gm2 X2
  obtain ⟨b0, b1, b2, b3, b4, b5, b6, b7, b8⟩ := nine_cells H1.out
  go_wp2_with fail
  clear b0 b1 b2 b3 b4 b5 b6 b7 b8
  refine (markTlb_own k.p.sets k.p.ways base k.p.es.length _ _ (k0 + k.i.es.length * 6 + k.d.es.length * 6) u3 K3.out l3 (by omega) (by omega)).mono ?_
  rintro e u4 ⟨rfl, r3, gm3⟩
  have M4 := M3.trans (Mid.of_gb gm3 (fun g hg => .inr (.inr hg)))
  replace K1 : Hid _ := own_kept K1.out gm3 d13
  replace K2 : Hid _ := own_kept K2.out gm3 d23
  replace K3 : Hid _ := r3
  have X3 : Hid (u4.heap[w.heap.size]? = some (.cells #[.int .i64 k.i.sets, .int .i64 k.i.ways, .slice a1 k.i.es.length c1, .int .i64 k.d.sets, .int .i64 k.d.ways, .slice a2 k.d.es.length c2, .int .i64 k.p.sets, .int .i64 k.p.ways, .slice a3 k.p.es.length c3] 29 (0, 0))) := (gm3.block w.heap.size (Array.getElem?_eq_some_iff.1 H1.out).1 (fun e => by have := B3 _ e.symm; omega)).trans H1.out
  replace H1 := X3
  clear r3 gm3 X3
  obtain ⟨b0, b1, b2, b3, b4, b5, b6, b7, b8⟩ := nine_cells H1.out
  go_wp2_with fail
  clear b0 b1 b2 b3 b4 b5 b6 b7 b8
  go_ret
  exact ⟨rfl, ⟨K1.out, K2.out, K3.out⟩, M4⟩

set_option maxRecDepth 20000 in
set_option maxHeartbeats 1600000 in
theorem heldCaches_own (k : KM) (base : Nat) (s1 s2 s3 : Value) (k0 : Int) (w : World) (h : w.ownsRow base 91 6 s1 k.i.es.length (mkEs k0 (k.i.es.length * 6)) ∧ w.ownsRow base 91 6 s2 k.d.es.length (mkEs (k0 + k.i.es.length * 6) (k.d.es.length * 6)) ∧ w.ownsRow base 91 6 s3 k.p.es.length (mkEs (k0 + k.i.es.length * 6 + k.d.es.length * 6) (k.p.es.length * 6))) (l1 : k.i.es.length ≤ 1048576) (l2 : k.d.es.length ≤ 1048576) (l3 : k.p.es.length ≤ 1048576) (hk0 : 0 ≤ k0) (hk1 : k0 ≤ 1048577) :
    Calls Try.prog 56 #[.agg #[.int .i64 k.i.sets, .int .i64 k.i.ways, s1, .int .i64 k.d.sets, .int .i64 k.d.ways, s2, .int .i64 k.p.sets, .int .i64 k.p.ways, s3], .int .i64 k0] w fun e w' => e = .returned (.int .i64 (k0 + k.i.es.length * 6 + k.d.es.length * 6 + k.p.es.length * 6)) ∧ Below w.heap.size w w' := by
  obtain ⟨h1, h2, h3⟩ := h
  have os : ∀ s n cs, w.ownsRow base 91 6 s n cs → ∃ a c, s = .slice a n c := fun s n cs h => by
    obtain ⟨a, c, e, _⟩ := rowS_own h
    exact ⟨a, c, e⟩
  obtain ⟨a1, c1, rfl⟩ := os _ _ _ h1
  obtain ⟨a2, c2, rfl⟩ := os _ _ _ h2
  obtain ⟨a3, c3, rfl⟩ := os _ _ _ h3
  have HH1 : Hid _ := h1
  have HH2 : Hid _ := h2
  have HH3 : Hid _ := h3
  clear os h1 h2 h3
  have n1 := (Below.refl w.heap.size w).alloc (Nat.le_refl _) (Obj.cells #[.int .i64 k.i.sets, .int .i64 k.i.ways, .slice a1 k.i.es.length c1, .int .i64 k.d.sets, .int .i64 k.d.ways, .slice a2 k.d.es.length c2, .int .i64 k.p.sets, .int .i64 k.p.ways, .slice a3 k.p.es.length c3] 29)
  have H1 : Hid ((w.alloc (Obj.cells #[.int .i64 k.i.sets, .int .i64 k.i.ways, .slice a1 k.i.es.length c1, .int .i64 k.d.sets, .int .i64 k.d.ways, .slice a2 k.d.es.length c2, .int .i64 k.p.sets, .int .i64 k.p.ways, .slice a3 k.p.es.length c3] 29)).heap[w.heap.size]? = some (.cells #[.int .i64 k.i.sets, .int .i64 k.i.ways, .slice a1 k.i.es.length c1, .int .i64 k.d.sets, .int .i64 k.d.ways, .slice a2 k.d.es.length c2, .int .i64 k.p.sets, .int .i64 k.p.ways, .slice a3 k.p.es.length c3] 29 (0, 0))) := heap_alloc_new w _
  have t1 : decide (k0 + k.i.es.length * 6 < 0) = false := by simp; omega
  have t2 : decide (k0 + k.i.es.length * 6 + k.d.es.length * 6 < 0) = false := by simp; omega
  have t3 : decide (k0 + k.i.es.length * 6 + k.d.es.length * 6 + k.p.es.length * 6 < 0) = false := by simp; omega
  go_enter Try.func56, Try.ntmps56
  go_wp2_with fail
  generalize w.alloc (Obj.cells #[.int .i64 k.i.sets, .int .i64 k.i.ways, .slice a1 k.i.es.length c1, .int .i64 k.d.sets, .int .i64 k.d.ways, .slice a2 k.d.es.length c2, .int .i64 k.p.sets, .int .i64 k.p.ways, .slice a3 k.p.es.length c3] 29) = u1 at n1 H1 ⊢
  refine (heldTlb_own k.i.sets k.i.ways base k.i.es.length _ k0 u1 (own_below HH1.out n1) l1 (by omega) (by omega)).mono ?_
  rintro e u2 ⟨rfl, m1⟩
  have n2 := Below.step n1 m1 (Nat.le_refl _)
  replace H1 := hid_keep H1 m1
  obtain ⟨b0, b1, b2, b3, b4, b5, b6, b7, b8⟩ := nine_cells H1.out
  go_wp2_with fail
  clear b0 b1 b2 b3 b4 b5 b6 b7 b8
  refine (heldTlb_own k.d.sets k.d.ways base k.d.es.length _ (k0 + k.i.es.length * 6) u2 (own_below HH2.out n2) l2 (by omega) (by omega)).mono ?_
  rintro e u3 ⟨rfl, m2⟩
  have n3 := Below.step n2 m2 (Nat.le_refl _)
  replace H1 := hid_keep H1 m2
  obtain ⟨b0, b1, b2, b3, b4, b5, b6, b7, b8⟩ := nine_cells H1.out
  go_wp2_with fail
  clear b0 b1 b2 b3 b4 b5 b6 b7 b8
  refine (heldTlb_own k.p.sets k.p.ways base k.p.es.length _ (k0 + k.i.es.length * 6 + k.d.es.length * 6) u3 (own_below HH3.out n3) l3 (by omega) (by omega)).mono ?_
  rintro e u4 ⟨rfl, m3⟩
  have n4 := Below.step n3 m3 (Nat.le_refl _)
  replace H1 := hid_keep H1 m3
  obtain ⟨b0, b1, b2, b3, b4, b5, b6, b7, b8⟩ := nine_cells H1.out
  go_wp2_with fail
  clear b0 b1 b2 b3 b4 b5 b6 b7 b8
  go_ret
  exact ⟨rfl, n4⟩

end Go.Proofs.Ythekickjjaleaac
