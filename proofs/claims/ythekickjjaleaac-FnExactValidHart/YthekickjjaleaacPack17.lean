import Derived.Test.YthekickjjaleaacPack14
import Derived.Test.YthekickjjaleaacPack07
import Derived.Test.YthekickjjaleaacPack10
import Derived.Test.YthekickjjaleaacPack16
/- The laws' helpers toUint64S, szUint64S, szCaches, szHart, toHart. Written by mkvh.py. -/
namespace Go.Proofs.Ythekickjjaleaac
open Go.RowKit
set_option linter.unusedVariables false
attribute [local go_sem ↓] Go.wp_at_zero Go.wp_at_succ

theorem tlbIn.ok {w : World} {t : TlbM} {a : Option Addr} {cap : Nat} (h : tlbIn w t a cap) (hl : t.es.length ≤ 1048576) : tlbOk t := ⟨h.2.1, h.2.2.1, h.2.2.2.1, hl⟩

theorem made_len1 (v : Value) (n : Nat) : (madeCells #[v] n).toList.length = n := by rw [made_one, List.length_replicate]

theorem numsC_ln (xs : List Int) : (numsC xs).length = xs.length := by simp [numsC]

/-- What is known of a hart that was handed in. -/
structure HartArg (w : World) (p : PtrM) (h : HartM) : Prop where
  mem : Byt w p.am h.mem.length h.mem
  regs : RowC w p.ar h.regs.length 1 (numsC h.regs)
  t1 : tlbIn w h.k.i p.a1 p.c1
  t2 : tlbIn w h.k.d p.a2 p.c2
  t3 : tlbIn w h.k.p p.a3 p.c3

set_option maxRecDepth 20000 in
set_option maxHeartbeats 800000 in
theorem toUint64S_any (a : Option Addr) (len cap : Nat) (xs : List Int) (w : World) (h : RowC w a len 1 (numsC xs)) (hx : xs.length = len) (hl : len ≤ 1048576) :
    Calls Try.prog 39 #[.slice a len cap] w fun e w' =>
      e = .returned (.slice (some ⟨w.heap.size, 0, none⟩) len len) ∧ w'.ownsRow w.heap.size 24 1 (.slice (some ⟨w.heap.size, 0, none⟩) len len) len (numsC xs) ∧ Below w.heap.size w w' := by
  obtain ⟨i0, hi, hz0, hz1, hz2⟩ := info_parts Try.infoU
  have HX : Hid (xs.length = len) := hx
  obtain ⟨_, h3⟩ := h
  clear hx
  go_enter Try.func39, Try.ntmps39
  go_wp2_with (at_make; refine wpList_make_full _ rfl _ _ 23 rfl w.heap.size 24 i0 (.int .u64 0) 1 Try.underlying23 hi hz0 hz1 _ _ _ _ len rfl rfl rfl rfl ?b2 ?b3 (Nat.le_refl _) ?_)
  case b2 => rw [hz2]; omega
  case b3 => unfold maxLen; omega
  intro w0 hown0 hgrow0
  have hn0 : Below w.heap.size w w0 := (Below.refl _ _).grown hgrow0 (Nat.le_refl _) (fun k h => by cases h)
  clear hgrow0
  have HO : Hid _ := hown0
  clear hown0
  go_wp2
  go_loopw [4] (fun i wr => ∃ (k : Nat) (ys : List Value), k ≤ len ∧ i = .int .i64 k ∧ ys.length = len ∧ (∀ j, j < k → ys[j]? = (numsC xs)[j]?) ∧ wr.ownsRow w.heap.size 24 1 (.slice (some ⟨w.heap.size, 0, none⟩) len len) len ys ∧ Below w.heap.size w wr) (fun i _ => len - (intOf i).toNat)
  case atStart => exact ⟨0, _, Nat.zero_le _, rfl, by rw [made_len1], fun j hj => absurd hj (by omega), HO.out, hn0⟩
  case round =>
    clear HO
    obtain ⟨k, ys, hk, rfl, hy, hyz, hb, hn⟩ := hrel
    by_cases hlt : k < len
    · rcases h3 with h3 | ⟨b, off, rfl, hbw, hc⟩
      · omega
      have hxk : (numsC xs)[k]? = some (.int .u64 (xs[k]?.getD 0)) := by
        have := HX.out
        simp [numsC, List.getElem?_eq_getElem (show k < xs.length by omega)]
      have g1 : wr.cell? ⟨b, off + k, none⟩ = some (.int .u64 (xs[k]?.getD 0)) := (hn.cell (by exact hbw)).trans (hc k _ hxk)
      have y0 := own_cell hb k _ (List.getElem?_eq_getElem (by omega))
      generalize ys[k]'_ = z0 at y0
      have r0 := own_free hb k
      have HZ : Hid (∀ j, j < k → ys[j]? = (numsC xs)[j]?) := hyz
      have HB : Hid _ := hb
      have HXK : Hid _ := hxk
      clear hc hn0 hyz hb hxk
      generalize xs[k]?.getD 0 = xk at *
      go_wp2
      go_roundw
      case rel =>
        refine ⟨k + 1, _, by omega, by go_num, by rw [List.length_set]; exact hy, ?_, own_store HB.out _ _, hn.setCell (Nat.le_refl _) _⟩
        intro j hj
        by_cases e : j = k
        · subst e
          rw [List.getElem?_set_self (by omega), HXK.out]
        · rw [List.getElem?_set_ne (Ne.symm e)]
          exact HZ.out j (by omega)
      case measure => simp [intOf]; omega
    · have hyy : ys = numsC xs := by
        apply List.ext_getElem?
        intro j
        by_cases hj : j < len
        · exact hyz j (by omega)
        · rw [List.getElem?_eq_none (by omega), List.getElem?_eq_none (by rw [numsC_ln, HX.out]; omega)]
      subst hyy
      have HB : Hid _ := hb
      clear hyz hn0 h3 hb
      go_wp2
      go_ret
      exact ⟨rfl, HB.out, hn⟩

theorem szUint64S_any (a : Option Addr) (n cap : Nat) (left : Int) (w : World) (hn : (n : Int) ≤ 9223372036854775807) (h0 : 0 ≤ left) (h1 : left ≤ 1048576) :
    Calls Try.prog 36 #[.slice a n cap, .int .i64 left] w fun e w' => e = .returned (.int .i64 (if left < n then -1 else left - n)) ∧ w' = w := by
  by_cases h : left < n
  · rw [if_pos h]
    have d : decide (left - n < 0) = true := by simp; omega
    go_enter Try.func36, Try.ntmps36
    go_wp2_with fail
    go_ret
    exact ⟨rfl, rfl⟩
  · rw [if_neg h]
    have d : decide (left - n < 0) = false := by simp; omega
    go_enter Try.func36, Try.ntmps36
    go_wp2_with fail
    go_ret
    exact ⟨rfl, rfl⟩

theorem szByteS_any (a : Option Addr) (n cap : Nat) (left : Int) (w : World) (hn : (n : Int) ≤ 9223372036854775807) (h0 : 0 ≤ left) (h1 : left ≤ 1048576) :
    Calls Try.prog 35 #[.slice a n cap, .int .i64 left] w fun e w' => e = .returned (.int .i64 (if left < n then -1 else left - n)) ∧ w' = w := by
  by_cases h : left < n
  · rw [if_pos h]
    have d : decide (left - n < 0) = true := by simp; omega
    go_enter Try.func35, Try.ntmps35
    go_wp2_with fail
    go_ret
    exact ⟨rfl, rfl⟩
  · rw [if_neg h]
    have d : decide (left - n < 0) = false := by simp; omega
    go_enter Try.func35, Try.ntmps35
    go_wp2_with fail
    go_ret
    exact ⟨rfl, rfl⟩

set_option maxRecDepth 20000 in
theorem szCaches_left (k : KM) (a1 a2 a3 : Option Addr) (c1 c2 c3 : Nat) (left : Int) (w : World) (f0 : 0 ≤ left) (f1 : left ≤ 1048576) (l1 : (k.i.es.length : Int) ≤ 9223372036854775807) (l2 : (k.d.es.length : Int) ≤ 9223372036854775807) (l3 : (k.p.es.length : Int) ≤ 9223372036854775807) :
    Calls Try.prog 37 #[.agg #[.int .i64 k.i.sets, .int .i64 k.i.ways, .slice a1 k.i.es.length c1, .int .i64 k.d.sets, .int .i64 k.d.ways, .slice a2 k.d.es.length c2, .int .i64 k.p.sets, .int .i64 k.p.ways, .slice a3 k.p.es.length c3], .int .i64 left] w fun e w' => (∃ r : Int, e = .returned (.int .i64 r) ∧ -1 ≤ r ∧ r ≤ left ∧ (0 ≤ r → k.i.es.length ≤ 1048576 ∧ k.d.es.length ≤ 1048576 ∧ k.p.es.length ≤ 1048576)) ∧ Below w.heap.size w w' := by
  have S1 : Hid (∀ left, 0 ≤ left → left ≤ 1048576 → ∀ u, Calls Try.prog 57 #[.agg #[.int .i64 k.i.sets, .int .i64 k.i.ways, .slice a1 k.i.es.length c1], .int .i64 left] u fun e w' => e = .returned (.int .i64 (if left < k.i.es.length then -1 else left - k.i.es.length)) ∧ Below u.heap.size u w') := fun left h0 h1 u => szTlb_any _ _ _ _ _ left u l1 h0 h1
  have S2 : Hid (∀ left, 0 ≤ left → left ≤ 1048576 → ∀ u, Calls Try.prog 57 #[.agg #[.int .i64 k.d.sets, .int .i64 k.d.ways, .slice a2 k.d.es.length c2], .int .i64 left] u fun e w' => e = .returned (.int .i64 (if left < k.d.es.length then -1 else left - k.d.es.length)) ∧ Below u.heap.size u w') := fun left h0 h1 u => szTlb_any _ _ _ _ _ left u l2 h0 h1
  have S3 : Hid (∀ left, 0 ≤ left → left ≤ 1048576 → ∀ u, Calls Try.prog 57 #[.agg #[.int .i64 k.p.sets, .int .i64 k.p.ways, .slice a3 k.p.es.length c3], .int .i64 left] u fun e w' => e = .returned (.int .i64 (if left < k.p.es.length then -1 else left - k.p.es.length)) ∧ Below u.heap.size u w') := fun left h0 h1 u => szTlb_any _ _ _ _ _ left u l3 h0 h1
  have n1 := (Below.refl w.heap.size w).alloc (Nat.le_refl _) (Obj.cells #[.int .i64 k.i.sets, .int .i64 k.i.ways, .slice a1 k.i.es.length c1, .int .i64 k.d.sets, .int .i64 k.d.ways, .slice a2 k.d.es.length c2, .int .i64 k.p.sets, .int .i64 k.p.ways, .slice a3 k.p.es.length c3] 46)
  have H1 : Hid ((w.alloc (Obj.cells #[.int .i64 k.i.sets, .int .i64 k.i.ways, .slice a1 k.i.es.length c1, .int .i64 k.d.sets, .int .i64 k.d.ways, .slice a2 k.d.es.length c2, .int .i64 k.p.sets, .int .i64 k.p.ways, .slice a3 k.p.es.length c3] 46)).heap[w.heap.size]? = some (.cells #[.int .i64 k.i.sets, .int .i64 k.i.ways, .slice a1 k.i.es.length c1, .int .i64 k.d.sets, .int .i64 k.d.ways, .slice a2 k.d.es.length c2, .int .i64 k.p.sets, .int .i64 k.p.ways, .slice a3 k.p.es.length c3] 46 (0, 0))) := heap_alloc_new w _
  go_enter Try.func37, Try.ntmps37
  go_wp2_with fail
  generalize w.alloc (Obj.cells #[.int .i64 k.i.sets, .int .i64 k.i.ways, .slice a1 k.i.es.length c1, .int .i64 k.d.sets, .int .i64 k.d.ways, .slice a2 k.d.es.length c2, .int .i64 k.p.sets, .int .i64 k.p.ways, .slice a3 k.p.es.length c3] 46) = u1 at n1 H1 ⊢
  refine (S1.out left (by omega) (by omega) u1).mono ?_
  rintro e u2 ⟨rfl, m1⟩
  have n2 := Below.step n1 m1 (Nat.le_refl _)
  have H2 := hid_keep H1 m1
  obtain ⟨b0, b1, b2, b3, b4, b5, b6, b7, b8⟩ := nine_cells H2.out
  by_cases t1 : left < k.i.es.length
  · rw [if_pos t1]
    clear t1
    go_wp2_with fail
    go_ret
    exact ⟨⟨-1, rfl, by omega, by omega, fun h => by omega⟩, n2⟩
  rw [if_neg t1]
  have d1 : decide (left - k.i.es.length < 0) = false := by simp; omega
  obtain ⟨x1, hx1⟩ : ∃ x1, left - k.i.es.length = x1 := ⟨_, rfl⟩
  rw [hx1] at d1 ⊢
  go_wp2_with fail
  refine (S2.out x1 (by omega) (by omega) u2).mono ?_
  rintro e u3 ⟨rfl, m2⟩
  have n3 := Below.step n2 m2 (Nat.le_refl _)
  have H3 := hid_keep H2 m2
  clear b0 b1 b2 b3 b4 b5 b6 b7 b8
  obtain ⟨b0, b1, b2, b3, b4, b5, b6, b7, b8⟩ := nine_cells H3.out
  by_cases t2 : x1 < k.d.es.length
  · rw [if_pos t2]
    clear t2
    go_wp2_with fail
    go_ret
    exact ⟨⟨-1, rfl, by omega, by omega, fun h => by omega⟩, n3⟩
  rw [if_neg t2]
  have d2 : decide (x1 - k.d.es.length < 0) = false := by simp; omega
  obtain ⟨x2, hx2⟩ : ∃ x2, x1 - k.d.es.length = x2 := ⟨_, rfl⟩
  rw [hx2] at d2 ⊢
  go_wp2_with fail
  refine (S3.out x2 (by omega) (by omega) u3).mono ?_
  rintro e u4 ⟨rfl, m3⟩
  have n4 := Below.step n3 m3 (Nat.le_refl _)
  by_cases t3 : x2 < k.p.es.length
  · rw [if_pos t3]
    clear t3
    go_wp2_with fail
    go_ret
    exact ⟨⟨-1, rfl, by omega, by omega, fun h => by omega⟩, n4⟩
  rw [if_neg t3]
  have d3 : decide (x2 - k.p.es.length < 0) = false := by simp; omega
  obtain ⟨x3, hx3⟩ : ∃ x3, x2 - k.p.es.length = x3 := ⟨_, rfl⟩
  rw [hx3] at d3 ⊢
  go_wp2_with fail
  go_ret
  exact ⟨⟨x3, rfl, by omega, by omega, fun h => ⟨by omega, by omega, by omega⟩⟩, n4⟩

set_option maxRecDepth 20000 in
set_option maxHeartbeats 1600000 in
theorem szHart_any (p : PtrM) (h : HartM) (w : World) (lm : (h.mem.length : Int) ≤ 9223372036854775807) (lr : (h.regs.length : Int) ≤ 9223372036854775807) (l1 : (h.k.i.es.length : Int) ≤ 9223372036854775807) (l2 : (h.k.d.es.length : Int) ≤ 9223372036854775807) (l3 : (h.k.p.es.length : Int) ≤ 9223372036854775807) :
    Calls Try.prog 13 #[.agg (hartA p h), .int .i64 1048576] w fun e w' => (∃ r : Int, e = .returned (.int .i64 r) ∧ -1 ≤ r ∧ r ≤ 1048576 ∧ (0 ≤ r → HartB h)) ∧ Below w.heap.size w w' := by
  have F := alloc1 w (hartA p h) 48
  have A0 : Hid ((hartA p h)[0]? = some (.slice p.am h.mem.length p.cm)) := by show _ = _; rfl
  have A1 : Hid ((hartA p h)[1]? = some (.slice p.ar h.regs.length p.cr)) := by show _ = _; rfl
  have KP : Hid (((hartA p h).toList.drop 12).take 9 = (kA p h.k).toList) := by show _ = _; rfl
  have S1 : Hid (∀ left, 0 ≤ left → left ≤ 1048576 → ∀ u, Calls Try.prog 35 #[.slice p.am h.mem.length p.cm, .int .i64 left] u fun e w' => e = .returned (.int .i64 (if left < h.mem.length then -1 else left - h.mem.length)) ∧ w' = u) := fun left h0 h1 u => szByteS_any _ _ _ left u lm h0 h1
  have S2 : Hid (∀ left, 0 ≤ left → left ≤ 1048576 → ∀ u, Calls Try.prog 36 #[.slice p.ar h.regs.length p.cr, .int .i64 left] u fun e w' => e = .returned (.int .i64 (if left < h.regs.length then -1 else left - h.regs.length)) ∧ w' = u) := fun left h0 h1 u => szUint64S_any _ _ _ left u lr h0 h1
  have S3 : Hid (∀ left, 0 ≤ left → left ≤ 1048576 → ∀ u, Calls Try.prog 37 #[.agg (kA p h.k), .int .i64 left] u fun e w' => (∃ r : Int, e = .returned (.int .i64 r) ∧ -1 ≤ r ∧ r ≤ left ∧ (0 ≤ r → h.k.i.es.length ≤ 1048576 ∧ h.k.d.es.length ≤ 1048576 ∧ h.k.p.es.length ≤ 1048576)) ∧ Below u.heap.size u w') := fun left h0 h1 u => szCaches_left h.k _ _ _ _ _ _ left u h0 h1 l1 l2 l3
  clear l1 l2 l3
  generalize hartA p h = A at *
  go_enter Try.func13, Try.ntmps13
  go_upto_region 1 with fail
  generalize (w.alloc (Obj.cells A 48)) = u0 at F ⊢
  obtain ⟨f1, hz, n0⟩ := F
  have H1 : Hid _ := f1
  clear f1
  have c0 := box_cell H1.out 0 A0.out
  have c1 := box_cell H1.out 1 A1.out
  have J1 : Hid _ := box_load (P := Try.prog) (T := 46) H1.out Try.underlying46 rfl (o := 12) (kA p h.k).toList (by kernel_rfl) KP.out rfl
  rw [show (kA p h.k).toList.toArray = kA p h.k from rfl] at J1
  generalize kA p h.k = KA at *
  go_wp2_with fail
  refine (S1.out 1048576 (by omega) (by omega) u0).mono ?_
  rintro e _ ⟨rfl, rfl⟩
  by_cases t1 : (1048576 : Int) < h.mem.length
  · rw [if_pos t1]
    clear t1
    go_wp2_with fail
    go_ret
    exact ⟨⟨-1, rfl, by omega, by omega, fun h => by omega⟩, n0⟩
  rw [if_neg t1]
  have d1 : decide ((1048576 : Int) - h.mem.length < 0) = false := by simp; omega
  obtain ⟨x1, hx1⟩ : ∃ x1, (1048576 : Int) - h.mem.length = x1 := ⟨_, rfl⟩
  rw [hx1] at d1 ⊢
  go_wp2_with fail
  refine (S2.out x1 (by omega) (by omega) _).mono ?_
  rintro e _ ⟨rfl, rfl⟩
  by_cases t2 : x1 < h.regs.length
  · rw [if_pos t2]
    clear t2
    go_wp2_with fail
    go_ret
    exact ⟨⟨-1, rfl, by omega, by omega, fun h => by omega⟩, n0⟩
  rw [if_neg t2]
  have d2 : decide (x1 - h.regs.length < 0) = false := by simp; omega
  obtain ⟨x2, hx2⟩ : ∃ x2, x1 - h.regs.length = x2 := ⟨_, rfl⟩
  rw [hx2] at d2 ⊢
  go_wp2_with (first | ((with_reducible refine wpl_load ?_ J1.out ?_); (exact rfl)))
  refine (S3.out x2 (by omega) (by omega) _).mono ?_
  rintro e u3 ⟨⟨r, rfl, r1, r2, r3⟩, m3⟩
  have n3 := Below.step n0 m3 (Nat.le_refl _)
  have R3 : Hid (0 ≤ r → HartB h) := fun h0 => ⟨by omega, by omega, (r3 h0).1, (r3 h0).2.1, (r3 h0).2.2⟩
  clear r3 m3 J1 H1 c0 c1
  by_cases t3 : r < 0
  · have d3 : decide (r < 0) = true := by simp; omega
    go_wp2_with fail
    go_ret
    exact ⟨⟨-1, rfl, by omega, by omega, fun h => by omega⟩, n3⟩
  · have d3 : decide (r < 0) = false := by simp; omega
    go_wp2_with fail
    go_ret
    exact ⟨⟨r, rfl, by omega, by omega, R3.out⟩, n3⟩

set_option maxRecDepth 20000 in
set_option maxHeartbeats 3200000 in
theorem toHart_any (p : PtrM) (h : HartM) (w : World) (hi : HartArg w p h) (hb : HartB h) :
    Calls Try.prog 15 #[.agg (hartA p h)] w fun e w' => (∃ p', e = .returned (.agg (hartA p' h)) ∧ HartIn w' p' h) ∧ Below w.heap.size w w' := by
  have S1 : Hid (∀ u, Below w.heap.size w u → Calls Try.prog 6 #[.slice p.am h.mem.length p.cm] u fun e w' => e = .returned (.slice (some ⟨u.heap.size, 0, none⟩) h.mem.length h.mem.length) ∧ Blk 5 w' u.heap.size h.mem ∧ Below u.heap.size u w') := fun u hu => toByteS_any _ _ _ h.mem u (hi.mem.keep hu) hb.m
  have S2 : Hid (∀ u, Below w.heap.size w u → Calls Try.prog 39 #[.slice p.ar h.regs.length p.cr] u fun e w' => e = .returned (.slice (some ⟨u.heap.size, 0, none⟩) h.regs.length h.regs.length) ∧ w'.ownsRow u.heap.size 24 1 (.slice (some ⟨u.heap.size, 0, none⟩) h.regs.length h.regs.length) h.regs.length (numsC h.regs) ∧ Below u.heap.size u w') := fun u hu => toUint64S_any _ _ _ h.regs u (hi.regs.keep hu) rfl hb.r
  have S3 : Hid (∀ u, Below w.heap.size w u → Calls Try.prog 40 #[.agg (kA p h.k)] u fun e w' => (∃ x, e = .returned x ∧ KSep u.heap.size w' x h.k) ∧ Below u.heap.size u w') := fun u hu => toCaches_any h.k _ _ _ _ _ _ u (hi.t1.1.keep hu) (hi.t2.1.keep hu) (hi.t3.1.keep hu) hb.k1 hb.k2 hb.k3
  have HZ : Hid (∀ i : Nat, 0 ≤ h.mem[i]?.getD 0 ∧ h.mem[i]?.getD 0 ≤ 255) := hi.mem.2.1
  have HT : Hid (tlbOk h.k.i ∧ tlbOk h.k.d ∧ tlbOk h.k.p) := ⟨hi.t1.ok hb.k1, hi.t2.ok hb.k2, hi.t3.ok hb.k3⟩
  have bm := hb.m
  have br := hb.r
  clear hi hb
  have KP : Hid (((hartA p h).toList.drop 12).take 9 = (kA p h.k).toList) := by show _ = _; rfl
  have A0 : Hid ((hartA p h)[0]? = some (.slice p.am h.mem.length p.cm)) := by show _ = _; rfl
  have A1 : Hid ((hartA p h)[1]? = some (.slice p.ar h.regs.length p.cr)) := by show _ = _; rfl
  have A2 : Hid ((hartA p h)[2]? = some (.int .u64 h.pc)) := by show _ = _; rfl
  have A3 : Hid ((hartA p h)[3]? = some (.int .i64 h.mode)) := by show _ = _; rfl
  have A4 : Hid ((hartA p h)[4]? = some (.bool h.sum)) := by show _ = _; rfl
  have A5 : Hid ((hartA p h)[5]? = some (.bool h.mxr)) := by show _ = _; rfl
  have A6 : Hid ((hartA p h)[6]? = some (.int .u64 h.satp)) := by show _ = _; rfl
  have A7 : Hid ((hartA p h)[7]? = some (.int .u64 h.tvec)) := by show _ = _; rfl
  have A8 : Hid ((hartA p h)[8]? = some (.int .u64 h.epc)) := by show _ = _; rfl
  have A9 : Hid ((hartA p h)[9]? = some (.int .i64 h.emode)) := by show _ = _; rfl
  have A10 : Hid ((hartA p h)[10]? = some (.int .i64 h.cause)) := by show _ = _; rfl
  have A11 : Hid ((hartA p h)[11]? = some (.int .u64 h.tval)) := by show _ = _; rfl
  generalize hartA p h = A at *
  go_enter Try.func15, Try.ntmps15
  go_upto_region 2 with fail
  have F := alloc3 w A zhartA zhartA 48 31 31
  generalize ((w.alloc (Obj.cells A 48)).alloc (Obj.cells zhartA 31)).alloc (Obj.cells zhartA 31) = u0 at F ⊢
  obtain ⟨h0, h1, h2, l0, n0⟩ := F
  have H0 : Hid _ := h0
  have H1 : Hid _ := h1
  have H2 : Hid (u0.heap[w.heap.size + 2]? = some (.cells #[.slice none 0 0, .slice none 0 0, .int .u64 0, .int .i64 0, .bool false, .bool false, .int .u64 0, .int .u64 0, .int .u64 0, .int .i64 0, .int .i64 0, .int .u64 0, .int .i64 0, .int .i64 0, .slice none 0 0, .int .i64 0, .int .i64 0, .slice none 0 0, .int .i64 0, .int .i64 0, .slice none 0 0] 31 (0, 0))) := h2
  clear h0 h1 h2
  have ne0 : w.heap.size ≠ w.heap.size + 2 := by omega
  have ne1 : w.heap.size + 1 ≠ w.heap.size + 2 := by omega
  have c := box_cell H0.out 0 A0.out
  go_wp2_with fail
  refine (S1.out u0 n0).mono ?_
  rintro e v0 ⟨rfl, m, k⟩
  obtain ⟨gm, hgm⟩ : ∃ gm, u0.heap.size = gm := ⟨_, rfl⟩
  have lk := k.size
  have lm := m.lt
  replace n0 := Below.step n0 k (Nat.le_refl _)
  replace H0 := hid_keep H0 k
  replace H1 := hid_keep H1 k
  replace H2 := hid_keep H2 k
  have M : Hid (v0.heap[gm]? = some (.cells (h.mem.map (Value.int .u8)).toArray 5 (0, 0))) := hgm ▸ m
  rw [hgm] at lk lm ⊢
  clear m k c
  have t := box_cell H2.out 0 (v := .slice none 0 0) rfl
  have f := box_free H2.out 0
  have lt2 : w.heap.size + 2 < v0.heap.size := by omega
  go_upto_region 3 with fail
  replace n0 := bel_set n0 (show w.heap.size ≤ w.heap.size + 2 by omega) 0 (.slice (some ⟨gm, 0, none⟩) h.mem.length h.mem.length)
  replace H0 : Hid _ := box_off H0.out 0 (.slice (some ⟨gm, 0, none⟩) h.mem.length h.mem.length) ne0
  replace H1 : Hid _ := box_off H1.out 0 (.slice (some ⟨gm, 0, none⟩) h.mem.length h.mem.length) ne1
  replace H2 : Hid ((v0.setCell ⟨w.heap.size + 2, 0, none⟩ (.slice (some ⟨gm, 0, none⟩) h.mem.length h.mem.length)).heap[w.heap.size + 2]? = some (.cells #[.slice (some ⟨gm, 0, none⟩) h.mem.length h.mem.length, .slice none 0 0, .int .u64 0, .int .i64 0, .bool false, .bool false, .int .u64 0, .int .u64 0, .int .u64 0, .int .i64 0, .int .i64 0, .int .u64 0, .int .i64 0, .int .i64 0, .slice none 0 0, .int .i64 0, .int .i64 0, .slice none 0 0, .int .i64 0, .int .i64 0, .slice none 0 0] 31 (0, 0))) := box_set H2.out 0 (.slice (some ⟨gm, 0, none⟩) h.mem.length h.mem.length)
  have ls : v0.heap.size ≤ (v0.setCell ⟨w.heap.size + 2, 0, none⟩ (.slice (some ⟨gm, 0, none⟩) h.mem.length h.mem.length)).heap.size := by simp
  replace M : Hid _ := box_off M.out 0 (.slice (some ⟨gm, 0, none⟩) h.mem.length h.mem.length) (show gm ≠ w.heap.size + 2 by omega)
  generalize (v0.setCell ⟨w.heap.size + 2, 0, none⟩ (.slice (some ⟨gm, 0, none⟩) h.mem.length h.mem.length)) = u1 at n0 H0 H1 H2 ls M ⊢
  clear t f lt2
  have c := box_cell H0.out 1 A1.out
  go_wp2_with fail
  refine (S2.out u1 n0).mono ?_
  rintro e v1 ⟨rfl, r, k⟩
  obtain ⟨gr, hgr⟩ : ∃ gr, u1.heap.size = gr := ⟨_, rfl⟩
  have lk1 := k.size
  have lr := (own_at r).2
  simp only at lr
  replace n0 := Below.step n0 k (Nat.le_refl _)
  replace H0 := hid_keep H0 k
  replace H1 := hid_keep H1 k
  replace H2 := hid_keep H2 k
  replace M := hid_keep M k
  have R : Hid (v1.ownsRow gr 24 1 (.slice (some ⟨gr, 0, none⟩) h.regs.length h.regs.length) h.regs.length (numsC h.regs)) := hgr ▸ r
  rw [hgr] at lk1 lr ⊢
  clear r k c
  have lg1 : gm < v1.heap.size := by omega
  have t := box_cell H2.out 1 (v := .slice none 0 0) rfl
  have f := box_free H2.out 1
  have lt2 : w.heap.size + 2 < v1.heap.size := by omega
  go_upto_region 4 with fail
  replace n0 := bel_set n0 (show w.heap.size ≤ w.heap.size + 2 by omega) 1 (.slice (some ⟨gr, 0, none⟩) h.regs.length h.regs.length)
  replace H0 : Hid _ := box_off H0.out 1 (.slice (some ⟨gr, 0, none⟩) h.regs.length h.regs.length) ne0
  replace H1 : Hid _ := box_off H1.out 1 (.slice (some ⟨gr, 0, none⟩) h.regs.length h.regs.length) ne1
  replace H2 : Hid ((v1.setCell ⟨w.heap.size + 2, 1, none⟩ (.slice (some ⟨gr, 0, none⟩) h.regs.length h.regs.length)).heap[w.heap.size + 2]? = some (.cells #[.slice (some ⟨gm, 0, none⟩) h.mem.length h.mem.length, .slice (some ⟨gr, 0, none⟩) h.regs.length h.regs.length, .int .u64 0, .int .i64 0, .bool false, .bool false, .int .u64 0, .int .u64 0, .int .u64 0, .int .i64 0, .int .i64 0, .int .u64 0, .int .i64 0, .int .i64 0, .slice none 0 0, .int .i64 0, .int .i64 0, .slice none 0 0, .int .i64 0, .int .i64 0, .slice none 0 0] 31 (0, 0))) := box_set H2.out 1 (.slice (some ⟨gr, 0, none⟩) h.regs.length h.regs.length)
  have ls : v1.heap.size ≤ (v1.setCell ⟨w.heap.size + 2, 1, none⟩ (.slice (some ⟨gr, 0, none⟩) h.regs.length h.regs.length)).heap.size := by simp
  replace M : Hid _ := box_off M.out 1 (.slice (some ⟨gr, 0, none⟩) h.regs.length h.regs.length) (show gm ≠ w.heap.size + 2 by omega)
  replace R : Hid _ := own_gbn R.out (gb_set (gb_refl v1 (some (w.heap.size + 2))) 1 (.slice (some ⟨gr, 0, none⟩) h.regs.length h.regs.length)) (show gr ≠ w.heap.size + 2 by omega)
  generalize (v1.setCell ⟨w.heap.size + 2, 1, none⟩ (.slice (some ⟨gr, 0, none⟩) h.regs.length h.regs.length)) = u2 at n0 H0 H1 H2 ls M R ⊢
  have bgm : w.heap.size + 2 < gm := by omega
  have bgr : w.heap.size + 2 < gr := by omega
  have lgm : gm < u2.heap.size := by omega
  have lgr : gr < u2.heap.size := by omega
  clear t f lt2 ls lk lm lk1 lr lg1
  have c := box_cell H0.out 2 A2.out
  have t := box_cell H2.out 2 (v := .int .u64 0) rfl
  have f := box_free H2.out 2
  have lt2 : w.heap.size + 2 < u2.heap.size := by omega
  go_upto_region 5 with fail
  replace n0 := bel_set n0 (show w.heap.size ≤ w.heap.size + 2 by omega) 2 (.int .u64 h.pc)
  replace H0 : Hid _ := box_off H0.out 2 (.int .u64 h.pc) ne0
  replace H1 : Hid _ := box_off H1.out 2 (.int .u64 h.pc) ne1
  replace H2 : Hid ((u2.setCell ⟨w.heap.size + 2, 2, none⟩ (.int .u64 h.pc)).heap[w.heap.size + 2]? = some (.cells #[.slice (some ⟨gm, 0, none⟩) h.mem.length h.mem.length, .slice (some ⟨gr, 0, none⟩) h.regs.length h.regs.length, .int .u64 h.pc, .int .i64 0, .bool false, .bool false, .int .u64 0, .int .u64 0, .int .u64 0, .int .i64 0, .int .i64 0, .int .u64 0, .int .i64 0, .int .i64 0, .slice none 0 0, .int .i64 0, .int .i64 0, .slice none 0 0, .int .i64 0, .int .i64 0, .slice none 0 0] 31 (0, 0))) := box_set H2.out 2 (.int .u64 h.pc)
  have ls : u2.heap.size ≤ (u2.setCell ⟨w.heap.size + 2, 2, none⟩ (.int .u64 h.pc)).heap.size := by simp
  replace M : Hid _ := box_off M.out 2 (.int .u64 h.pc) (show gm ≠ w.heap.size + 2 by omega)
  replace R : Hid _ := own_gbn R.out (gb_set (gb_refl u2 (some (w.heap.size + 2))) 2 (.int .u64 h.pc)) (show gr ≠ w.heap.size + 2 by omega)
  generalize (u2.setCell ⟨w.heap.size + 2, 2, none⟩ (.int .u64 h.pc)) = u3 at n0 H0 H1 H2 ls M R ⊢
  replace lgm : gm < u3.heap.size := by omega
  replace lgr : gr < u3.heap.size := by omega
  clear c t f lt2 ls
  have c := box_cell H0.out 3 A3.out
  have t := box_cell H2.out 3 (v := .int .i64 0) rfl
  have f := box_free H2.out 3
  have lt2 : w.heap.size + 2 < u3.heap.size := by omega
  go_upto_region 6 with fail
  replace n0 := bel_set n0 (show w.heap.size ≤ w.heap.size + 2 by omega) 3 (.int .i64 h.mode)
  replace H0 : Hid _ := box_off H0.out 3 (.int .i64 h.mode) ne0
  replace H1 : Hid _ := box_off H1.out 3 (.int .i64 h.mode) ne1
  replace H2 : Hid ((u3.setCell ⟨w.heap.size + 2, 3, none⟩ (.int .i64 h.mode)).heap[w.heap.size + 2]? = some (.cells #[.slice (some ⟨gm, 0, none⟩) h.mem.length h.mem.length, .slice (some ⟨gr, 0, none⟩) h.regs.length h.regs.length, .int .u64 h.pc, .int .i64 h.mode, .bool false, .bool false, .int .u64 0, .int .u64 0, .int .u64 0, .int .i64 0, .int .i64 0, .int .u64 0, .int .i64 0, .int .i64 0, .slice none 0 0, .int .i64 0, .int .i64 0, .slice none 0 0, .int .i64 0, .int .i64 0, .slice none 0 0] 31 (0, 0))) := box_set H2.out 3 (.int .i64 h.mode)
  have ls : u3.heap.size ≤ (u3.setCell ⟨w.heap.size + 2, 3, none⟩ (.int .i64 h.mode)).heap.size := by simp
  replace M : Hid _ := box_off M.out 3 (.int .i64 h.mode) (show gm ≠ w.heap.size + 2 by omega)
  replace R : Hid _ := own_gbn R.out (gb_set (gb_refl u3 (some (w.heap.size + 2))) 3 (.int .i64 h.mode)) (show gr ≠ w.heap.size + 2 by omega)
  generalize (u3.setCell ⟨w.heap.size + 2, 3, none⟩ (.int .i64 h.mode)) = u4 at n0 H0 H1 H2 ls M R ⊢
  replace lgm : gm < u4.heap.size := by omega
  replace lgr : gr < u4.heap.size := by omega
  clear c t f lt2 ls
  have c := box_cell H0.out 4 A4.out
  have t := box_cell H2.out 4 (v := .bool false) rfl
  have f := box_free H2.out 4
  have lt2 : w.heap.size + 2 < u4.heap.size := by omega
  go_upto_region 7 with fail
  replace n0 := bel_set n0 (show w.heap.size ≤ w.heap.size + 2 by omega) 4 (.bool h.sum)
  replace H0 : Hid _ := box_off H0.out 4 (.bool h.sum) ne0
  replace H1 : Hid _ := box_off H1.out 4 (.bool h.sum) ne1
  replace H2 : Hid ((u4.setCell ⟨w.heap.size + 2, 4, none⟩ (.bool h.sum)).heap[w.heap.size + 2]? = some (.cells #[.slice (some ⟨gm, 0, none⟩) h.mem.length h.mem.length, .slice (some ⟨gr, 0, none⟩) h.regs.length h.regs.length, .int .u64 h.pc, .int .i64 h.mode, .bool h.sum, .bool false, .int .u64 0, .int .u64 0, .int .u64 0, .int .i64 0, .int .i64 0, .int .u64 0, .int .i64 0, .int .i64 0, .slice none 0 0, .int .i64 0, .int .i64 0, .slice none 0 0, .int .i64 0, .int .i64 0, .slice none 0 0] 31 (0, 0))) := box_set H2.out 4 (.bool h.sum)
  have ls : u4.heap.size ≤ (u4.setCell ⟨w.heap.size + 2, 4, none⟩ (.bool h.sum)).heap.size := by simp
  replace M : Hid _ := box_off M.out 4 (.bool h.sum) (show gm ≠ w.heap.size + 2 by omega)
  replace R : Hid _ := own_gbn R.out (gb_set (gb_refl u4 (some (w.heap.size + 2))) 4 (.bool h.sum)) (show gr ≠ w.heap.size + 2 by omega)
  generalize (u4.setCell ⟨w.heap.size + 2, 4, none⟩ (.bool h.sum)) = u5 at n0 H0 H1 H2 ls M R ⊢
  replace lgm : gm < u5.heap.size := by omega
  replace lgr : gr < u5.heap.size := by omega
  clear c t f lt2 ls
  have c := box_cell H0.out 5 A5.out
  have t := box_cell H2.out 5 (v := .bool false) rfl
  have f := box_free H2.out 5
  have lt2 : w.heap.size + 2 < u5.heap.size := by omega
  go_upto_region 8 with fail
  replace n0 := bel_set n0 (show w.heap.size ≤ w.heap.size + 2 by omega) 5 (.bool h.mxr)
  replace H0 : Hid _ := box_off H0.out 5 (.bool h.mxr) ne0
  replace H1 : Hid _ := box_off H1.out 5 (.bool h.mxr) ne1
  replace H2 : Hid ((u5.setCell ⟨w.heap.size + 2, 5, none⟩ (.bool h.mxr)).heap[w.heap.size + 2]? = some (.cells #[.slice (some ⟨gm, 0, none⟩) h.mem.length h.mem.length, .slice (some ⟨gr, 0, none⟩) h.regs.length h.regs.length, .int .u64 h.pc, .int .i64 h.mode, .bool h.sum, .bool h.mxr, .int .u64 0, .int .u64 0, .int .u64 0, .int .i64 0, .int .i64 0, .int .u64 0, .int .i64 0, .int .i64 0, .slice none 0 0, .int .i64 0, .int .i64 0, .slice none 0 0, .int .i64 0, .int .i64 0, .slice none 0 0] 31 (0, 0))) := box_set H2.out 5 (.bool h.mxr)
  have ls : u5.heap.size ≤ (u5.setCell ⟨w.heap.size + 2, 5, none⟩ (.bool h.mxr)).heap.size := by simp
  replace M : Hid _ := box_off M.out 5 (.bool h.mxr) (show gm ≠ w.heap.size + 2 by omega)
  replace R : Hid _ := own_gbn R.out (gb_set (gb_refl u5 (some (w.heap.size + 2))) 5 (.bool h.mxr)) (show gr ≠ w.heap.size + 2 by omega)
  generalize (u5.setCell ⟨w.heap.size + 2, 5, none⟩ (.bool h.mxr)) = u6 at n0 H0 H1 H2 ls M R ⊢
  replace lgm : gm < u6.heap.size := by omega
  replace lgr : gr < u6.heap.size := by omega
  clear c t f lt2 ls
  have c := box_cell H0.out 6 A6.out
  have t := box_cell H2.out 6 (v := .int .u64 0) rfl
  have f := box_free H2.out 6
  have lt2 : w.heap.size + 2 < u6.heap.size := by omega
  go_upto_region 9 with fail
  replace n0 := bel_set n0 (show w.heap.size ≤ w.heap.size + 2 by omega) 6 (.int .u64 h.satp)
  replace H0 : Hid _ := box_off H0.out 6 (.int .u64 h.satp) ne0
  replace H1 : Hid _ := box_off H1.out 6 (.int .u64 h.satp) ne1
  replace H2 : Hid ((u6.setCell ⟨w.heap.size + 2, 6, none⟩ (.int .u64 h.satp)).heap[w.heap.size + 2]? = some (.cells #[.slice (some ⟨gm, 0, none⟩) h.mem.length h.mem.length, .slice (some ⟨gr, 0, none⟩) h.regs.length h.regs.length, .int .u64 h.pc, .int .i64 h.mode, .bool h.sum, .bool h.mxr, .int .u64 h.satp, .int .u64 0, .int .u64 0, .int .i64 0, .int .i64 0, .int .u64 0, .int .i64 0, .int .i64 0, .slice none 0 0, .int .i64 0, .int .i64 0, .slice none 0 0, .int .i64 0, .int .i64 0, .slice none 0 0] 31 (0, 0))) := box_set H2.out 6 (.int .u64 h.satp)
  have ls : u6.heap.size ≤ (u6.setCell ⟨w.heap.size + 2, 6, none⟩ (.int .u64 h.satp)).heap.size := by simp
  replace M : Hid _ := box_off M.out 6 (.int .u64 h.satp) (show gm ≠ w.heap.size + 2 by omega)
  replace R : Hid _ := own_gbn R.out (gb_set (gb_refl u6 (some (w.heap.size + 2))) 6 (.int .u64 h.satp)) (show gr ≠ w.heap.size + 2 by omega)
  generalize (u6.setCell ⟨w.heap.size + 2, 6, none⟩ (.int .u64 h.satp)) = u7 at n0 H0 H1 H2 ls M R ⊢
  replace lgm : gm < u7.heap.size := by omega
  replace lgr : gr < u7.heap.size := by omega
  clear c t f lt2 ls
  have c := box_cell H0.out 7 A7.out
  have t := box_cell H2.out 7 (v := .int .u64 0) rfl
  have f := box_free H2.out 7
  have lt2 : w.heap.size + 2 < u7.heap.size := by omega
  go_upto_region 10 with fail
  replace n0 := bel_set n0 (show w.heap.size ≤ w.heap.size + 2 by omega) 7 (.int .u64 h.tvec)
  replace H0 : Hid _ := box_off H0.out 7 (.int .u64 h.tvec) ne0
  replace H1 : Hid _ := box_off H1.out 7 (.int .u64 h.tvec) ne1
  replace H2 : Hid ((u7.setCell ⟨w.heap.size + 2, 7, none⟩ (.int .u64 h.tvec)).heap[w.heap.size + 2]? = some (.cells #[.slice (some ⟨gm, 0, none⟩) h.mem.length h.mem.length, .slice (some ⟨gr, 0, none⟩) h.regs.length h.regs.length, .int .u64 h.pc, .int .i64 h.mode, .bool h.sum, .bool h.mxr, .int .u64 h.satp, .int .u64 h.tvec, .int .u64 0, .int .i64 0, .int .i64 0, .int .u64 0, .int .i64 0, .int .i64 0, .slice none 0 0, .int .i64 0, .int .i64 0, .slice none 0 0, .int .i64 0, .int .i64 0, .slice none 0 0] 31 (0, 0))) := box_set H2.out 7 (.int .u64 h.tvec)
  have ls : u7.heap.size ≤ (u7.setCell ⟨w.heap.size + 2, 7, none⟩ (.int .u64 h.tvec)).heap.size := by simp
  replace M : Hid _ := box_off M.out 7 (.int .u64 h.tvec) (show gm ≠ w.heap.size + 2 by omega)
  replace R : Hid _ := own_gbn R.out (gb_set (gb_refl u7 (some (w.heap.size + 2))) 7 (.int .u64 h.tvec)) (show gr ≠ w.heap.size + 2 by omega)
  generalize (u7.setCell ⟨w.heap.size + 2, 7, none⟩ (.int .u64 h.tvec)) = u8 at n0 H0 H1 H2 ls M R ⊢
  replace lgm : gm < u8.heap.size := by omega
  replace lgr : gr < u8.heap.size := by omega
  clear c t f lt2 ls
  have c := box_cell H0.out 8 A8.out
  have t := box_cell H2.out 8 (v := .int .u64 0) rfl
  have f := box_free H2.out 8
  have lt2 : w.heap.size + 2 < u8.heap.size := by omega
  go_upto_region 11 with fail
  replace n0 := bel_set n0 (show w.heap.size ≤ w.heap.size + 2 by omega) 8 (.int .u64 h.epc)
  replace H0 : Hid _ := box_off H0.out 8 (.int .u64 h.epc) ne0
  replace H1 : Hid _ := box_off H1.out 8 (.int .u64 h.epc) ne1
  replace H2 : Hid ((u8.setCell ⟨w.heap.size + 2, 8, none⟩ (.int .u64 h.epc)).heap[w.heap.size + 2]? = some (.cells #[.slice (some ⟨gm, 0, none⟩) h.mem.length h.mem.length, .slice (some ⟨gr, 0, none⟩) h.regs.length h.regs.length, .int .u64 h.pc, .int .i64 h.mode, .bool h.sum, .bool h.mxr, .int .u64 h.satp, .int .u64 h.tvec, .int .u64 h.epc, .int .i64 0, .int .i64 0, .int .u64 0, .int .i64 0, .int .i64 0, .slice none 0 0, .int .i64 0, .int .i64 0, .slice none 0 0, .int .i64 0, .int .i64 0, .slice none 0 0] 31 (0, 0))) := box_set H2.out 8 (.int .u64 h.epc)
  have ls : u8.heap.size ≤ (u8.setCell ⟨w.heap.size + 2, 8, none⟩ (.int .u64 h.epc)).heap.size := by simp
  replace M : Hid _ := box_off M.out 8 (.int .u64 h.epc) (show gm ≠ w.heap.size + 2 by omega)
  replace R : Hid _ := own_gbn R.out (gb_set (gb_refl u8 (some (w.heap.size + 2))) 8 (.int .u64 h.epc)) (show gr ≠ w.heap.size + 2 by omega)
  generalize (u8.setCell ⟨w.heap.size + 2, 8, none⟩ (.int .u64 h.epc)) = u9 at n0 H0 H1 H2 ls M R ⊢
  replace lgm : gm < u9.heap.size := by omega
  replace lgr : gr < u9.heap.size := by omega
  clear c t f lt2 ls
  have c := box_cell H0.out 9 A9.out
  have t := box_cell H2.out 9 (v := .int .i64 0) rfl
  have f := box_free H2.out 9
  have lt2 : w.heap.size + 2 < u9.heap.size := by omega
  go_upto_region 12 with fail
  replace n0 := bel_set n0 (show w.heap.size ≤ w.heap.size + 2 by omega) 9 (.int .i64 h.emode)
  replace H0 : Hid _ := box_off H0.out 9 (.int .i64 h.emode) ne0
  replace H1 : Hid _ := box_off H1.out 9 (.int .i64 h.emode) ne1
  replace H2 : Hid ((u9.setCell ⟨w.heap.size + 2, 9, none⟩ (.int .i64 h.emode)).heap[w.heap.size + 2]? = some (.cells #[.slice (some ⟨gm, 0, none⟩) h.mem.length h.mem.length, .slice (some ⟨gr, 0, none⟩) h.regs.length h.regs.length, .int .u64 h.pc, .int .i64 h.mode, .bool h.sum, .bool h.mxr, .int .u64 h.satp, .int .u64 h.tvec, .int .u64 h.epc, .int .i64 h.emode, .int .i64 0, .int .u64 0, .int .i64 0, .int .i64 0, .slice none 0 0, .int .i64 0, .int .i64 0, .slice none 0 0, .int .i64 0, .int .i64 0, .slice none 0 0] 31 (0, 0))) := box_set H2.out 9 (.int .i64 h.emode)
  have ls : u9.heap.size ≤ (u9.setCell ⟨w.heap.size + 2, 9, none⟩ (.int .i64 h.emode)).heap.size := by simp
  replace M : Hid _ := box_off M.out 9 (.int .i64 h.emode) (show gm ≠ w.heap.size + 2 by omega)
  replace R : Hid _ := own_gbn R.out (gb_set (gb_refl u9 (some (w.heap.size + 2))) 9 (.int .i64 h.emode)) (show gr ≠ w.heap.size + 2 by omega)
  generalize (u9.setCell ⟨w.heap.size + 2, 9, none⟩ (.int .i64 h.emode)) = u10 at n0 H0 H1 H2 ls M R ⊢
  replace lgm : gm < u10.heap.size := by omega
  replace lgr : gr < u10.heap.size := by omega
  clear c t f lt2 ls
  have c := box_cell H0.out 10 A10.out
  have t := box_cell H2.out 10 (v := .int .i64 0) rfl
  have f := box_free H2.out 10
  have lt2 : w.heap.size + 2 < u10.heap.size := by omega
  go_upto_region 13 with fail
  replace n0 := bel_set n0 (show w.heap.size ≤ w.heap.size + 2 by omega) 10 (.int .i64 h.cause)
  replace H0 : Hid _ := box_off H0.out 10 (.int .i64 h.cause) ne0
  replace H1 : Hid _ := box_off H1.out 10 (.int .i64 h.cause) ne1
  replace H2 : Hid ((u10.setCell ⟨w.heap.size + 2, 10, none⟩ (.int .i64 h.cause)).heap[w.heap.size + 2]? = some (.cells #[.slice (some ⟨gm, 0, none⟩) h.mem.length h.mem.length, .slice (some ⟨gr, 0, none⟩) h.regs.length h.regs.length, .int .u64 h.pc, .int .i64 h.mode, .bool h.sum, .bool h.mxr, .int .u64 h.satp, .int .u64 h.tvec, .int .u64 h.epc, .int .i64 h.emode, .int .i64 h.cause, .int .u64 0, .int .i64 0, .int .i64 0, .slice none 0 0, .int .i64 0, .int .i64 0, .slice none 0 0, .int .i64 0, .int .i64 0, .slice none 0 0] 31 (0, 0))) := box_set H2.out 10 (.int .i64 h.cause)
  have ls : u10.heap.size ≤ (u10.setCell ⟨w.heap.size + 2, 10, none⟩ (.int .i64 h.cause)).heap.size := by simp
  replace M : Hid _ := box_off M.out 10 (.int .i64 h.cause) (show gm ≠ w.heap.size + 2 by omega)
  replace R : Hid _ := own_gbn R.out (gb_set (gb_refl u10 (some (w.heap.size + 2))) 10 (.int .i64 h.cause)) (show gr ≠ w.heap.size + 2 by omega)
  generalize (u10.setCell ⟨w.heap.size + 2, 10, none⟩ (.int .i64 h.cause)) = u11 at n0 H0 H1 H2 ls M R ⊢
  replace lgm : gm < u11.heap.size := by omega
  replace lgr : gr < u11.heap.size := by omega
  clear c t f lt2 ls
  have c := box_cell H0.out 11 A11.out
  have t := box_cell H2.out 11 (v := .int .u64 0) rfl
  have f := box_free H2.out 11
  have lt2 : w.heap.size + 2 < u11.heap.size := by omega
  go_upto_region 14 with fail
  replace n0 := bel_set n0 (show w.heap.size ≤ w.heap.size + 2 by omega) 11 (.int .u64 h.tval)
  replace H0 : Hid _ := box_off H0.out 11 (.int .u64 h.tval) ne0
  replace H1 : Hid _ := box_off H1.out 11 (.int .u64 h.tval) ne1
  replace H2 : Hid ((u11.setCell ⟨w.heap.size + 2, 11, none⟩ (.int .u64 h.tval)).heap[w.heap.size + 2]? = some (.cells #[.slice (some ⟨gm, 0, none⟩) h.mem.length h.mem.length, .slice (some ⟨gr, 0, none⟩) h.regs.length h.regs.length, .int .u64 h.pc, .int .i64 h.mode, .bool h.sum, .bool h.mxr, .int .u64 h.satp, .int .u64 h.tvec, .int .u64 h.epc, .int .i64 h.emode, .int .i64 h.cause, .int .u64 h.tval, .int .i64 0, .int .i64 0, .slice none 0 0, .int .i64 0, .int .i64 0, .slice none 0 0, .int .i64 0, .int .i64 0, .slice none 0 0] 31 (0, 0))) := box_set H2.out 11 (.int .u64 h.tval)
  have ls : u11.heap.size ≤ (u11.setCell ⟨w.heap.size + 2, 11, none⟩ (.int .u64 h.tval)).heap.size := by simp
  replace M : Hid _ := box_off M.out 11 (.int .u64 h.tval) (show gm ≠ w.heap.size + 2 by omega)
  replace R : Hid _ := own_gbn R.out (gb_set (gb_refl u11 (some (w.heap.size + 2))) 11 (.int .u64 h.tval)) (show gr ≠ w.heap.size + 2 by omega)
  generalize (u11.setCell ⟨w.heap.size + 2, 11, none⟩ (.int .u64 h.tval)) = u12 at n0 H0 H1 H2 ls M R ⊢
  replace lgm : gm < u12.heap.size := by omega
  replace lgr : gr < u12.heap.size := by omega
  clear c t f lt2 ls
  have J : Hid _ := box_load (P := Try.prog) (T := 46) H0.out Try.underlying46 rfl (o := 12) (kA p h.k).toList (by kernel_rfl) KP.out rfl
  rw [show (kA p h.k).toList.toArray = kA p h.k from rfl] at J
  generalize kA p h.k = KA at *
  go_wp2_with (first | ((with_reducible refine wpl_load ?_ J.out ?_); (exact rfl)))
  refine (S3.out u12 n0).mono ?_
  rintro e v2 ⟨⟨x, rfl, kx⟩, k⟩
  have lk := k.size
  replace n0 := Below.step n0 k (Nat.le_refl _)
  replace H1 := hid_keep H1 k
  replace H2 := hid_keep H2 k
  replace M := hid_keep M k
  replace R : Hid _ := own_below R.out k
  clear J k H0
  obtain ⟨g1, c1, g2, c2, g3, c3, rfl, o1, o2, o3, _, _, _⟩ := kx
  have lo1 := (own_at o1).2
  have lo2 := (own_at o2).2
  have lo3 := (own_at o3).2
  simp only at lo1 lo2 lo3
  have E1 : Hid ((⟨some ⟨gm, 0, none⟩, h.mem.length, some ⟨gr, 0, none⟩, h.regs.length, some ⟨g1, 0, none⟩, c1, some ⟨g2, 0, none⟩, c2, some ⟨g3, 0, none⟩, c3⟩ : PtrM) = (⟨some ⟨gm, 0, none⟩, h.mem.length, some ⟨gr, 0, none⟩, h.regs.length, some ⟨g1, 0, none⟩, c1, some ⟨g2, 0, none⟩, c2, some ⟨g3, 0, none⟩, c3⟩ : PtrM)) := rfl
  obtain ⟨q, hq⟩ : ∃ q : PtrM, q = ⟨some ⟨gm, 0, none⟩, h.mem.length, some ⟨gr, 0, none⟩, h.regs.length, some ⟨g1, 0, none⟩, c1, some ⟨g2, 0, none⟩, c2, some ⟨g3, 0, none⟩, c3⟩ := ⟨_, rfl⟩
  have HK : Hid (Value.agg (kA q h.k) = Value.agg #[.int .i64 h.k.i.sets, .int .i64 h.k.i.ways, .slice (some ⟨g1, 0, none⟩) h.k.i.es.length c1, .int .i64 h.k.d.sets, .int .i64 h.k.d.ways, .slice (some ⟨g2, 0, none⟩) h.k.d.es.length c2, .int .i64 h.k.p.sets, .int .i64 h.k.p.ways, .slice (some ⟨g3, 0, none⟩) h.k.p.es.length c3]) := by subst hq; show _ = _; rfl
  rw [← HK.out]
  have HSk : Hid _ := box_store (P := Try.prog) (T := 29) H2.out (o := 12) (V := kA q h.k) kI (by show 12 + 9 ≤ 21; omega) (k_one _ _)
  have gS := setCells_gb (w.heap.size + 2) (kA q h.k).toList 12 v2 v2 (gb_refl v2 _)
  have I2 : Hid ((v2.setCells (w.heap.size + 2) 12 (kA q h.k).toList).heap[w.heap.size + 2]? = some (.cells (hartA q h) 31 (0, 0))) := by
    have := setCells_heap (w.heap.size + 2) (kA q h.k).toList 12 v2 _ _ _ H2.out (by show 12 + 9 ≤ 21; omega)
    subst hq
    exact this
  have I1 : Hid _ := heap_gb H1.out gS (by omega)
  have IM : Hid _ := heap_gb M.out gS (show gm ≠ w.heap.size + 2 by omega)
  have IR : Hid _ := own_gbn R.out gS (show gr ≠ w.heap.size + 2 by omega)
  have O1 : Hid _ := own_gbn o1 gS (show g1 ≠ w.heap.size + 2 by omega)
  have O2 : Hid _ := own_gbn o2 gS (show g2 ≠ w.heap.size + 2 by omega)
  have O3 : Hid _ := own_gbn o3 gS (show g3 ≠ w.heap.size + 2 by omega)
  have n1 := bel_sets (show w.heap.size ≤ w.heap.size + 2 by omega) (kA q h.k).toList 12 _ n0
  have hone := hart_one q h
  have hDD := hart_size q h
  have l2 : v2.heap.size ≤ (v2.setCells (w.heap.size + 2) 12 (kA q h.k).toList).heap.size := by rw [size_sets]; exact Nat.le_refl _
  clear gS H1 H2 M R o1 o2 o3 HK E1
  obtain ⟨G, hG⟩ : ∃ G, hartA q h = G := ⟨_, rfl⟩
  have HG : Hid (hartA q h = G) := hG
  rw [hG] at I2 hone hDD
  generalize kA q h.k = KQ at *
  clear hG
  go_upto_region 15 with (first | ((with_reducible refine wpl_store ?_ ?_ HSk.out ?_); (exact rfl); (exact rfl)))
  generalize v2.setCells (w.heap.size + 2) 12 KQ.toList = v3 at *
  have HLr : Hid _ := box_whole (P := Try.prog) (T := 31) I2.out Try.underlying31 rfl (by rw [hDD]; exact hartI)
  have HSr : Hid _ := box_put (P := Try.prog) (T := 31) (V := G) I1.out (by rw [hDD]; exact hartI) (by rw [hDD, zhart_size]) hone
  have e1 := box_putH (V := G) I1.out (by rw [hDD, zhart_size])
  have e2 := bel_sets (show w.heap.size ≤ w.heap.size + 1 by omega) G.toList 0 _ n1
  have eG := setCells_gb (w.heap.size + 1) G.toList 0 v3 v3 (gb_refl v3 _)
  have sz := size_sets (w.heap.size + 1) G.toList 0 v3
  go_wp2_with (first
    | ((with_reducible refine wpl_load ?_ HLr.out ?_); (exact rfl))
    | ((with_reducible refine wpl_store ?_ ?_ HSr.out ?_); (exact rfl); (exact rfl)))
  refine ret_box (b := w.heap.size + 1) Try.results15 rfl (box_wholeV (P := Try.prog) e1 Try.underlying31 rfl (by rw [hDD]; exact hartI)) rfl ?_
  have OM := heap_gb IM.out eG (show gm ≠ w.heap.size + 1 by omega)
  have OR := own_gbn IR.out eG (show gr ≠ w.heap.size + 1 by omega)
  have P1 := own_gbn O1.out eG (show g1 ≠ w.heap.size + 1 by omega)
  have P2 := own_gbn O2.out eG (show g2 ≠ w.heap.size + 1 by omega)
  have P3 := own_gbn O3.out eG (show g3 ≠ w.heap.size + 1 by omega)
  refine ⟨⟨q, by rw [HG.out], ?_⟩, e2⟩
  clear HG
  subst hq
  refine ⟨Blk.byt OM HZ.out, ⟨Nat.le_refl _, by show h.mem.length ≤ _; omega⟩, row_own OR, ⟨Nat.le_refl _, by show h.regs.length ≤ _; omega⟩, ⟨fun hh => (by cases hh), fun q hq => by cases hq; rfl⟩, ?_, ?_⟩
  · exact ⟨_, _, _, _, _, _, rfl, TlbOwn.at ⟨g1, c1, rfl, P1⟩ HT.out.1, TlbOwn.at ⟨g2, c2, rfl, P2⟩ HT.out.2.1, TlbOwn.at ⟨g3, c3, rfl, P3⟩ HT.out.2.2⟩
  · intro q hq
    simp only [hptrs, List.mem_cons, List.not_mem_nil, or_false] at hq
    rcases hq with hq | hq | hq | hq | hq <;> cases hq
    · show gm < _; omega
    · show gr < _; omega
    · show g1 < _; omega
    · show g2 < _; omega
    · show g3 < _; omega

end Go.Proofs.Ythekickjjaleaac
