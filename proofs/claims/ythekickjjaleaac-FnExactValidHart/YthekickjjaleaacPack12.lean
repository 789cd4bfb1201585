import Derived.Test.YthekickjjaleaacPack11
/- The specification's scripts: DecodeScript. Written by mk6b.py. -/
namespace Go.Proofs.Ythekickjjaleaac
open Go.RowKit
set_option linter.unusedVariables false
attribute [local go_sem ↓] Go.wp_at_zero Go.wp_at_succ

abbrev zscriptA : Array Value := #[.slice none 0 0, .slice none 0 0, .int .u64 0, .int .i64 0, .bool false, .bool false, .int .u64 0, .int .u64 0, .int .u64 0, .int .i64 0, .int .i64 0, .int .u64 0, .int .i64 0, .int .i64 0, .slice none 0 0, .int .i64 0, .int .i64 0, .slice none 0 0, .int .i64 0, .int .i64 0, .slice none 0 0, .slice none 0 0]

/-- A script on its way: the hart's box, the memory's row, the caches' rows. -/
structure DecIn (w v : World) (hb : Nat) (p : PtrM) (h : HartM) : Prop where
  box : v.heap[hb]? = some (.cells (hartA p h) 31 (0, 0))
  res : v.heap[w.heap.size]? = some (.cells zscriptA 34 (0, 0))
  low : w.heap.size < hb
  mem : v.ownsRow (hb + 1) 5 1 (.slice p.am h.mem.length p.cm) h.mem.length (bytC h.mem)
  ks : ∃ u : World, u.heap.size = hb ∧ KRows (w.heap.size + 1) u p h.k ∧ Below hb u v
  below : Below w.heap.size w v

theorem DecIn.lt {w v : World} {hb : Nat} {p : PtrM} {h : HartM} (d : DecIn w v hb p h) : hb < v.heap.size := (Array.getElem?_eq_some_iff.1 d.box).1

theorem DecIn.keep {w v v' : World} {hb : Nat} {p : PtrM} {h : HartM} (d : DecIn w v hb p h) (hn : Below v.heap.size v v') : DecIn w v' hb p h := by
  obtain ⟨u, h1, h2, h3⟩ := d.ks
  have := d.lt
  have := d.low
  exact ⟨heap_keep d.box hn d.lt, heap_keep d.res hn (by omega), d.low, own_below d.mem hn, ⟨u, h1, h2, h3.trans (hn.mono (by omega))⟩, Below.step d.below hn (Nat.le_refl _)⟩

theorem DecIn.cell {w v : World} {hb : Nat} {p : PtrM} {h h' : HartM} (d : DecIn w v hb p h) (i : Nat) (x : Value) (hA : (hartA p h).setIfInBounds i x = hartA p h') (hm : h'.mem = h.mem) (hk : h'.k = h.k) : DecIn w (v.setCell ⟨hb, i, none⟩ x) hb p h' := by
  obtain ⟨u, h1, h2, h3⟩ := d.ks
  have hh := d.low
  refine ⟨?_, box_off d.res i x (by omega), d.low, ?_, ⟨u, h1, by rw [hk]; exact h2, h3.setCell (Nat.le_refl _) _⟩, d.below.setCell (p := ⟨hb, i, none⟩) (by show w.heap.size ≤ hb; omega) _⟩
  · rw [← hA]
    exact box_set d.box i x
  · rw [hm]
    exact box_own_set d.mem d.box (by decide) (gb_set (gb_refl v (some hb)) i x)

/-- The memory's row put into the box behind an append. -/
theorem DecIn.put {w v v5 : World} {hb g c : Nat} {p : PtrM} {h : HartM} {m : List Int} (d : DecIn w v hb p h) (hn : Below (hb + 1) v v5) (ho : v5.ownsRow (hb + 1) 5 1 (.slice (some ⟨g, 0, none⟩) m.length c) m.length (bytC m)) :
    DecIn w (v5.setCell ⟨hb, 0, none⟩ (.slice (some ⟨g, 0, none⟩) m.length c)) hb ⟨some ⟨g, 0, none⟩, c, p.ar, p.cr, p.a1, p.c1, p.a2, p.c2, p.a3, p.c3⟩ (withMem h m) := by
  obtain ⟨u, h1, h2, h3⟩ := d.ks
  have hh := d.low
  have hl := d.lt
  have b5 : v5.heap[hb]? = some (.cells (hartA p h) 31 (0, 0)) := (hn.block _ (by omega)).trans d.box
  refine ⟨?_, box_off ((hn.block _ (by omega)).trans d.res) 0 _ (by omega), d.low, ?_, ⟨u, h1, h2, (h3.trans (hn.mono (by omega))).setCell (Nat.le_refl _) _⟩, (d.below.trans (hn.mono (by omega))).setCell (p := ⟨hb, 0, none⟩) (by show w.heap.size ≤ hb; omega) _⟩
  · exact box_set b5 0 _
  · exact box_own_set ho b5 (by decide) (gb_set (gb_refl v5 (some hb)) 0 _)

theorem longM_bd {zs : List Int} (h : ∀ i : Nat, 0 ≤ zs[i]?.getD 0 ∧ zs[i]?.getD 0 ≤ 255) (i : Nat) : 0 ≤ longM zs i ∧ longM zs i ≤ 18446744073709551615 := by
  unfold longM
  have := num_bd ((List.range 8).map fun k => atM zs (i + k)) 8 (fun z hz => by
    simp only [List.mem_map] at hz
    obtain ⟨j, _, rfl⟩ := hz
    exact atM_bd h _) (by simp)
  omega

theorem bytC_append (a b : List Int) : bytC (a ++ b) = bytC a ++ bytC b := by simp [bytC]

set_option maxRecDepth 20000 in
set_option maxHeartbeats 1200000 in
theorem dec_front (a : Option Addr) (len cap : Nat) (zs : List Int) (w : World) (hB : Byt w a len zs) (hl : len ≤ 1048576) (R : Ending → World → Prop)
   (H : ∀ (v : World) (hb size n : Nat) (p : PtrM) (u5 u15 u16 u17 u18 u19 u20 u21 u22 u23 u24 u25 u26 u27 u28 u29 u30 u31 u32 u33 u34 u35 u36 u37 u38 u39 u40 u41 u42 u43 u44 u45 u46 u47 u48 u49 u50 u51 u52 u53 u54 u55 u56 u57 u58 u59 u60 u61 u62 u63 u64 u65 u66 u67 u68 u69 u70 u71 u72 u73 u74 u75 u76 u77 u78 u79 u80 u81 u82 u83 u84 u85 : Value), DecIn w v hb p ⟨List.replicate size 0, [], longM zs 7, modeM (atM zs 4), atM zs 4 / 4 % 2 == 1, atM zs 4 / 8 % 2 == 1, if schemeM (longM zs 23) = true then longM zs 23 else 0, longM zs 15 / 4 * 4, 0, modeM (atM zs 4), 0, 0, ⟨emptyM (atM zs 0), emptyM (atM zs 1), emptyM (atM zs 2)⟩⟩ → p.ar = none → p.cr = 0 → size = 64 * (1 + (atM zs 3 % 64).toNat) → n = stepsM zs →
     ∀ K : Act → World → Prop, (∀ a w, (codeTail 15 (bodyOf Try.f5)).wp Try.prog (bodyPost Try.prog Try.f5 R) a w → K a w) → (codeHead (codeTail 14 (bodyOf Try.f5))).wp Try.prog (Exit.then K (bodyPost Try.prog Try.f5 R)) ⟨#[.slice a len cap, undef, .pointer (some ⟨w.heap.size, 0, none⟩), .pointer (some ⟨hb, 0, none⟩), .int .i64 (size : Nat), u5, .int .i64 (n : Nat), undef, undef, undef, undef, undef, undef, undef, undef, u15, u16, u17, u18, u19, u20, u21, u22, u23, u24, u25, u26, u27, u28, u29, u30, u31, u32, u33, u34, u35, u36, u37, u38, u39, u40, u41, u42, u43, u44, u45, u46, u47, u48, u49, u50, u51, u52, u53, u54, u55, u56, u57, u58, u59, u60, u61, u62, u63, u64, u65, u66, u67, u68, u69, u70, u71, u72, u73, u74, u75, u76, u77, u78, u79, u80, u81, u82, u83, u84, u85, undef, undef, undef, undef, undef, undef, undef, undef, undef, undef, undef, undef, undef, undef, undef, undef, undef, undef, undef, undef, undef, undef, undef, undef, undef, undef, undef, undef, undef, undef, undef, undef, undef, undef, undef, undef, undef, undef, undef, undef, undef, undef, undef, undef, undef, undef, undef, undef, undef, undef, undef, undef, undef, undef, undef, undef, undef, undef, undef, undef, undef, undef, undef, undef, undef, undef, undef, undef, undef, undef, undef, undef, undef, undef, undef, undef, undef, undef, undef, undef], []⟩ v) :
    Calls Try.prog 5 #[.slice a len cap] w R := by
  have HH : Hid _ := H
  clear H
  have HB : Hid _ := hB
  have HAt : Hid (∀ (i : Nat) (u : World), i ≤ 1073741824 → Below w.heap.size w u → Calls Try.prog 19 #[.slice a len cap, .int .i64 i] u fun e w' => e = .returned (.int .i64 (atM zs i)) ∧ w' = u) := fun i u hi hu => l5At_any a len cap zs i u (Byt.keep HB.out hu) hl (by omega)
  have HLg : Hid (∀ (i : Nat) (u : World), i ≤ 1073741824 → Below w.heap.size w u → Calls Try.prog 20 #[.slice a len cap, .int .i64 i] u fun e w' => e = .returned (.int .u64 (longM zs i)) ∧ Below u.heap.size u w') := fun i u hi hu => l5Long_any a len cap zs i u (Byt.keep HB.out hu) hl hi
  have HAb : Hid (∀ i, 0 ≤ atM zs i ∧ atM zs i ≤ 255) := fun i => atM_bd hB.2.1 i
  clear hB
  go_enter Try.func5, Try.ntmps5
  go_upto_region 1 with fail
  have F := alloc1 w zscriptA 34
  generalize w.alloc (Obj.cells zscriptA 34) = v0 at F ⊢
  obtain ⟨hr, l0, n0⟩ := F
  have HR : Hid _ := hr
  clear hr
  obtain ⟨y0, e0⟩ : ∃ y, atM zs 0 = y := ⟨_, rfl⟩
  obtain ⟨y1, e1⟩ : ∃ y, atM zs 1 = y := ⟨_, rfl⟩
  obtain ⟨y2, e2⟩ : ∃ y, atM zs 2 = y := ⟨_, rfl⟩
  have q0 := HAb.out 0
  have q1 := HAb.out 1
  have q2 := HAb.out 2
  rw [e0] at q0
  rw [e1] at q1
  rw [e2] at q2
  have E0 : Hid _ := e0
  have E1 : Hid _ := e1
  have E2 : Hid _ := e2
  clear e0 e1 e2
  go_wp2_with fail
  refine (HAt.out 0 v0 (by omega) n0).mono ?_
  rintro e v' ⟨rfl, rfl⟩
  rw [E0.out]
  go_wp2_with fail
  refine (l5Empty_any y0 v' q0).mono ?_
  rintro e v1 ⟨⟨x1, rfl, hx1⟩, n1⟩
  obtain ⟨g1, c1, rfl, o1⟩ := hx1
  have m1 := Below.step n0 n1 (Nat.le_refl _)
  go_wp2_with fail
  refine (HAt.out 1 v1 (by omega) m1).mono ?_
  rintro e v2' ⟨rfl, rfl⟩
  rw [E1.out]
  go_wp2_with fail
  refine (l5Empty_any y1 v2' q1).mono ?_
  rintro e v2 ⟨⟨x2, rfl, hx2⟩, n2⟩
  obtain ⟨g2, c2, rfl, o2⟩ := hx2
  have m2 := Below.step m1 n2 (Nat.le_refl _)
  go_wp2_with fail
  refine (HAt.out 2 v2 (by omega) m2).mono ?_
  rintro e v3' ⟨rfl, rfl⟩
  rw [E2.out]
  go_wp2_with fail
  refine (l5Empty_any y2 v3' q2).mono ?_
  rintro e v3 ⟨⟨x3, rfl, hx3⟩, n3⟩
  obtain ⟨g3, c3, rfl, o3⟩ := hx3
  have m3 := Below.step m2 n3 (Nat.le_refl _)
  have hs1 := n1.size
  have hs2 := n2.size
  have hs3 := n3.size
  have KR : Hid (KRows (w.heap.size + 1) v3 ⟨none, 0, none, 0, some ⟨g1, 0, none⟩, c1, some ⟨g2, 0, none⟩, c2, some ⟨g3, 0, none⟩, c3⟩ (⟨emptyM y0, emptyM y1, emptyM y2⟩ : KM)) := ⟨own_low (own_below (own_below o1 n2) n3) (by omega), own_low (own_below o2 n3) (by omega), own_low o3 (by omega)⟩
  have a4 := alloc1 v3 zhartA 31
  have hH4 := hart_size ⟨none, 0, none, 0, some ⟨g1, 0, none⟩, c1, some ⟨g2, 0, none⟩, c2, some ⟨g3, 0, none⟩, c3⟩ ⟨[], [], 0, 0, false, false, 0, 0, 0, 0, 0, 0, (⟨emptyM y0, emptyM y1, emptyM y2⟩ : KM)⟩
  have HS4 : Hid _ := box_put (P := Try.prog) (T := 31) (V := hartA ⟨none, 0, none, 0, some ⟨g1, 0, none⟩, c1, some ⟨g2, 0, none⟩, c2, some ⟨g3, 0, none⟩, c3⟩ ⟨[], [], 0, 0, false, false, 0, 0, 0, 0, 0, 0, (⟨emptyM y0, emptyM y1, emptyM y2⟩ : KM)⟩) a4.1 (by rw [hH4]; exact hartI) (by rw [hH4, zhart_size]) (hart_one _ _)
  have b4 := bel_sets (Nat.le_refl v3.heap.size) (hartA ⟨none, 0, none, 0, some ⟨g1, 0, none⟩, c1, some ⟨g2, 0, none⟩, c2, some ⟨g3, 0, none⟩, c3⟩ ⟨[], [], 0, 0, false, false, 0, 0, 0, 0, 0, 0, (⟨emptyM y0, emptyM y1, emptyM y2⟩ : KM)⟩).toList 0 _ a4.2.2
  have HR4 : Hid _ := heap_keep HR.out (Below.step (Below.step (Below.step n1 n2 (Nat.le_refl _)) n3 (Nat.le_refl _)) b4 (Nat.le_refl _)) (by omega)
  have D4 : Hid (DecIn w ((v3.alloc (Obj.cells zhartA 31)).setCells v3.heap.size 0 (hartA ⟨none, 0, none, 0, some ⟨g1, 0, none⟩, c1, some ⟨g2, 0, none⟩, c2, some ⟨g3, 0, none⟩, c3⟩ ⟨[], [], 0, 0, false, false, 0, 0, 0, 0, 0, 0, (⟨emptyM y0, emptyM y1, emptyM y2⟩ : KM)⟩).toList) v3.heap.size ⟨none, 0, none, 0, some ⟨g1, 0, none⟩, c1, some ⟨g2, 0, none⟩, c2, some ⟨g3, 0, none⟩, c3⟩ ⟨[], [], 0, 0, false, false, 0, 0, 0, 0, 0, 0, (⟨emptyM y0, emptyM y1, emptyM y2⟩ : KM)⟩) :=
    ⟨box_putH a4.1 (by rw [hH4, zhart_size]), HR4.out, by omega, World.ownsRow_nil _ _ _ _, ⟨v3, rfl, KR.out, b4⟩, Below.step m3 b4 (Nat.le_refl _)⟩
  clear o1 o2 o3 n1 n2 n3 m1 m2 m3 hs1 hs2 hs3 KR HR4 HR n0 a4 b4 hH4
  go_upto_region 2 with ((with_reducible refine wpl_store ?_ ?_ HS4.out ?_); (exact rfl); (exact rfl))
  generalize (v3.alloc (Obj.cells zhartA 31)).setCells v3.heap.size 0 (hartA ⟨none, 0, none, 0, some ⟨g1, 0, none⟩, c1, some ⟨g2, 0, none⟩, c2, some ⟨g3, 0, none⟩, c3⟩ ⟨[], [], 0, 0, false, false, 0, 0, 0, 0, 0, 0, (⟨emptyM y0, emptyM y1, emptyM y2⟩ : KM)⟩).toList = v4 at D4 ⊢
  generalize v3.heap.size = hb at D4 ⊢
  clear HS4
  obtain ⟨y3, e3⟩ : ∃ y, atM zs 3 = y := ⟨_, rfl⟩
  have q3 := HAb.out 3
  rw [e3] at q3
  have E3 : Hid _ := e3
  clear e3
  obtain ⟨q31, q32⟩ := q3
  obtain ⟨size, hsz, hs1, hs2⟩ : ∃ size : Nat, 64 * (1 + y3 % 64) = size ∧ 64 ≤ size ∧ size ≤ 4096 := ⟨(64 * (1 + y3 % 64)).toNat, by omega, by omega, by omega⟩
  have HSz : Hid (size = 64 * (1 + (atM zs 3 % 64).toNat)) := by show _ = _; rw [E3.out]; omega
  have nB4 := D4.out.below
  go_upto_region 3 with (go_at_call 19; refine (HAt.out 3 _ (by omega) nB4).mono ?_; rintro e v' ⟨rfl, rfl⟩; rw [E3.out])
  clear nB4 q0 q1 q2 q31 q32 l0
  go_wp2_with fail
  go_loopw [5] (fun iv wr => ∃ (i : Nat) (ra : Option Addr) (rc : Nat), i ≤ size ∧ iv = .int .i64 i ∧ DecIn w wr hb ⟨ra, rc, none, 0, some ⟨g1, 0, none⟩, c1, some ⟨g2, 0, none⟩, c2, some ⟨g3, 0, none⟩, c3⟩ ⟨List.replicate i 0, [], 0, 0, false, false, 0, 0, 0, 0, 0, 0, (⟨emptyM y0, emptyM y1, emptyM y2⟩ : KM)⟩) (fun iv _ => size - (intOf iv).toNat)
  case atStart => exact ⟨0, none, 0, Nat.zero_le _, rfl, D4.out⟩
  case round =>
    clear D4
    obtain ⟨i, ra, rc, hi, rfl, hD⟩ := hrel
    have D : Hid _ := hD
    have hlt := hD.lt
    have hlo := hD.low
    have c0 := box_cell hD.box 0 (show (hartA ⟨ra, rc, none, 0, some ⟨g1, 0, none⟩, c1, some ⟨g2, 0, none⟩, c2, some ⟨g3, 0, none⟩, c3⟩ ⟨List.replicate i 0, [], 0, 0, false, false, 0, 0, 0, 0, 0, 0, (⟨emptyM y0, emptyM y1, emptyM y2⟩ : KM)⟩)[0]? = some (.slice ra (List.replicate i (0 : Int)).length rc) from rfl)
    rw [List.length_replicate] at c0
    clear hD
    by_cases hin : i < size
    · have n4 := (Below.refl wr.heap.size wr).alloc (Nat.le_refl _) (Obj.cells #[.int .u8 0] 5)
      have D4 : Hid _ := D.out.keep n4
      have HO4 : Hid _ := D4.out.mem
      simp only [List.length_replicate] at HO4
      have HW4 : Hid (RowC (wr.alloc (Obj.cells #[.int .u8 0] 5)) (some ⟨wr.heap.size, 0, none⟩) 1 1 (bytC [0])) := (OwnC.new 5 1 wr (bytC [0]) 1 (by rfl) (by decide)).row
      have l4 : wr.heap.size < (wr.alloc (Obj.cells #[.int .u8 0] 5)).heap.size := by simp
      go_wp2_with (at_builtin; refine append_v _ rfl (.tmp 37) (.tmp 38) 22 rfl 5 Try.underlying22 (.int .u8 0) 1 1 Try.infoB rfl (by decide) (hb + 1) i _ (bytC (List.replicate i 0)) rfl HO4.out wr.heap.size 0 1 1 (bytC [0]) rfl (by omega) HW4.out (bytC_one _) (by omega) (by omega) (by omega) (hb + 1) _ (Below.refl _ _) (Nat.le_refl _) ?_; intro g5 cp5 v5 o5 n5; have HO5 : Hid _ := o5; have N5 : Hid _ := n5; have B5 := (n5.block hb (by omega)).trans D4.out.box; have l5 := n5.size; have c5 := box_cell B5 0 (show (hartA ⟨ra, rc, none, 0, some ⟨g1, 0, none⟩, c1, some ⟨g2, 0, none⟩, c2, some ⟨g3, 0, none⟩, c3⟩ ⟨List.replicate i 0, [], 0, 0, false, false, 0, 0, 0, 0, 0, 0, (⟨emptyM y0, emptyM y1, emptyM y2⟩ : KM)⟩)[0]? = some (.slice ra (List.replicate i (0 : Int)).length rc) from rfl); have f5 := box_free B5 0; clear o5 n5 HO4 HW4 B5 c0)
      have D6 := DecIn.put (m := List.replicate (i + 1) 0) D4.out N5.out (by rw [List.length_replicate, List.replicate_succ', bytC_append]; exact HO5.out)
      rw [List.length_replicate] at D6
      refine ⟨⟨i + 1, some ⟨g5, 0, none⟩, cp5, by omega, by go_num, D6⟩, ?_⟩
      simp [intOf]
      omega
    · have hin' : i = size := by omega
      subst hin'
      have hdec : decide ((i : Int) < (i : Int)) = false := by simp
      go_upto_region 7 with fail
      clear c0 hlo hlt hin hdec
      obtain ⟨y4, e4⟩ : ∃ y, atM zs 4 = y := ⟨_, rfl⟩
      have q4 := HAb.out 4
      rw [e4] at q4
      obtain ⟨q41, q42⟩ := q4
      have E4 : Hid _ := e4
      clear e4
      obtain ⟨y5, e5⟩ : ∃ y, atM zs 5 = y := ⟨_, rfl⟩
      have q5 := HAb.out 5
      rw [e5] at q5
      obtain ⟨q51, q52⟩ := q5
      have E5 : Hid _ := e5
      clear e5
      obtain ⟨y6, e6⟩ : ∃ y, atM zs 6 = y := ⟨_, rfl⟩
      have q6 := HAb.out 6
      rw [e6] at q6
      obtain ⟨q61, q62⟩ := q6
      have E6 : Hid _ := e6
      clear e6
      have kk3 := box_cell D.out.box 3 (show (hartA ⟨ra, rc, none, 0, some ⟨g1, 0, none⟩, c1, some ⟨g2, 0, none⟩, c2, some ⟨g3, 0, none⟩, c3⟩ ⟨List.replicate i 0, [], 0, 0, false, false, 0, 0, 0, 0, 0, 0, (⟨emptyM y0, emptyM y1, emptyM y2⟩ : KM)⟩)[3]? = some (.int .i64 0) from rfl)
      have ff3 := box_free D.out.box 3
      have hbl := D.out.below
      have hltv : hb < wr.heap.size := D.out.lt
      go_upto_region 8 with (go_at_call 19; refine (HAt.out 4 _ (by omega) hbl).mono ?_; rintro e v' ⟨rfl, hv'⟩; rw [hv']; clear hv' v'; rw [E4.out])
      have D' : Hid (DecIn w (wr.setCell ⟨hb, 3, none⟩ (.int .i64 (y4 % 4))) hb ⟨ra, rc, none, 0, some ⟨g1, 0, none⟩, c1, some ⟨g2, 0, none⟩, c2, some ⟨g3, 0, none⟩, c3⟩ ⟨List.replicate i 0, [], 0, (y4 % 4), false, false, 0, 0, 0, 0, 0, 0, (⟨emptyM y0, emptyM y1, emptyM y2⟩ : KM)⟩) := D.out.cell 3 (.int .i64 (y4 % 4)) rfl rfl rfl
      clear kk3 ff3 hbl hltv
      generalize wr.setCell ⟨hb, 3, none⟩ (.int .i64 (y4 % 4)) = w7 at D' ⊢
      clear D
      have D := D'
      clear D'
      obtain ⟨md0, hmd0⟩ : ∃ m, y4 % 4 = m := ⟨_, rfl⟩
      have HMd0 : Hid _ := hmd0
      rw [hmd0] at D
      clear hmd0
      have kk3 := box_cell D.out.box 3 (show (hartA ⟨ra, rc, none, 0, some ⟨g1, 0, none⟩, c1, some ⟨g2, 0, none⟩, c2, some ⟨g3, 0, none⟩, c3⟩ ⟨List.replicate i 0, [], 0, md0, false, false, 0, 0, 0, 0, 0, 0, (⟨emptyM y0, emptyM y1, emptyM y2⟩ : KM)⟩)[3]? = some (.int .i64 md0) from rfl)
      have ff3 := box_free D.out.box 3
      have hltv : hb < w7.heap.size := D.out.lt
      by_cases hm3 : md0 = 3
      · subst hm3
        go_upto_region 10 with fail
        have HMd : Hid (modeM y4 = 1) := by show _ = _; unfold modeM; rw [HMd0.out]; rfl
        have D' : Hid (DecIn w (w7.setCell ⟨hb, 3, none⟩ (.int .i64 1)) hb ⟨ra, rc, none, 0, some ⟨g1, 0, none⟩, c1, some ⟨g2, 0, none⟩, c2, some ⟨g3, 0, none⟩, c3⟩ ⟨List.replicate i 0, [], 0, 1, false, false, 0, 0, 0, 0, 0, 0, (⟨emptyM y0, emptyM y1, emptyM y2⟩ : KM)⟩) := D.out.cell 3 (.int .i64 1) rfl rfl rfl
        clear kk3 ff3 hltv HMd0
        generalize w7.setCell ⟨hb, 3, none⟩ (.int .i64 1) = w9 at D' ⊢
        clear D
        have D := D'
        clear D'
        obtain ⟨md, hmd⟩ : ∃ m : Int, 1 = m := ⟨_, rfl⟩
        rw [hmd] at D HMd
        clear hmd
        have kk3 := box_cell D.out.box 3 (show (hartA ⟨ra, rc, none, 0, some ⟨g1, 0, none⟩, c1, some ⟨g2, 0, none⟩, c2, some ⟨g3, 0, none⟩, c3⟩ ⟨List.replicate i 0, [], 0, md, false, false, 0, 0, 0, 0, 0, 0, (⟨emptyM y0, emptyM y1, emptyM y2⟩ : KM)⟩)[3]? = some (.int .i64 md) from rfl)
        have ff3 := box_free D.out.box 3
        have kk9 := box_cell D.out.box 9 (show (hartA ⟨ra, rc, none, 0, some ⟨g1, 0, none⟩, c1, some ⟨g2, 0, none⟩, c2, some ⟨g3, 0, none⟩, c3⟩ ⟨List.replicate i 0, [], 0, md, false, false, 0, 0, 0, 0, 0, 0, (⟨emptyM y0, emptyM y1, emptyM y2⟩ : KM)⟩)[9]? = some (.int .i64 0) from rfl)
        have ff9 := box_free D.out.box 9
        have hltv : hb < w9.heap.size := D.out.lt
        go_upto_region 11 with fail
        have D' : Hid (DecIn w (w9.setCell ⟨hb, 9, none⟩ (.int .i64 md)) hb ⟨ra, rc, none, 0, some ⟨g1, 0, none⟩, c1, some ⟨g2, 0, none⟩, c2, some ⟨g3, 0, none⟩, c3⟩ ⟨List.replicate i 0, [], 0, md, false, false, 0, 0, 0, md, 0, 0, (⟨emptyM y0, emptyM y1, emptyM y2⟩ : KM)⟩) := D.out.cell 9 (.int .i64 md) rfl rfl rfl
        clear kk3 ff3 kk9 ff9 hltv
        generalize w9.setCell ⟨hb, 9, none⟩ (.int .i64 md) = w10 at D' ⊢
        clear D
        have D := D'
        clear D'
        have kk4 := box_cell D.out.box 4 (show (hartA ⟨ra, rc, none, 0, some ⟨g1, 0, none⟩, c1, some ⟨g2, 0, none⟩, c2, some ⟨g3, 0, none⟩, c3⟩ ⟨List.replicate i 0, [], 0, md, false, false, 0, 0, 0, md, 0, 0, (⟨emptyM y0, emptyM y1, emptyM y2⟩ : KM)⟩)[4]? = some (.bool false) from rfl)
        have ff4 := box_free D.out.box 4
        have hbl := D.out.below
        have hltv : hb < w10.heap.size := D.out.lt
        go_upto_region 12 with (go_at_call 19; refine (HAt.out 4 _ (by omega) hbl).mono ?_; rintro e v' ⟨rfl, hv'⟩; rw [hv']; clear hv' v'; rw [E4.out])
        have D' : Hid (DecIn w (w10.setCell ⟨hb, 4, none⟩ (.bool (y4 / 4 % 2 == 1))) hb ⟨ra, rc, none, 0, some ⟨g1, 0, none⟩, c1, some ⟨g2, 0, none⟩, c2, some ⟨g3, 0, none⟩, c3⟩ ⟨List.replicate i 0, [], 0, md, (y4 / 4 % 2 == 1), false, 0, 0, 0, md, 0, 0, (⟨emptyM y0, emptyM y1, emptyM y2⟩ : KM)⟩) := D.out.cell 4 (.bool (y4 / 4 % 2 == 1)) rfl rfl rfl
        clear kk4 ff4 hbl hltv
        generalize w10.setCell ⟨hb, 4, none⟩ (.bool (y4 / 4 % 2 == 1)) = w11 at D' ⊢
        clear D
        have D := D'
        clear D'
        have kk5 := box_cell D.out.box 5 (show (hartA ⟨ra, rc, none, 0, some ⟨g1, 0, none⟩, c1, some ⟨g2, 0, none⟩, c2, some ⟨g3, 0, none⟩, c3⟩ ⟨List.replicate i 0, [], 0, md, (y4 / 4 % 2 == 1), false, 0, 0, 0, md, 0, 0, (⟨emptyM y0, emptyM y1, emptyM y2⟩ : KM)⟩)[5]? = some (.bool false) from rfl)
        have ff5 := box_free D.out.box 5
        have hbl := D.out.below
        have hltv : hb < w11.heap.size := D.out.lt
        go_upto_region 13 with (go_at_call 19; refine (HAt.out 4 _ (by omega) hbl).mono ?_; rintro e v' ⟨rfl, hv'⟩; rw [hv']; clear hv' v'; rw [E4.out])
        have D' : Hid (DecIn w (w11.setCell ⟨hb, 5, none⟩ (.bool (y4 / 8 % 2 == 1))) hb ⟨ra, rc, none, 0, some ⟨g1, 0, none⟩, c1, some ⟨g2, 0, none⟩, c2, some ⟨g3, 0, none⟩, c3⟩ ⟨List.replicate i 0, [], 0, md, (y4 / 4 % 2 == 1), (y4 / 8 % 2 == 1), 0, 0, 0, md, 0, 0, (⟨emptyM y0, emptyM y1, emptyM y2⟩ : KM)⟩) := D.out.cell 5 (.bool (y4 / 8 % 2 == 1)) rfl rfl rfl
        clear kk5 ff5 hbl hltv
        generalize w11.setCell ⟨hb, 5, none⟩ (.bool (y4 / 8 % 2 == 1)) = w12 at D' ⊢
        clear D
        have D := D'
        clear D'
        have hbl := D.out.below
        go_wp2_with fail
        refine (HAt.out 5 w12 (by omega) hbl).mono ?_
        rintro e v' ⟨rfl, hv'⟩
        rw [hv', E5.out]
        clear hv' v'
        go_wp2_with fail
        refine (HAt.out 6 w12 (by omega) hbl).mono ?_
        rintro e v' ⟨rfl, hv'⟩
        rw [hv', E6.out]
        clear hv' v'
        go_upto_region 14 with fail
        clear hbl
        by_cases hn2 : 20000 < y5 + 256 * y6
        · have HN : Hid ((20000 : Nat) = stepsM zs) := by show _ = _; unfold stepsM; rw [E5.out, E6.out]; omega
          obtain ⟨nn, hnn⟩ : ∃ nn : Nat, (20000 : Int) = nn := ⟨20000, rfl⟩
          have HN2 : Hid ((nn : Nat) = stepsM zs) := by show _ = _; rw [← HN.out]; omega
          go_upto_region 16 with fail
          clear hn2
          try rw [hnn]
          clear hnn HN
          obtain ⟨l7, e7⟩ : ∃ y, longM zs 7 = y := ⟨_, rfl⟩
          obtain ⟨l15, e15⟩ : ∃ y, longM zs 15 = y := ⟨_, rfl⟩
          obtain ⟨l23, e23⟩ : ∃ y, longM zs 23 = y := ⟨_, rfl⟩
          have E7 : Hid _ := e7
          have E15 : Hid _ := e15
          have E23 : Hid _ := e23
          clear e7 e15 e23
          have hl15 : 0 ≤ l15 ∧ l15 ≤ 18446744073709551615 := by rw [← E15.out]; exact longM_bd HB.out.2.1 15
          have HL23 : Hid (inU l23) := by show inU _; rw [← E23.out]; exact longM_bd HB.out.2.1 23
          obtain ⟨hl151, hl152⟩ := hl15
          go_wp2_with fail
          refine (HLg.out 7 w12 (by omega) D.out.below).mono ?_
          rintro e x16 ⟨rfl, m16⟩
          rw [E7.out]
          have D' : Hid _ := D.out.keep m16
          clear D m16
          have D := D'
          clear D'
          have kk2 := box_cell D.out.box 2 (show (hartA ⟨ra, rc, none, 0, some ⟨g1, 0, none⟩, c1, some ⟨g2, 0, none⟩, c2, some ⟨g3, 0, none⟩, c3⟩ ⟨List.replicate i 0, [], 0, md, (y4 / 4 % 2 == 1), (y4 / 8 % 2 == 1), 0, 0, 0, md, 0, 0, (⟨emptyM y0, emptyM y1, emptyM y2⟩ : KM)⟩)[2]? = some (.int .u64 0) from rfl)
          have ff2 := box_free D.out.box 2
          have hltv : hb < x16.heap.size := D.out.lt
          go_upto_region 17 with fail
          have D' : Hid (DecIn w (x16.setCell ⟨hb, 2, none⟩ (.int .u64 l7)) hb ⟨ra, rc, none, 0, some ⟨g1, 0, none⟩, c1, some ⟨g2, 0, none⟩, c2, some ⟨g3, 0, none⟩, c3⟩ ⟨List.replicate i 0, [], l7, md, (y4 / 4 % 2 == 1), (y4 / 8 % 2 == 1), 0, 0, 0, md, 0, 0, (⟨emptyM y0, emptyM y1, emptyM y2⟩ : KM)⟩) := D.out.cell 2 (.int .u64 l7) rfl rfl rfl
          clear kk2 ff2 hltv
          generalize x16.setCell ⟨hb, 2, none⟩ (.int .u64 l7) = w16 at D' ⊢
          clear D
          have D := D'
          clear D'
          go_wp2_with fail
          refine (HLg.out 15 w16 (by omega) D.out.below).mono ?_
          rintro e x17 ⟨rfl, m17⟩
          rw [E15.out]
          have D' : Hid _ := D.out.keep m17
          clear D m17
          have D := D'
          clear D'
          have kk7 := box_cell D.out.box 7 (show (hartA ⟨ra, rc, none, 0, some ⟨g1, 0, none⟩, c1, some ⟨g2, 0, none⟩, c2, some ⟨g3, 0, none⟩, c3⟩ ⟨List.replicate i 0, [], l7, md, (y4 / 4 % 2 == 1), (y4 / 8 % 2 == 1), 0, 0, 0, md, 0, 0, (⟨emptyM y0, emptyM y1, emptyM y2⟩ : KM)⟩)[7]? = some (.int .u64 0) from rfl)
          have ff7 := box_free D.out.box 7
          have hltv : hb < x17.heap.size := D.out.lt
          go_upto_region 18 with fail
          have D' : Hid (DecIn w (x17.setCell ⟨hb, 7, none⟩ (.int .u64 (l15 / 4 * 4))) hb ⟨ra, rc, none, 0, some ⟨g1, 0, none⟩, c1, some ⟨g2, 0, none⟩, c2, some ⟨g3, 0, none⟩, c3⟩ ⟨List.replicate i 0, [], l7, md, (y4 / 4 % 2 == 1), (y4 / 8 % 2 == 1), 0, (l15 / 4 * 4), 0, md, 0, 0, (⟨emptyM y0, emptyM y1, emptyM y2⟩ : KM)⟩) := D.out.cell 7 (.int .u64 (l15 / 4 * 4)) rfl rfl rfl
          clear kk7 ff7 hltv
          generalize x17.setCell ⟨hb, 7, none⟩ (.int .u64 (l15 / 4 * 4)) = w17 at D' ⊢
          clear D
          have D := D'
          clear D'
          go_wp2_with fail
          refine (HLg.out 23 w17 (by omega) D.out.below).mono ?_
          rintro e x18 ⟨rfl, m18⟩
          rw [E23.out]
          have D' : Hid _ := D.out.keep m18
          clear D m18
          have D := D'
          clear D'
          go_wp2_with fail
          refine (l5Scheme_any l23 x18 HL23.out.1 HL23.out.2).mono ?_
          rintro e x19 ⟨rfl, m19⟩
          have D' : Hid _ := D.out.keep m19
          clear D m19
          have D := D'
          clear D'
          cases hsc : schemeM l23
          · have HSc : Hid ((if schemeM l23 = true then l23 else 0) = 0) := by show _ = _; rw [hsc]; rfl
            clear hsc
            go_upto_region 20 with fail
            refine HH.out _ hb i nn ⟨ra, rc, none, 0, some ⟨g1, 0, none⟩, c1, some ⟨g2, 0, none⟩, c2, some ⟨g3, 0, none⟩, c3⟩ _ _ _ _ _ _ _ _ _ _ _ _ _ _ _ _ _ _ _ _ _ _ _ _ _ _ _ _ _ _ _ _ _ _ _ _ _ _ _ _ _ _ _ _ _ _ _ _ _ _ _ _ _ _ _ _ _ _ _ _ _ _ _ _ _ _ _ _ _ _ _ _ ?_ rfl rfl HSz.out HN2.out _ (by assumption)
            rw [E4.out, E7.out, E15.out, E23.out, E0.out, E1.out, E2.out, HMd.out, HSc.out]
            exact D.out
          · have HSc : Hid ((if schemeM l23 = true then l23 else 0) = l23) := by show _ = _; rw [hsc]; rfl
            clear hsc
            go_upto_region 19 with fail
            go_wp2_with fail
            refine (HLg.out 23 x19 (by omega) D.out.below).mono ?_
            rintro e x20 ⟨rfl, m20⟩
            rw [E23.out]
            have D' : Hid _ := D.out.keep m20
            clear D m20
            have D := D'
            clear D'
            have kk6 := box_cell D.out.box 6 (show (hartA ⟨ra, rc, none, 0, some ⟨g1, 0, none⟩, c1, some ⟨g2, 0, none⟩, c2, some ⟨g3, 0, none⟩, c3⟩ ⟨List.replicate i 0, [], l7, md, (y4 / 4 % 2 == 1), (y4 / 8 % 2 == 1), 0, (l15 / 4 * 4), 0, md, 0, 0, (⟨emptyM y0, emptyM y1, emptyM y2⟩ : KM)⟩)[6]? = some (.int .u64 0) from rfl)
            have ff6 := box_free D.out.box 6
            have hltv : hb < x20.heap.size := D.out.lt
            go_upto_region 20 with fail
            have D' : Hid (DecIn w (x20.setCell ⟨hb, 6, none⟩ (.int .u64 l23)) hb ⟨ra, rc, none, 0, some ⟨g1, 0, none⟩, c1, some ⟨g2, 0, none⟩, c2, some ⟨g3, 0, none⟩, c3⟩ ⟨List.replicate i 0, [], l7, md, (y4 / 4 % 2 == 1), (y4 / 8 % 2 == 1), l23, (l15 / 4 * 4), 0, md, 0, 0, (⟨emptyM y0, emptyM y1, emptyM y2⟩ : KM)⟩) := D.out.cell 6 (.int .u64 l23) rfl rfl rfl
            clear kk6 ff6 hltv
            generalize x20.setCell ⟨hb, 6, none⟩ (.int .u64 l23) = w20 at D' ⊢
            clear D
            have D := D'
            clear D'
            refine HH.out _ hb i nn ⟨ra, rc, none, 0, some ⟨g1, 0, none⟩, c1, some ⟨g2, 0, none⟩, c2, some ⟨g3, 0, none⟩, c3⟩ _ _ _ _ _ _ _ _ _ _ _ _ _ _ _ _ _ _ _ _ _ _ _ _ _ _ _ _ _ _ _ _ _ _ _ _ _ _ _ _ _ _ _ _ _ _ _ _ _ _ _ _ _ _ _ _ _ _ _ _ _ _ _ _ _ _ _ _ _ _ _ _ ?_ rfl rfl HSz.out HN2.out _ (by assumption)
            rw [E4.out, E7.out, E15.out, E23.out, E0.out, E1.out, E2.out, HMd.out, HSc.out]
            exact D.out
        · have HN : Hid (((y5 + 256 * y6).toNat : Nat) = stepsM zs) := by show _ = _; unfold stepsM; rw [E5.out, E6.out]; omega
          obtain ⟨nn, hnn⟩ : ∃ nn : Nat, y5 + 256 * y6 = nn := ⟨(y5 + 256 * y6).toNat, by omega⟩
          have HN2 : Hid ((nn : Nat) = stepsM zs) := by show _ = _; rw [← HN.out]; omega
          go_upto_region 16 with fail
          clear hn2
          try rw [hnn]
          clear hnn HN
          obtain ⟨l7, e7⟩ : ∃ y, longM zs 7 = y := ⟨_, rfl⟩
          obtain ⟨l15, e15⟩ : ∃ y, longM zs 15 = y := ⟨_, rfl⟩
          obtain ⟨l23, e23⟩ : ∃ y, longM zs 23 = y := ⟨_, rfl⟩
          have E7 : Hid _ := e7
          have E15 : Hid _ := e15
          have E23 : Hid _ := e23
          clear e7 e15 e23
          have hl15 : 0 ≤ l15 ∧ l15 ≤ 18446744073709551615 := by rw [← E15.out]; exact longM_bd HB.out.2.1 15
          have HL23 : Hid (inU l23) := by show inU _; rw [← E23.out]; exact longM_bd HB.out.2.1 23
          obtain ⟨hl151, hl152⟩ := hl15
          go_wp2_with fail
          refine (HLg.out 7 w12 (by omega) D.out.below).mono ?_
          rintro e x16 ⟨rfl, m16⟩
          rw [E7.out]
          have D' : Hid _ := D.out.keep m16
          clear D m16
          have D := D'
          clear D'
          have kk2 := box_cell D.out.box 2 (show (hartA ⟨ra, rc, none, 0, some ⟨g1, 0, none⟩, c1, some ⟨g2, 0, none⟩, c2, some ⟨g3, 0, none⟩, c3⟩ ⟨List.replicate i 0, [], 0, md, (y4 / 4 % 2 == 1), (y4 / 8 % 2 == 1), 0, 0, 0, md, 0, 0, (⟨emptyM y0, emptyM y1, emptyM y2⟩ : KM)⟩)[2]? = some (.int .u64 0) from rfl)
          have ff2 := box_free D.out.box 2
          have hltv : hb < x16.heap.size := D.out.lt
          go_upto_region 17 with fail
          have D' : Hid (DecIn w (x16.setCell ⟨hb, 2, none⟩ (.int .u64 l7)) hb ⟨ra, rc, none, 0, some ⟨g1, 0, none⟩, c1, some ⟨g2, 0, none⟩, c2, some ⟨g3, 0, none⟩, c3⟩ ⟨List.replicate i 0, [], l7, md, (y4 / 4 % 2 == 1), (y4 / 8 % 2 == 1), 0, 0, 0, md, 0, 0, (⟨emptyM y0, emptyM y1, emptyM y2⟩ : KM)⟩) := D.out.cell 2 (.int .u64 l7) rfl rfl rfl
          clear kk2 ff2 hltv
          generalize x16.setCell ⟨hb, 2, none⟩ (.int .u64 l7) = w16 at D' ⊢
          clear D
          have D := D'
          clear D'
          go_wp2_with fail
          refine (HLg.out 15 w16 (by omega) D.out.below).mono ?_
          rintro e x17 ⟨rfl, m17⟩
          rw [E15.out]
          have D' : Hid _ := D.out.keep m17
          clear D m17
          have D := D'
          clear D'
          have kk7 := box_cell D.out.box 7 (show (hartA ⟨ra, rc, none, 0, some ⟨g1, 0, none⟩, c1, some ⟨g2, 0, none⟩, c2, some ⟨g3, 0, none⟩, c3⟩ ⟨List.replicate i 0, [], l7, md, (y4 / 4 % 2 == 1), (y4 / 8 % 2 == 1), 0, 0, 0, md, 0, 0, (⟨emptyM y0, emptyM y1, emptyM y2⟩ : KM)⟩)[7]? = some (.int .u64 0) from rfl)
          have ff7 := box_free D.out.box 7
          have hltv : hb < x17.heap.size := D.out.lt
          go_upto_region 18 with fail
          have D' : Hid (DecIn w (x17.setCell ⟨hb, 7, none⟩ (.int .u64 (l15 / 4 * 4))) hb ⟨ra, rc, none, 0, some ⟨g1, 0, none⟩, c1, some ⟨g2, 0, none⟩, c2, some ⟨g3, 0, none⟩, c3⟩ ⟨List.replicate i 0, [], l7, md, (y4 / 4 % 2 == 1), (y4 / 8 % 2 == 1), 0, (l15 / 4 * 4), 0, md, 0, 0, (⟨emptyM y0, emptyM y1, emptyM y2⟩ : KM)⟩) := D.out.cell 7 (.int .u64 (l15 / 4 * 4)) rfl rfl rfl
          clear kk7 ff7 hltv
          generalize x17.setCell ⟨hb, 7, none⟩ (.int .u64 (l15 / 4 * 4)) = w17 at D' ⊢
          clear D
          have D := D'
          clear D'
          go_wp2_with fail
          refine (HLg.out 23 w17 (by omega) D.out.below).mono ?_
          rintro e x18 ⟨rfl, m18⟩
          rw [E23.out]
          have D' : Hid _ := D.out.keep m18
          clear D m18
          have D := D'
          clear D'
          go_wp2_with fail
          refine (l5Scheme_any l23 x18 HL23.out.1 HL23.out.2).mono ?_
          rintro e x19 ⟨rfl, m19⟩
          have D' : Hid _ := D.out.keep m19
          clear D m19
          have D := D'
          clear D'
          cases hsc : schemeM l23
          · have HSc : Hid ((if schemeM l23 = true then l23 else 0) = 0) := by show _ = _; rw [hsc]; rfl
            clear hsc
            go_upto_region 20 with fail
            refine HH.out _ hb i nn ⟨ra, rc, none, 0, some ⟨g1, 0, none⟩, c1, some ⟨g2, 0, none⟩, c2, some ⟨g3, 0, none⟩, c3⟩ _ _ _ _ _ _ _ _ _ _ _ _ _ _ _ _ _ _ _ _ _ _ _ _ _ _ _ _ _ _ _ _ _ _ _ _ _ _ _ _ _ _ _ _ _ _ _ _ _ _ _ _ _ _ _ _ _ _ _ _ _ _ _ _ _ _ _ _ _ _ _ _ ?_ rfl rfl HSz.out HN2.out _ (by assumption)
            rw [E4.out, E7.out, E15.out, E23.out, E0.out, E1.out, E2.out, HMd.out, HSc.out]
            exact D.out
          · have HSc : Hid ((if schemeM l23 = true then l23 else 0) = l23) := by show _ = _; rw [hsc]; rfl
            clear hsc
            go_upto_region 19 with fail
            go_wp2_with fail
            refine (HLg.out 23 x19 (by omega) D.out.below).mono ?_
            rintro e x20 ⟨rfl, m20⟩
            rw [E23.out]
            have D' : Hid _ := D.out.keep m20
            clear D m20
            have D := D'
            clear D'
            have kk6 := box_cell D.out.box 6 (show (hartA ⟨ra, rc, none, 0, some ⟨g1, 0, none⟩, c1, some ⟨g2, 0, none⟩, c2, some ⟨g3, 0, none⟩, c3⟩ ⟨List.replicate i 0, [], l7, md, (y4 / 4 % 2 == 1), (y4 / 8 % 2 == 1), 0, (l15 / 4 * 4), 0, md, 0, 0, (⟨emptyM y0, emptyM y1, emptyM y2⟩ : KM)⟩)[6]? = some (.int .u64 0) from rfl)
            have ff6 := box_free D.out.box 6
            have hltv : hb < x20.heap.size := D.out.lt
            go_upto_region 20 with fail
            have D' : Hid (DecIn w (x20.setCell ⟨hb, 6, none⟩ (.int .u64 l23)) hb ⟨ra, rc, none, 0, some ⟨g1, 0, none⟩, c1, some ⟨g2, 0, none⟩, c2, some ⟨g3, 0, none⟩, c3⟩ ⟨List.replicate i 0, [], l7, md, (y4 / 4 % 2 == 1), (y4 / 8 % 2 == 1), l23, (l15 / 4 * 4), 0, md, 0, 0, (⟨emptyM y0, emptyM y1, emptyM y2⟩ : KM)⟩) := D.out.cell 6 (.int .u64 l23) rfl rfl rfl
            clear kk6 ff6 hltv
            generalize x20.setCell ⟨hb, 6, none⟩ (.int .u64 l23) = w20 at D' ⊢
            clear D
            have D := D'
            clear D'
            refine HH.out _ hb i nn ⟨ra, rc, none, 0, some ⟨g1, 0, none⟩, c1, some ⟨g2, 0, none⟩, c2, some ⟨g3, 0, none⟩, c3⟩ _ _ _ _ _ _ _ _ _ _ _ _ _ _ _ _ _ _ _ _ _ _ _ _ _ _ _ _ _ _ _ _ _ _ _ _ _ _ _ _ _ _ _ _ _ _ _ _ _ _ _ _ _ _ _ _ _ _ _ _ _ _ _ _ _ _ _ _ _ _ _ _ ?_ rfl rfl HSz.out HN2.out _ (by assumption)
            rw [E4.out, E7.out, E15.out, E23.out, E0.out, E1.out, E2.out, HMd.out, HSc.out]
            exact D.out
      · go_upto_region 10 with fail
        have HMd : Hid (modeM y4 = md0) := by show _ = _; unfold modeM; rw [HMd0.out, if_neg hm3]
        clear kk3 ff3 hltv HMd0 hm3
        obtain ⟨md, hmd⟩ : ∃ m : Int, md0 = m := ⟨_, rfl⟩
        rw [hmd] at D HMd
        clear hmd
        have kk3 := box_cell D.out.box 3 (show (hartA ⟨ra, rc, none, 0, some ⟨g1, 0, none⟩, c1, some ⟨g2, 0, none⟩, c2, some ⟨g3, 0, none⟩, c3⟩ ⟨List.replicate i 0, [], 0, md, false, false, 0, 0, 0, 0, 0, 0, (⟨emptyM y0, emptyM y1, emptyM y2⟩ : KM)⟩)[3]? = some (.int .i64 md) from rfl)
        have ff3 := box_free D.out.box 3
        have kk9 := box_cell D.out.box 9 (show (hartA ⟨ra, rc, none, 0, some ⟨g1, 0, none⟩, c1, some ⟨g2, 0, none⟩, c2, some ⟨g3, 0, none⟩, c3⟩ ⟨List.replicate i 0, [], 0, md, false, false, 0, 0, 0, 0, 0, 0, (⟨emptyM y0, emptyM y1, emptyM y2⟩ : KM)⟩)[9]? = some (.int .i64 0) from rfl)
        have ff9 := box_free D.out.box 9
        have hltv : hb < w7.heap.size := D.out.lt
        go_upto_region 11 with fail
        have D' : Hid (DecIn w (w7.setCell ⟨hb, 9, none⟩ (.int .i64 md)) hb ⟨ra, rc, none, 0, some ⟨g1, 0, none⟩, c1, some ⟨g2, 0, none⟩, c2, some ⟨g3, 0, none⟩, c3⟩ ⟨List.replicate i 0, [], 0, md, false, false, 0, 0, 0, md, 0, 0, (⟨emptyM y0, emptyM y1, emptyM y2⟩ : KM)⟩) := D.out.cell 9 (.int .i64 md) rfl rfl rfl
        clear kk3 ff3 kk9 ff9 hltv
        generalize w7.setCell ⟨hb, 9, none⟩ (.int .i64 md) = w10 at D' ⊢
        clear D
        have D := D'
        clear D'
        have kk4 := box_cell D.out.box 4 (show (hartA ⟨ra, rc, none, 0, some ⟨g1, 0, none⟩, c1, some ⟨g2, 0, none⟩, c2, some ⟨g3, 0, none⟩, c3⟩ ⟨List.replicate i 0, [], 0, md, false, false, 0, 0, 0, md, 0, 0, (⟨emptyM y0, emptyM y1, emptyM y2⟩ : KM)⟩)[4]? = some (.bool false) from rfl)
        have ff4 := box_free D.out.box 4
        have hbl := D.out.below
        have hltv : hb < w10.heap.size := D.out.lt
        go_upto_region 12 with (go_at_call 19; refine (HAt.out 4 _ (by omega) hbl).mono ?_; rintro e v' ⟨rfl, hv'⟩; rw [hv']; clear hv' v'; rw [E4.out])
        have D' : Hid (DecIn w (w10.setCell ⟨hb, 4, none⟩ (.bool (y4 / 4 % 2 == 1))) hb ⟨ra, rc, none, 0, some ⟨g1, 0, none⟩, c1, some ⟨g2, 0, none⟩, c2, some ⟨g3, 0, none⟩, c3⟩ ⟨List.replicate i 0, [], 0, md, (y4 / 4 % 2 == 1), false, 0, 0, 0, md, 0, 0, (⟨emptyM y0, emptyM y1, emptyM y2⟩ : KM)⟩) := D.out.cell 4 (.bool (y4 / 4 % 2 == 1)) rfl rfl rfl
        clear kk4 ff4 hbl hltv
        generalize w10.setCell ⟨hb, 4, none⟩ (.bool (y4 / 4 % 2 == 1)) = w11 at D' ⊢
        clear D
        have D := D'
        clear D'
        have kk5 := box_cell D.out.box 5 (show (hartA ⟨ra, rc, none, 0, some ⟨g1, 0, none⟩, c1, some ⟨g2, 0, none⟩, c2, some ⟨g3, 0, none⟩, c3⟩ ⟨List.replicate i 0, [], 0, md, (y4 / 4 % 2 == 1), false, 0, 0, 0, md, 0, 0, (⟨emptyM y0, emptyM y1, emptyM y2⟩ : KM)⟩)[5]? = some (.bool false) from rfl)
        have ff5 := box_free D.out.box 5
        have hbl := D.out.below
        have hltv : hb < w11.heap.size := D.out.lt
        go_upto_region 13 with (go_at_call 19; refine (HAt.out 4 _ (by omega) hbl).mono ?_; rintro e v' ⟨rfl, hv'⟩; rw [hv']; clear hv' v'; rw [E4.out])
        have D' : Hid (DecIn w (w11.setCell ⟨hb, 5, none⟩ (.bool (y4 / 8 % 2 == 1))) hb ⟨ra, rc, none, 0, some ⟨g1, 0, none⟩, c1, some ⟨g2, 0, none⟩, c2, some ⟨g3, 0, none⟩, c3⟩ ⟨List.replicate i 0, [], 0, md, (y4 / 4 % 2 == 1), (y4 / 8 % 2 == 1), 0, 0, 0, md, 0, 0, (⟨emptyM y0, emptyM y1, emptyM y2⟩ : KM)⟩) := D.out.cell 5 (.bool (y4 / 8 % 2 == 1)) rfl rfl rfl
        clear kk5 ff5 hbl hltv
        generalize w11.setCell ⟨hb, 5, none⟩ (.bool (y4 / 8 % 2 == 1)) = w12 at D' ⊢
        clear D
        have D := D'
        clear D'
        have hbl := D.out.below
        go_wp2_with fail
        refine (HAt.out 5 w12 (by omega) hbl).mono ?_
        rintro e v' ⟨rfl, hv'⟩
        rw [hv', E5.out]
        clear hv' v'
        go_wp2_with fail
        refine (HAt.out 6 w12 (by omega) hbl).mono ?_
        rintro e v' ⟨rfl, hv'⟩
        rw [hv', E6.out]
        clear hv' v'
        go_upto_region 14 with fail
        clear hbl
        by_cases hn2 : 20000 < y5 + 256 * y6
        · have HN : Hid ((20000 : Nat) = stepsM zs) := by show _ = _; unfold stepsM; rw [E5.out, E6.out]; omega
          obtain ⟨nn, hnn⟩ : ∃ nn : Nat, (20000 : Int) = nn := ⟨20000, rfl⟩
          have HN2 : Hid ((nn : Nat) = stepsM zs) := by show _ = _; rw [← HN.out]; omega
          go_upto_region 16 with fail
          clear hn2
          try rw [hnn]
          clear hnn HN
          obtain ⟨l7, e7⟩ : ∃ y, longM zs 7 = y := ⟨_, rfl⟩
          obtain ⟨l15, e15⟩ : ∃ y, longM zs 15 = y := ⟨_, rfl⟩
          obtain ⟨l23, e23⟩ : ∃ y, longM zs 23 = y := ⟨_, rfl⟩
          have E7 : Hid _ := e7
          have E15 : Hid _ := e15
          have E23 : Hid _ := e23
          clear e7 e15 e23
          have hl15 : 0 ≤ l15 ∧ l15 ≤ 18446744073709551615 := by rw [← E15.out]; exact longM_bd HB.out.2.1 15
          have HL23 : Hid (inU l23) := by show inU _; rw [← E23.out]; exact longM_bd HB.out.2.1 23
          obtain ⟨hl151, hl152⟩ := hl15
          go_wp2_with fail
          refine (HLg.out 7 w12 (by omega) D.out.below).mono ?_
          rintro e x16 ⟨rfl, m16⟩
          rw [E7.out]
          have D' : Hid _ := D.out.keep m16
          clear D m16
          have D := D'
          clear D'
          have kk2 := box_cell D.out.box 2 (show (hartA ⟨ra, rc, none, 0, some ⟨g1, 0, none⟩, c1, some ⟨g2, 0, none⟩, c2, some ⟨g3, 0, none⟩, c3⟩ ⟨List.replicate i 0, [], 0, md, (y4 / 4 % 2 == 1), (y4 / 8 % 2 == 1), 0, 0, 0, md, 0, 0, (⟨emptyM y0, emptyM y1, emptyM y2⟩ : KM)⟩)[2]? = some (.int .u64 0) from rfl)
          have ff2 := box_free D.out.box 2
          have hltv : hb < x16.heap.size := D.out.lt
          go_upto_region 17 with fail
          have D' : Hid (DecIn w (x16.setCell ⟨hb, 2, none⟩ (.int .u64 l7)) hb ⟨ra, rc, none, 0, some ⟨g1, 0, none⟩, c1, some ⟨g2, 0, none⟩, c2, some ⟨g3, 0, none⟩, c3⟩ ⟨List.replicate i 0, [], l7, md, (y4 / 4 % 2 == 1), (y4 / 8 % 2 == 1), 0, 0, 0, md, 0, 0, (⟨emptyM y0, emptyM y1, emptyM y2⟩ : KM)⟩) := D.out.cell 2 (.int .u64 l7) rfl rfl rfl
          clear kk2 ff2 hltv
          generalize x16.setCell ⟨hb, 2, none⟩ (.int .u64 l7) = w16 at D' ⊢
          clear D
          have D := D'
          clear D'
          go_wp2_with fail
          refine (HLg.out 15 w16 (by omega) D.out.below).mono ?_
          rintro e x17 ⟨rfl, m17⟩
          rw [E15.out]
          have D' : Hid _ := D.out.keep m17
          clear D m17
          have D := D'
          clear D'
          have kk7 := box_cell D.out.box 7 (show (hartA ⟨ra, rc, none, 0, some ⟨g1, 0, none⟩, c1, some ⟨g2, 0, none⟩, c2, some ⟨g3, 0, none⟩, c3⟩ ⟨List.replicate i 0, [], l7, md, (y4 / 4 % 2 == 1), (y4 / 8 % 2 == 1), 0, 0, 0, md, 0, 0, (⟨emptyM y0, emptyM y1, emptyM y2⟩ : KM)⟩)[7]? = some (.int .u64 0) from rfl)
          have ff7 := box_free D.out.box 7
          have hltv : hb < x17.heap.size := D.out.lt
          go_upto_region 18 with fail
          have D' : Hid (DecIn w (x17.setCell ⟨hb, 7, none⟩ (.int .u64 (l15 / 4 * 4))) hb ⟨ra, rc, none, 0, some ⟨g1, 0, none⟩, c1, some ⟨g2, 0, none⟩, c2, some ⟨g3, 0, none⟩, c3⟩ ⟨List.replicate i 0, [], l7, md, (y4 / 4 % 2 == 1), (y4 / 8 % 2 == 1), 0, (l15 / 4 * 4), 0, md, 0, 0, (⟨emptyM y0, emptyM y1, emptyM y2⟩ : KM)⟩) := D.out.cell 7 (.int .u64 (l15 / 4 * 4)) rfl rfl rfl
          clear kk7 ff7 hltv
          generalize x17.setCell ⟨hb, 7, none⟩ (.int .u64 (l15 / 4 * 4)) = w17 at D' ⊢
          clear D
          have D := D'
          clear D'
          go_wp2_with fail
          refine (HLg.out 23 w17 (by omega) D.out.below).mono ?_
          rintro e x18 ⟨rfl, m18⟩
          rw [E23.out]
          have D' : Hid _ := D.out.keep m18
          clear D m18
          have D := D'
          clear D'
          go_wp2_with fail
          refine (l5Scheme_any l23 x18 HL23.out.1 HL23.out.2).mono ?_
          rintro e x19 ⟨rfl, m19⟩
          have D' : Hid _ := D.out.keep m19
          clear D m19
          have D := D'
          clear D'
          cases hsc : schemeM l23
          · have HSc : Hid ((if schemeM l23 = true then l23 else 0) = 0) := by show _ = _; rw [hsc]; rfl
            clear hsc
            go_upto_region 20 with fail
            refine HH.out _ hb i nn ⟨ra, rc, none, 0, some ⟨g1, 0, none⟩, c1, some ⟨g2, 0, none⟩, c2, some ⟨g3, 0, none⟩, c3⟩ _ _ _ _ _ _ _ _ _ _ _ _ _ _ _ _ _ _ _ _ _ _ _ _ _ _ _ _ _ _ _ _ _ _ _ _ _ _ _ _ _ _ _ _ _ _ _ _ _ _ _ _ _ _ _ _ _ _ _ _ _ _ _ _ _ _ _ _ _ _ _ _ ?_ rfl rfl HSz.out HN2.out _ (by assumption)
            rw [E4.out, E7.out, E15.out, E23.out, E0.out, E1.out, E2.out, HMd.out, HSc.out]
            exact D.out
          · have HSc : Hid ((if schemeM l23 = true then l23 else 0) = l23) := by show _ = _; rw [hsc]; rfl
            clear hsc
            go_upto_region 19 with fail
            go_wp2_with fail
            refine (HLg.out 23 x19 (by omega) D.out.below).mono ?_
            rintro e x20 ⟨rfl, m20⟩
            rw [E23.out]
            have D' : Hid _ := D.out.keep m20
            clear D m20
            have D := D'
            clear D'
            have kk6 := box_cell D.out.box 6 (show (hartA ⟨ra, rc, none, 0, some ⟨g1, 0, none⟩, c1, some ⟨g2, 0, none⟩, c2, some ⟨g3, 0, none⟩, c3⟩ ⟨List.replicate i 0, [], l7, md, (y4 / 4 % 2 == 1), (y4 / 8 % 2 == 1), 0, (l15 / 4 * 4), 0, md, 0, 0, (⟨emptyM y0, emptyM y1, emptyM y2⟩ : KM)⟩)[6]? = some (.int .u64 0) from rfl)
            have ff6 := box_free D.out.box 6
            have hltv : hb < x20.heap.size := D.out.lt
            go_upto_region 20 with fail
            have D' : Hid (DecIn w (x20.setCell ⟨hb, 6, none⟩ (.int .u64 l23)) hb ⟨ra, rc, none, 0, some ⟨g1, 0, none⟩, c1, some ⟨g2, 0, none⟩, c2, some ⟨g3, 0, none⟩, c3⟩ ⟨List.replicate i 0, [], l7, md, (y4 / 4 % 2 == 1), (y4 / 8 % 2 == 1), l23, (l15 / 4 * 4), 0, md, 0, 0, (⟨emptyM y0, emptyM y1, emptyM y2⟩ : KM)⟩) := D.out.cell 6 (.int .u64 l23) rfl rfl rfl
            clear kk6 ff6 hltv
            generalize x20.setCell ⟨hb, 6, none⟩ (.int .u64 l23) = w20 at D' ⊢
            clear D
            have D := D'
            clear D'
            refine HH.out _ hb i nn ⟨ra, rc, none, 0, some ⟨g1, 0, none⟩, c1, some ⟨g2, 0, none⟩, c2, some ⟨g3, 0, none⟩, c3⟩ _ _ _ _ _ _ _ _ _ _ _ _ _ _ _ _ _ _ _ _ _ _ _ _ _ _ _ _ _ _ _ _ _ _ _ _ _ _ _ _ _ _ _ _ _ _ _ _ _ _ _ _ _ _ _ _ _ _ _ _ _ _ _ _ _ _ _ _ _ _ _ _ ?_ rfl rfl HSz.out HN2.out _ (by assumption)
            rw [E4.out, E7.out, E15.out, E23.out, E0.out, E1.out, E2.out, HMd.out, HSc.out]
            exact D.out
        · have HN : Hid (((y5 + 256 * y6).toNat : Nat) = stepsM zs) := by show _ = _; unfold stepsM; rw [E5.out, E6.out]; omega
          obtain ⟨nn, hnn⟩ : ∃ nn : Nat, y5 + 256 * y6 = nn := ⟨(y5 + 256 * y6).toNat, by omega⟩
          have HN2 : Hid ((nn : Nat) = stepsM zs) := by show _ = _; rw [← HN.out]; omega
          go_upto_region 16 with fail
          clear hn2
          try rw [hnn]
          clear hnn HN
          obtain ⟨l7, e7⟩ : ∃ y, longM zs 7 = y := ⟨_, rfl⟩
          obtain ⟨l15, e15⟩ : ∃ y, longM zs 15 = y := ⟨_, rfl⟩
          obtain ⟨l23, e23⟩ : ∃ y, longM zs 23 = y := ⟨_, rfl⟩
          have E7 : Hid _ := e7
          have E15 : Hid _ := e15
          have E23 : Hid _ := e23
          clear e7 e15 e23
          have hl15 : 0 ≤ l15 ∧ l15 ≤ 18446744073709551615 := by rw [← E15.out]; exact longM_bd HB.out.2.1 15
          have HL23 : Hid (inU l23) := by show inU _; rw [← E23.out]; exact longM_bd HB.out.2.1 23
          obtain ⟨hl151, hl152⟩ := hl15
          go_wp2_with fail
          refine (HLg.out 7 w12 (by omega) D.out.below).mono ?_
          rintro e x16 ⟨rfl, m16⟩
          rw [E7.out]
          have D' : Hid _ := D.out.keep m16
          clear D m16
          have D := D'
          clear D'
          have kk2 := box_cell D.out.box 2 (show (hartA ⟨ra, rc, none, 0, some ⟨g1, 0, none⟩, c1, some ⟨g2, 0, none⟩, c2, some ⟨g3, 0, none⟩, c3⟩ ⟨List.replicate i 0, [], 0, md, (y4 / 4 % 2 == 1), (y4 / 8 % 2 == 1), 0, 0, 0, md, 0, 0, (⟨emptyM y0, emptyM y1, emptyM y2⟩ : KM)⟩)[2]? = some (.int .u64 0) from rfl)
          have ff2 := box_free D.out.box 2
          have hltv : hb < x16.heap.size := D.out.lt
          go_upto_region 17 with fail
          have D' : Hid (DecIn w (x16.setCell ⟨hb, 2, none⟩ (.int .u64 l7)) hb ⟨ra, rc, none, 0, some ⟨g1, 0, none⟩, c1, some ⟨g2, 0, none⟩, c2, some ⟨g3, 0, none⟩, c3⟩ ⟨List.replicate i 0, [], l7, md, (y4 / 4 % 2 == 1), (y4 / 8 % 2 == 1), 0, 0, 0, md, 0, 0, (⟨emptyM y0, emptyM y1, emptyM y2⟩ : KM)⟩) := D.out.cell 2 (.int .u64 l7) rfl rfl rfl
          clear kk2 ff2 hltv
          generalize x16.setCell ⟨hb, 2, none⟩ (.int .u64 l7) = w16 at D' ⊢
          clear D
          have D := D'
          clear D'
          go_wp2_with fail
          refine (HLg.out 15 w16 (by omega) D.out.below).mono ?_
          rintro e x17 ⟨rfl, m17⟩
          rw [E15.out]
          have D' : Hid _ := D.out.keep m17
          clear D m17
          have D := D'
          clear D'
          have kk7 := box_cell D.out.box 7 (show (hartA ⟨ra, rc, none, 0, some ⟨g1, 0, none⟩, c1, some ⟨g2, 0, none⟩, c2, some ⟨g3, 0, none⟩, c3⟩ ⟨List.replicate i 0, [], l7, md, (y4 / 4 % 2 == 1), (y4 / 8 % 2 == 1), 0, 0, 0, md, 0, 0, (⟨emptyM y0, emptyM y1, emptyM y2⟩ : KM)⟩)[7]? = some (.int .u64 0) from rfl)
          have ff7 := box_free D.out.box 7
          have hltv : hb < x17.heap.size := D.out.lt
          go_upto_region 18 with fail
          have D' : Hid (DecIn w (x17.setCell ⟨hb, 7, none⟩ (.int .u64 (l15 / 4 * 4))) hb ⟨ra, rc, none, 0, some ⟨g1, 0, none⟩, c1, some ⟨g2, 0, none⟩, c2, some ⟨g3, 0, none⟩, c3⟩ ⟨List.replicate i 0, [], l7, md, (y4 / 4 % 2 == 1), (y4 / 8 % 2 == 1), 0, (l15 / 4 * 4), 0, md, 0, 0, (⟨emptyM y0, emptyM y1, emptyM y2⟩ : KM)⟩) := D.out.cell 7 (.int .u64 (l15 / 4 * 4)) rfl rfl rfl
          clear kk7 ff7 hltv
          generalize x17.setCell ⟨hb, 7, none⟩ (.int .u64 (l15 / 4 * 4)) = w17 at D' ⊢
          clear D
          have D := D'
          clear D'
          go_wp2_with fail
          refine (HLg.out 23 w17 (by omega) D.out.below).mono ?_
          rintro e x18 ⟨rfl, m18⟩
          rw [E23.out]
          have D' : Hid _ := D.out.keep m18
          clear D m18
          have D := D'
          clear D'
          go_wp2_with fail
          refine (l5Scheme_any l23 x18 HL23.out.1 HL23.out.2).mono ?_
          rintro e x19 ⟨rfl, m19⟩
          have D' : Hid _ := D.out.keep m19
          clear D m19
          have D := D'
          clear D'
          cases hsc : schemeM l23
          · have HSc : Hid ((if schemeM l23 = true then l23 else 0) = 0) := by show _ = _; rw [hsc]; rfl
            clear hsc
            go_upto_region 20 with fail
            refine HH.out _ hb i nn ⟨ra, rc, none, 0, some ⟨g1, 0, none⟩, c1, some ⟨g2, 0, none⟩, c2, some ⟨g3, 0, none⟩, c3⟩ _ _ _ _ _ _ _ _ _ _ _ _ _ _ _ _ _ _ _ _ _ _ _ _ _ _ _ _ _ _ _ _ _ _ _ _ _ _ _ _ _ _ _ _ _ _ _ _ _ _ _ _ _ _ _ _ _ _ _ _ _ _ _ _ _ _ _ _ _ _ _ _ ?_ rfl rfl HSz.out HN2.out _ (by assumption)
            rw [E4.out, E7.out, E15.out, E23.out, E0.out, E1.out, E2.out, HMd.out, HSc.out]
            exact D.out
          · have HSc : Hid ((if schemeM l23 = true then l23 else 0) = l23) := by show _ = _; rw [hsc]; rfl
            clear hsc
            go_upto_region 19 with fail
            go_wp2_with fail
            refine (HLg.out 23 x19 (by omega) D.out.below).mono ?_
            rintro e x20 ⟨rfl, m20⟩
            rw [E23.out]
            have D' : Hid _ := D.out.keep m20
            clear D m20
            have D := D'
            clear D'
            have kk6 := box_cell D.out.box 6 (show (hartA ⟨ra, rc, none, 0, some ⟨g1, 0, none⟩, c1, some ⟨g2, 0, none⟩, c2, some ⟨g3, 0, none⟩, c3⟩ ⟨List.replicate i 0, [], l7, md, (y4 / 4 % 2 == 1), (y4 / 8 % 2 == 1), 0, (l15 / 4 * 4), 0, md, 0, 0, (⟨emptyM y0, emptyM y1, emptyM y2⟩ : KM)⟩)[6]? = some (.int .u64 0) from rfl)
            have ff6 := box_free D.out.box 6
            have hltv : hb < x20.heap.size := D.out.lt
            go_upto_region 20 with fail
            have D' : Hid (DecIn w (x20.setCell ⟨hb, 6, none⟩ (.int .u64 l23)) hb ⟨ra, rc, none, 0, some ⟨g1, 0, none⟩, c1, some ⟨g2, 0, none⟩, c2, some ⟨g3, 0, none⟩, c3⟩ ⟨List.replicate i 0, [], l7, md, (y4 / 4 % 2 == 1), (y4 / 8 % 2 == 1), l23, (l15 / 4 * 4), 0, md, 0, 0, (⟨emptyM y0, emptyM y1, emptyM y2⟩ : KM)⟩) := D.out.cell 6 (.int .u64 l23) rfl rfl rfl
            clear kk6 ff6 hltv
            generalize x20.setCell ⟨hb, 6, none⟩ (.int .u64 l23) = w20 at D' ⊢
            clear D
            have D := D'
            clear D'
            refine HH.out _ hb i nn ⟨ra, rc, none, 0, some ⟨g1, 0, none⟩, c1, some ⟨g2, 0, none⟩, c2, some ⟨g3, 0, none⟩, c3⟩ _ _ _ _ _ _ _ _ _ _ _ _ _ _ _ _ _ _ _ _ _ _ _ _ _ _ _ _ _ _ _ _ _ _ _ _ _ _ _ _ _ _ _ _ _ _ _ _ _ _ _ _ _ _ _ _ _ _ _ _ _ _ _ _ _ _ _ _ _ _ _ _ ?_ rfl rfl HSz.out HN2.out _ (by assumption)
            rw [E4.out, E7.out, E15.out, E23.out, E0.out, E1.out, E2.out, HMd.out, HSc.out]
            exact D.out

end Go.Proofs.Ythekickjjaleaac
