import Derived.Test.YthekickjjaleaacGreatPack08
import Derived.Test.YthekickjjaleaacGreatPack01
/- The laws' copies of entries and caches: toEntry, toEntryS, toTlb, and their sizes. -/
namespace Go.Proofs.YthekickjjaleaacGreat
open Go.RowKit
set_option linter.unusedVariables false
attribute [local go_sem ↓] Go.wp_at_zero Go.wp_at_succ

theorem szEntryS_any (a : Option Addr) (n cap : Nat) (left : Int) (w : World) (hn : (n : Int) ≤ 9223372036854775807) (h0 : 0 ≤ left) (h1 : left ≤ 1048576) :
    Calls Tryz.prog 84 #[.slice a n cap, .int .i64 left] w fun e w' => e = .returned (.int .i64 (if left < n then -1 else left - n)) ∧ w' = w := by
  by_cases h : left < n
  · rw [if_pos h]
    go_enter Tryz.func84, Tryz.ntmps84
    go_wp2_with fail
    go_ret
    exact ⟨rfl, rfl⟩
  · rw [if_neg h]
    go_enter Tryz.func84, Tryz.ntmps84
    go_wp2_with fail
    go_ret
    exact ⟨rfl, rfl⟩

set_option maxHeartbeats 400000 in
theorem toEntry_any (v : Bool) (l t a : Int) (g : Bool) (p : Int) (w : World) :
    Calls Tryz.prog 147 #[.agg #[.bool v, .int .i64 l, .int .u64 t, .int .u64 a, .bool g, .int .u64 p]] w fun e w' => e = .returned (.agg #[.bool v, .int .i64 l, .int .u64 t, .int .u64 a, .bool g, .int .u64 p]) ∧ Below w.heap.size w w' := by
  go_enter Tryz.func147, Tryz.ntmps147
  go_wp2_with fail
  exact bodyPost_ret (v := .agg #[.bool v, .int .i64 l, .int .u64 t, .int .u64 a, .bool g, .int .u64 p]) (by simp [results, Tryz.results147, go_sem]) rfl ⟨rfl, (((Below.refl _ _).alloc (Nat.le_refl _) _).alloc (by simp) _).alloc (by simp; omega) _⟩

theorem to_step (es : List EntM) (ys : List Value) (k n : Nat) (x : EntM) (hx : es[k]? = some x) (hy : ys.length = n * 6) (hk : k < n) (hn : es.length = n) (h : ∀ t, t < k * 6 → ys[t]? = (entsC es)[t]?) :
    ∀ t, t < (k + 1) * 6 → ((((((ys.set (k * 6) (.bool x.valid)).set (k * 6 + 1) (.int .i64 x.level)).set (k * 6 + 2) (.int .u64 x.tag)).set (k * 6 + 3) (.int .u64 x.asid)).set (k * 6 + 4) (.bool x.glob)).set (k * 6 + 5) (.int .u64 x.pte))[t]? = (entsC es)[t]? := by
  intro t ht
  obtain ⟨hk', rfl⟩ := List.getElem?_eq_some_iff.1 hx
  have hj := fun j hj => entsC_at es k j hk' hj
  by_cases h0 : t < k * 6
  · simp only [List.getElem?_set]
    rw [if_neg (by omega), if_neg (by omega), if_neg (by omega), if_neg (by omega), if_neg (by omega), if_neg (by omega)]
    exact h t h0
  · rcases (show t = k * 6 ∨ t = k * 6 + 1 ∨ t = k * 6 + 2 ∨ t = k * 6 + 3 ∨ t = k * 6 + 4 ∨ t = k * 6 + 5 by omega) with rfl | rfl | rfl | rfl | rfl | rfl
    · have h6 : (entsC es)[k * 6]? = (entC es[k])[0]? := hj 0 (by omega)
      rw [h6, List.getElem?_set_ne (by omega), List.getElem?_set_ne (by omega), List.getElem?_set_ne (by omega), List.getElem?_set_ne (by omega), List.getElem?_set_ne (by omega), List.getElem?_set_self (by omega)]
      rfl
    · rw [hj 1 (by omega), List.getElem?_set_ne (by omega), List.getElem?_set_ne (by omega), List.getElem?_set_ne (by omega), List.getElem?_set_ne (by omega), List.getElem?_set_self (by simp; omega)]
      rfl
    · rw [hj 2 (by omega), List.getElem?_set_ne (by omega), List.getElem?_set_ne (by omega), List.getElem?_set_ne (by omega), List.getElem?_set_self (by simp; omega)]
      rfl
    · rw [hj 3 (by omega), List.getElem?_set_ne (by omega), List.getElem?_set_ne (by omega), List.getElem?_set_self (by simp; omega)]
      rfl
    · rw [hj 4 (by omega), List.getElem?_set_ne (by omega), List.getElem?_set_self (by simp; omega)]
      rfl
    · rw [hj 5 (by omega), List.getElem?_set_self (by simp; omega)]
      rfl

set_option maxRecDepth 20000 in
set_option maxHeartbeats 1600000 in
theorem toEntryS_any (a : Option Addr) (n cap : Nat) (es : List EntM) (w : World) (h : RowC w a n 6 (entsC es)) (hn : es.length = n) (hl : n ≤ 1048576) :
    Calls Tryz.prog 100 #[.slice a n cap] w fun e w' =>
      e = .returned (.slice (some ⟨w.heap.size, 0, none⟩) n n) ∧ w'.ownsRow w.heap.size 101 6 (.slice (some ⟨w.heap.size, 0, none⟩) n n) n (entsC es) ∧ Below w.heap.size w w' := by
  obtain ⟨i0, hi, hz0, hz1, hz2⟩ := info_parts Tryz.infoEnt
  have HR : Hid (RowC w a n 6 (entsC es)) := h
  clear h
  go_enter Tryz.func100, Tryz.ntmps100
  go_wp2_with (at_make; refine wpList_make_full _ rfl _ _ 32 rfl w.heap.size 101 i0 (.agg #[.bool false, .int .i64 0, .int .u64 0, .int .u64 0, .bool false, .int .u64 0]) 6 Tryz.underlying32 hi hz0 hz1 _ _ _ _ n rfl rfl rfl rfl ?b2 ?b3 (Nat.le_refl _) ?_)
  case b2 => rw [hz2]; omega
  case b3 => unfold maxLen; omega
  intro w0 hown0 hgrow0
  have hn0 : Below w.heap.size w w0 := (Below.refl _ _).grown hgrow0 (Nat.le_refl _) (fun k h => by cases h)
  have HO0 : Hid _ := hown0
  clear hown0 hgrow0
  go_wp2_with fail
  go_loopw [4] (fun i wr => ∃ (k : Nat) (ys : List Value), k ≤ n ∧ i = .int .i64 k ∧ (∀ t, t < k * 6 → ys[t]? = (entsC es)[t]?) ∧ wr.ownsRow w.heap.size 101 6 (.slice (some ⟨w.heap.size, 0, none⟩) n n) n ys ∧ Below w.heap.size w wr) (fun i _ => n - (intOf i).toNat)
  case atStart => exact ⟨0, _, Nat.zero_le _, rfl, fun t ht => absurd ht (by omega), HO0.out, hn0⟩
  case round =>
    obtain ⟨k, ys, hk, rfl, hyz, hO, hb⟩ := hrel
    have HO : Hid (wr.ownsRow w.heap.size 101 6 (.slice (some ⟨w.heap.size, 0, none⟩) n n) n ys) := hO
    have HZ : Hid (∀ t, t < k * 6 → ys[t]? = (entsC es)[t]?) := hyz
    have hyl : ys.length = n * 6 := hO.1
    clear hO hyz
    by_cases hlt : k < n
    · obtain ⟨x, hx⟩ : ∃ x, es[k]? = some x := ⟨_, List.getElem?_eq_getElem (by omega)⟩
      obtain ⟨b, off, rfl, hbb⟩ : ∃ b off, a = some ⟨b, off, none⟩ ∧ b < w.heap.size := by
        rcases HR.out.2 with h | ⟨b, off, h, h2, _⟩
        · omega
        · exact ⟨b, off, h, h2⟩
      have CE : ∀ j u, j < 6 → (entC x)[j]? = some u → wr.cell? ⟨b, off + (k * 6 + j), none⟩ = some u := fun j u hj hu =>
        Below.cell2 hb (row_cell HR.out hn k x hx j u hj hu) hbb
      obtain ⟨vv, lv, tg, asd, gl, pt⟩ := x
      have g0 : wr.cell? ⟨b, off + k * 6, none⟩ = some (.bool vv) := CE 0 _ (by omega) rfl
      have g1 : wr.cell? ⟨b, off + k * 6 + 1, none⟩ = some (.int .i64 lv) := CE 1 _ (by omega) rfl
      have g2 : wr.cell? ⟨b, off + k * 6 + 2, none⟩ = some (.int .u64 tg) := CE 2 _ (by omega) rfl
      have g3 : wr.cell? ⟨b, off + k * 6 + 3, none⟩ = some (.int .u64 asd) := CE 3 _ (by omega) rfl
      have g4 : wr.cell? ⟨b, off + k * 6 + 4, none⟩ = some (.bool gl) := CE 4 _ (by omega) rfl
      have g5 : wr.cell? ⟨b, off + k * 6 + 5, none⟩ = some (.int .u64 pt) := CE 5 _ (by omega) rfl
      have HX : Hid (es[k]? = some ⟨vv, lv, tg, asd, gl, pt⟩) := hx
      clear CE hx
      go_wp2_with fail
      refine (toEntry_any vv lv tg asd gl pt wr).mono ?_
      rintro e v2 ⟨rfl, n2⟩
      have O2 : Hid (v2.ownsRow w.heap.size 101 6 (.slice (some ⟨w.heap.size, 0, none⟩) n n) n ys) := own_below HO.out n2
      have A2 := Below.step hb n2 (Nat.le_refl _)
      clear g0 g1 g2 g3 g4 g5 HO hb n2
      have y0 := own_cell O2.out (k * 6) _ (List.getElem?_eq_getElem (by omega))
      have y1 := own_cell O2.out (k * 6 + 1) _ (List.getElem?_eq_getElem (by omega))
      have y2 := own_cell O2.out (k * 6 + 2) _ (List.getElem?_eq_getElem (by omega))
      have y3 := own_cell O2.out (k * 6 + 3) _ (List.getElem?_eq_getElem (by omega))
      have y4 := own_cell O2.out (k * 6 + 4) _ (List.getElem?_eq_getElem (by omega))
      have y5 := own_cell O2.out (k * 6 + 5) _ (List.getElem?_eq_getElem (by omega))
      generalize ys[k * 6]'_ = z0 at y0
      generalize ys[k * 6 + 1]'_ = z1 at y1
      generalize ys[k * 6 + 2]'_ = z2 at y2
      generalize ys[k * 6 + 3]'_ = z3 at y3
      generalize ys[k * 6 + 4]'_ = z4 at y4
      generalize ys[k * 6 + 5]'_ = z5 at y5
      have r0 := own_free O2.out (k * 6)
      have r1 := own_free O2.out (k * 6 + 1)
      have r2 := own_free O2.out (k * 6 + 2)
      have r3 := own_free O2.out (k * 6 + 3)
      have r4 := own_free O2.out (k * 6 + 4)
      have r5 := own_free O2.out (k * 6 + 5)
      go_wp2_with fail
      go_roundw
      case rel =>
        refine ⟨k + 1, _, by omega, by go_num, to_step es ys k n _ HX.out hyl hlt hn HZ.out, own_store (own_store (own_store (own_store (own_store (own_store O2.out _ _) _ _) _ _) _ _) _ _) _ _, A2.grown (gb_set (gb_set (gb_set (gb_set (gb_set (gb_set (gb_refl v2 (some w.heap.size)) _ _) _ _) _ _) _ _) _ _) _ _) A2.size (fun q hq => by cases hq; omega)⟩
      case measure => simp [intOf]; omega
    · have hyy : ys = entsC es := by
        apply List.ext_getElem?
        intro t
        by_cases ht : t < n * 6
        · exact HZ.out t (by omega)
        · rw [List.getElem?_eq_none (by omega), List.getElem?_eq_none (by rw [entsC_len]; omega)]
      rw [hyy] at HO
      clear HZ hyl hyy
      go_wp2_with fail
      go_ret
      exact ⟨rfl, HO.out, hb⟩

set_option maxRecDepth 20000 in
set_option maxHeartbeats 800000 in
theorem toTlb_any (sets ways : Int) (a : Option Addr) (n cap : Nat) (es : List EntM) (w : World) (h : RowC w a n 6 (entsC es)) (hn : es.length = n) (hl : n ≤ 1048576) :
    Calls Tryz.prog 53 #[.agg #[.int .i64 sets, .int .i64 ways, .slice a n cap]] w fun e w' => (∃ x, e = .returned x ∧ TlbOwn w.heap.size w' x ⟨sets, ways, es⟩) ∧ Below w.heap.size w w' := by
  have n1 := (((Below.refl w.heap.size w).alloc (Nat.le_refl _) (Obj.cells #[.int .i64 sets, .int .i64 ways, .slice a n cap] 28)).alloc (by simp) (Obj.cells #[.int .i64 0, .int .i64 0, .slice none 0 0] 34)).alloc (by simp; omega) (Obj.cells #[.int .i64 sets, .int .i64 ways, .slice none 0 0] 34)
  have HR : Hid (RowC (((w.alloc (Obj.cells #[.int .i64 sets, .int .i64 ways, .slice a n cap] 28)).alloc (Obj.cells #[.int .i64 0, .int .i64 0, .slice none 0 0] 34)).alloc (Obj.cells #[.int .i64 sets, .int .i64 ways, .slice none 0 0] 34)) a n 6 (entsC es)) := h.keep n1
  have H2 : Hid ((((w.alloc (Obj.cells #[.int .i64 sets, .int .i64 ways, .slice a n cap] 28)).alloc (Obj.cells #[.int .i64 0, .int .i64 0, .slice none 0 0] 34)).alloc (Obj.cells #[.int .i64 sets, .int .i64 ways, .slice none 0 0] 34)).heap[w.heap.size + 1]? = some (.cells #[.int .i64 0, .int .i64 0, .slice none 0 0] 34 (0, 0))) := by
    show _ = _
    rw [heap_alloc_old _ _ (by simp)]
    have := heap_alloc_new (w.alloc (Obj.cells #[.int .i64 sets, .int .i64 ways, .slice a n cap] 28)) (Obj.cells #[.int .i64 0, .int .i64 0, .slice none 0 0] 34)
    simp only [World.size_alloc] at this
    exact this
  have H3 : Hid ((((w.alloc (Obj.cells #[.int .i64 sets, .int .i64 ways, .slice a n cap] 28)).alloc (Obj.cells #[.int .i64 0, .int .i64 0, .slice none 0 0] 34)).alloc (Obj.cells #[.int .i64 sets, .int .i64 ways, .slice none 0 0] 34)).heap[w.heap.size + 1 + 1]? = some (.cells #[.int .i64 sets, .int .i64 ways, .slice none 0 0] 34 (0, 0))) := by
    have := heap_alloc_new ((w.alloc (Obj.cells #[.int .i64 sets, .int .i64 ways, .slice a n cap] 28)).alloc (Obj.cells #[.int .i64 0, .int .i64 0, .slice none 0 0] 34)) (Obj.cells #[.int .i64 sets, .int .i64 ways, .slice none 0 0] 34)
    simp only [World.size_alloc] at this
    exact this
  have l1 : w.heap.size + 1 + 1 < (((w.alloc (Obj.cells #[.int .i64 sets, .int .i64 ways, .slice a n cap] 28)).alloc (Obj.cells #[.int .i64 0, .int .i64 0, .slice none 0 0] 34)).alloc (Obj.cells #[.int .i64 sets, .int .i64 ways, .slice none 0 0] 34)).heap.size := by simp
  clear h
  go_enter Tryz.func53, Tryz.ntmps53
  go_wp2_with fail
  generalize (((w.alloc (Obj.cells #[.int .i64 sets, .int .i64 ways, .slice a n cap] 28)).alloc (Obj.cells #[.int .i64 0, .int .i64 0, .slice none 0 0] 34)).alloc (Obj.cells #[.int .i64 sets, .int .i64 ways, .slice none 0 0] 34)) = v1 at n1 HR H2 H3 l1 ⊢
  refine (toEntryS_any a n cap es v1 HR.out hn hl).mono ?_
  rintro e v2 ⟨rfl, o2, n2⟩
  have O2 : Hid (v2.ownsRow v1.heap.size 101 6 (.slice (some ⟨v1.heap.size, 0, none⟩) n n) n (entsC es)) := o2
  have A2 := Below.step n1 n2 (Nat.le_refl _)
  have K2 := hid_keep H2 n2
  have K3 := hid_keep H3 n2
  obtain ⟨⟨d0, d1, d2⟩, e0, e1, e2⟩ := three_cells K2.out
  obtain ⟨⟨p0, p1, p2⟩, f0, f1, f2⟩ := three_cells K3.out
  clear o2 n1 n2 HR H2 H3
  go_wp2_with fail
  refine bodyPost_ret (v := .agg #[.int .i64 sets, .int .i64 ways, .slice (some ⟨v1.heap.size, 0, none⟩) n n]) (by simp [results, Tryz.results53, go_sem, d0, d1, d2]) rfl ⟨⟨_, rfl, v1.heap.size, n, by simp only; rw [hn], ?_⟩, bel3 (A2.setCell (p := ⟨w.heap.size + 1 + 1, 2, none⟩) (by show w.heap.size ≤ w.heap.size + 1 + 1; omega) _) (by omega) _ _ _⟩
  simp only
  rw [hn]
  exact own_low (own_gb (own_gb O2.out (gb_set (gb_refl v2 (some (w.heap.size + 1 + 1))) 2 _) l1) (gb3 _ (w.heap.size + 1) _ _ _) (by omega)) (by omega)

theorem szTlb_any (sets ways : Int) (a : Option Addr) (n cap : Nat) (left : Int) (w : World) (hn : (n : Int) ≤ 9223372036854775807) (h0 : 0 ≤ left) (h1 : left ≤ 1048576) :
    Calls Tryz.prog 37 #[.agg #[.int .i64 sets, .int .i64 ways, .slice a n cap], .int .i64 left] w fun e w' => e = .returned (.int .i64 (if left < n then -1 else left - n)) ∧ Below w.heap.size w w' := by
  have n1 := (Below.refl w.heap.size w).alloc (Nat.le_refl _) (Obj.cells #[.int .i64 sets, .int .i64 ways, .slice a n cap] 28)
  by_cases h : left < n
  · rw [if_pos h]
    have HS : Hid (∀ w, Calls Tryz.prog 84 #[.slice a n cap, .int .i64 left] w fun e w' => e = .returned (.int .i64 (-1)) ∧ w' = w) := fun w => by
      have := szEntryS_any a n cap left w hn h0 h1
      rw [if_pos h] at this
      exact this
    clear h
    go_enter Tryz.func37, Tryz.ntmps37
    go_wp2_with (go_at_call 84; refine (HS.out _).mono ?_; rintro e w' ⟨rfl, rfl⟩)
    go_ret
    exact ⟨rfl, n1⟩
  · rw [if_neg h]
    have HS : Hid (∀ w, Calls Tryz.prog 84 #[.slice a n cap, .int .i64 left] w fun e w' => e = .returned (.int .i64 (left - n)) ∧ w' = w) := fun w => by
      have := szEntryS_any a n cap left w hn h0 h1
      rw [if_neg h] at this
      exact this
    have h' : decide (left - (n : Int) < 0) = false := by rw [decide_eq_false_iff_not]; omega
    clear h
    go_enter Tryz.func37, Tryz.ntmps37
    go_wp2_with (go_at_call 84; refine (HS.out _).mono ?_; rintro e w' ⟨rfl, rfl⟩)
    go_ret
    exact ⟨rfl, n1⟩

end Go.Proofs.YthekickjjaleaacGreat

/- The laws' equality of entries and caches: eqEntry, eqEntryS, eqTlb, eqHit. -/
namespace Go.Proofs.YthekickjjaleaacGreat
open Go.RowKit
set_option linter.unusedVariables false
attribute [local go_sem ↓] Go.wp_at_zero Go.wp_at_succ

set_option maxHeartbeats 800000 in
theorem eqEntry_same (v : Bool) (l t a : Int) (g : Bool) (p : Int) (w : World) :
    Calls Tryz.prog 164 #[.agg #[.bool v, .int .i64 l, .int .u64 t, .int .u64 a, .bool g, .int .u64 p], .agg #[.bool v, .int .i64 l, .int .u64 t, .int .u64 a, .bool g, .int .u64 p]] w fun e w' => e = .returned (.bool true) ∧ Below w.heap.size w w' := by
  cases v <;> cases g
  all_goals
    go_enter Tryz.func164, Tryz.ntmps164
    go_wp2_with fail
    go_ret
    exact ⟨rfl, ((Below.refl _ _).alloc (Nat.le_refl _) _).alloc (by simp) _⟩


set_option maxRecDepth 20000 in
set_option maxHeartbeats 1600000 in
theorem eqEntryS_same (a b : Option Addr) (n ca cb : Nat) (es : List EntM) (w : World) (h : RowC w a n 6 (entsC es)) (h' : RowC w b n 6 (entsC es)) (hn : es.length = n) (hl : n ≤ 1048576) :
    Calls Tryz.prog 114 #[.slice a n ca, .slice b n cb] w fun e w' => e = .returned (.bool true) ∧ Below w.heap.size w w' := by
  have HR : Hid (RowC w a n 6 (entsC es)) := h
  have HR' : Hid (RowC w b n 6 (entsC es)) := h'
  clear h h'
  go_enter Tryz.func114, Tryz.ntmps114
  go_wp2_with fail
  go_loopw [5] (fun i wr => ∃ (k : Nat), k ≤ n ∧ i = .int .i64 k ∧ Below w.heap.size w wr) (fun i _ => n - (intOf i).toNat)
  case atStart => exact ⟨0, Nat.zero_le _, rfl, Below.refl _ _⟩
  case round =>
    obtain ⟨k, hk, rfl, hb⟩ := hrel
    by_cases hlt : k < n
    · obtain ⟨x, hx⟩ : ∃ x : EntM, es[k]? = some x := ⟨_, List.getElem?_eq_getElem (by omega)⟩
      have R1 := RowC.keep HR.out hb
      have R2 := RowC.keep HR'.out hb
      obtain ⟨b1, o1, rfl, lb1⟩ : ∃ b1 o1, a = some ⟨b1, o1, none⟩ ∧ b1 < wr.heap.size := by
        rcases R1.2 with h | ⟨b1, o1, h, h2, _⟩
        · omega
        · exact ⟨b1, o1, h, h2⟩
      obtain ⟨b2, o2, rfl, lb2⟩ : ∃ b2 o2, b = some ⟨b2, o2, none⟩ ∧ b2 < wr.heap.size := by
        rcases R2.2 with h | ⟨b2, o2, h, h2, _⟩
        · omega
        · exact ⟨b2, o2, h, h2⟩
      obtain ⟨vv, lv, tg, asd, gl, pt⟩ := x
      have C1 := fun j u hj hu => lies_cell (row_cell R1 hn k _ hx j u hj hu) lb1
      have C2 := fun j u hj hu => lies_cell (row_cell R2 hn k _ hx j u hj hu) lb2
      have g0 : ∀ u : Lies wr, u.w.cell? ⟨b1, o1 + k * 6, none⟩ = some (.bool vv) := C1 0 _ (by omega) rfl
      have g1 : ∀ u : Lies wr, u.w.cell? ⟨b1, o1 + k * 6 + 1, none⟩ = some (.int .i64 lv) := C1 1 _ (by omega) rfl
      have g2 : ∀ u : Lies wr, u.w.cell? ⟨b1, o1 + k * 6 + 2, none⟩ = some (.int .u64 tg) := C1 2 _ (by omega) rfl
      have g3 : ∀ u : Lies wr, u.w.cell? ⟨b1, o1 + k * 6 + 3, none⟩ = some (.int .u64 asd) := C1 3 _ (by omega) rfl
      have g4 : ∀ u : Lies wr, u.w.cell? ⟨b1, o1 + k * 6 + 4, none⟩ = some (.bool gl) := C1 4 _ (by omega) rfl
      have g5 : ∀ u : Lies wr, u.w.cell? ⟨b1, o1 + k * 6 + 5, none⟩ = some (.int .u64 pt) := C1 5 _ (by omega) rfl
      have f0 : ∀ u : Lies wr, u.w.cell? ⟨b2, o2 + k * 6, none⟩ = some (.bool vv) := C2 0 _ (by omega) rfl
      have f1 : ∀ u : Lies wr, u.w.cell? ⟨b2, o2 + k * 6 + 1, none⟩ = some (.int .i64 lv) := C2 1 _ (by omega) rfl
      have f2 : ∀ u : Lies wr, u.w.cell? ⟨b2, o2 + k * 6 + 2, none⟩ = some (.int .u64 tg) := C2 2 _ (by omega) rfl
      have f3 : ∀ u : Lies wr, u.w.cell? ⟨b2, o2 + k * 6 + 3, none⟩ = some (.int .u64 asd) := C2 3 _ (by omega) rfl
      have f4 : ∀ u : Lies wr, u.w.cell? ⟨b2, o2 + k * 6 + 4, none⟩ = some (.bool gl) := C2 4 _ (by omega) rfl
      have f5 : ∀ u : Lies wr, u.w.cell? ⟨b2, o2 + k * 6 + 5, none⟩ = some (.int .u64 pt) := C2 5 _ (by omega) rfl
      have ne := lies_some wr
      clear C1 C2 R1 R2 hx
      go_wp2_with fail
      refine wp_region_lies (by kernel_rfl) (by kernel_rfl) ?_
      repeat (go_big_quiet_step ((go_at_call 164; exact lies_quiet _ (eqEntry_same _ _ _ _ _ _ _))))
      refine wpQuiet_nil ?_
      rintro _ ⟨u, rfl⟩
      have hb2 := Below.step hb u.h (Nat.le_refl _)
      generalize u.w = v2 at hb2 ⊢
      clear g0 g1 g2 g3 g4 g5 f0 f1 f2 f3 f4 f5 hb
      go_wp2_with fail
      go_roundw
      case rel => exact ⟨k + 1, by omega, by go_num, hb2⟩
      case measure => simp [intOf]; omega
    · clear HR HR'
      go_wp2_with fail
      go_ret
      exact ⟨rfl, hb⟩

set_option maxHeartbeats 800000 in
theorem eqTlb_same (sets ways : Int) (a b : Option Addr) (n ca cb : Nat) (es : List EntM) (w : World) (h : RowC w a n 6 (entsC es)) (h' : RowC w b n 6 (entsC es)) (hn : es.length = n) (hl : n ≤ 1048576) :
    Calls Tryz.prog 60 #[.agg #[.int .i64 sets, .int .i64 ways, .slice a n ca], .agg #[.int .i64 sets, .int .i64 ways, .slice b n cb]] w fun e w' => e = .returned (.bool true) ∧ Below w.heap.size w w' := by
  have n1 := ((Below.refl w.heap.size w).alloc (Nat.le_refl _) (Obj.cells #[.int .i64 sets, .int .i64 ways, .slice a n ca] 34)).alloc (by simp) (Obj.cells #[.int .i64 sets, .int .i64 ways, .slice b n cb] 34)
  have HR : Hid (RowC _ a n 6 (entsC es)) := RowC.keep h n1
  have HR' : Hid (RowC _ b n 6 (entsC es)) := RowC.keep h' n1
  clear h h'
  go_enter Tryz.func60, Tryz.ntmps60
  go_wp2_with fail
  refine (eqEntryS_same a b n ca cb es _ HR.out HR'.out hn hl).mono ?_
  rintro e v2 ⟨rfl, n2⟩
  have n12 := Below.step n1 n2 (Nat.le_refl _)
  clear n1 n2 HR HR'
  go_wp2_with fail
  go_ret
  exact ⟨rfl, n12⟩

end Go.Proofs.YthekickjjaleaacGreat

/- The laws' marks over entries and caches: markEntryS, heldEntryS, markTlb, heldTlb. -/
namespace Go.Proofs.YthekickjjaleaacGreat
open Go.RowKit
set_option linter.unusedVariables false
attribute [local go_sem ↓] Go.wp_at_zero Go.wp_at_succ

/-- The value of cell t of entries that were marked from k0 on. -/
def mkE (k0 : Int) (t : Nat) : Value := match t % 6 with
  | 0 => .bool ((k0 + t) % 3 == 0)
  | 1 => .int .i64 (k0 + t)
  | 4 => .bool ((k0 + t) % 3 == 0)
  | _ => .int .u64 (k0 + t)
def mkEs (k0 : Int) (m : Nat) : List Value := (List.range m).map (mkE k0)

theorem mkE_at (k0 : Int) (m t : Nat) (h : t < m) : (mkEs k0 m)[t]? = some (mkE k0 t) := by
  simp [mkEs, h]

theorem mkE0 (k0 : Int) (j : Nat) : mkE k0 (j * 6) = (.bool ((k0 + j * 6) % 3 == 0)) := by
  unfold mkE
  rw [show (j * 6) % 6 = 0 by omega]
  simp only
  push_cast
  congr 1 <;> (first | (congr 2; omega) | omega)
theorem mkE1 (k0 : Int) (j : Nat) : mkE k0 (j * 6 + 1) = (.int .i64 (k0 + j * 6 + 1)) := by
  unfold mkE
  rw [show (j * 6 + 1) % 6 = 1 by omega]
  simp only
  push_cast
  congr 1 <;> (first | (congr 2; omega) | omega)
theorem mkE2 (k0 : Int) (j : Nat) : mkE k0 (j * 6 + 2) = (.int .u64 (k0 + j * 6 + 1 + 1)) := by
  unfold mkE
  rw [show (j * 6 + 2) % 6 = 2 by omega]
  simp only
  push_cast
  congr 1 <;> (first | (congr 2; omega) | omega)
theorem mkE3 (k0 : Int) (j : Nat) : mkE k0 (j * 6 + 3) = (.int .u64 (k0 + j * 6 + 1 + 1 + 1)) := by
  unfold mkE
  rw [show (j * 6 + 3) % 6 = 3 by omega]
  simp only
  push_cast
  congr 1 <;> (first | (congr 2; omega) | omega)
theorem mkE4 (k0 : Int) (j : Nat) : mkE k0 (j * 6 + 4) = (.bool ((k0 + j * 6 + 1 + 1 + 1 + 1) % 3 == 0)) := by
  unfold mkE
  rw [show (j * 6 + 4) % 6 = 4 by omega]
  simp only
  push_cast
  congr 1 <;> (first | (congr 2; omega) | omega)
theorem mkE5 (k0 : Int) (j : Nat) : mkE k0 (j * 6 + 5) = (.int .u64 (k0 + j * 6 + 1 + 1 + 1 + 1 + 1)) := by
  unfold mkE
  rw [show (j * 6 + 5) % 6 = 5 by omega]
  simp only
  push_cast
  congr 1 <;> (first | (congr 2; omega) | omega)

theorem mkE_step (k0 : Int) (j m : Nat) (ys : List Value) (hy : ys.length = m) (hi : j * 6 + 5 < m) (h : ∀ t, t < j * 6 → ys[t]? = some (mkE k0 t)) :
    ∀ t, t < (j + 1) * 6 → ((((((ys.set (j * 6) (.bool ((k0 + j * 6) % 3 == 0))).set (j * 6 + 1) (.int .i64 (k0 + j * 6 + 1))).set (j * 6 + 2) (.int .u64 (k0 + j * 6 + 1 + 1))).set (j * 6 + 3) (.int .u64 (k0 + j * 6 + 1 + 1 + 1))).set (j * 6 + 4) (.bool ((k0 + j * 6 + 1 + 1 + 1 + 1) % 3 == 0))).set (j * 6 + 5) (.int .u64 (k0 + j * 6 + 1 + 1 + 1 + 1 + 1)))[t]? = some (mkE k0 t) := by
  intro t ht
  by_cases h0 : t < j * 6
  · rw [List.getElem?_set_ne (by omega), List.getElem?_set_ne (by omega), List.getElem?_set_ne (by omega), List.getElem?_set_ne (by omega), List.getElem?_set_ne (by omega), List.getElem?_set_ne (by omega)]
    exact h t h0
  · rcases (show t = j * 6 ∨ t = j * 6 + 1 ∨ t = j * 6 + 2 ∨ t = j * 6 + 3 ∨ t = j * 6 + 4 ∨ t = j * 6 + 5 by omega) with rfl | rfl | rfl | rfl | rfl | rfl
    · rw [List.getElem?_set_ne (by omega), List.getElem?_set_ne (by omega), List.getElem?_set_ne (by omega), List.getElem?_set_ne (by omega), List.getElem?_set_ne (by omega), List.getElem?_set_self (by omega), mkE0]
    · rw [List.getElem?_set_ne (by omega), List.getElem?_set_ne (by omega), List.getElem?_set_ne (by omega), List.getElem?_set_ne (by omega), List.getElem?_set_self (by simp; omega), mkE1]
    · rw [List.getElem?_set_ne (by omega), List.getElem?_set_ne (by omega), List.getElem?_set_ne (by omega), List.getElem?_set_self (by simp; omega), mkE2]
    · rw [List.getElem?_set_ne (by omega), List.getElem?_set_ne (by omega), List.getElem?_set_self (by simp; omega), mkE3]
    · rw [List.getElem?_set_ne (by omega), List.getElem?_set_self (by simp; omega), mkE4]
    · rw [List.getElem?_set_self (by simp; omega), mkE5]

set_option maxRecDepth 20000 in
set_option maxHeartbeats 1600000 in
theorem markEntryS_any (base g n cap : Nat) (cs : List Value) (k0 : Int) (w : World) (h : w.ownsRow base 101 6 (.slice (some ⟨g, 0, none⟩) n cap) n cs) (hl : n ≤ 1048576) (hk0 : 0 ≤ k0) (hk1 : k0 ≤ 1073741824) :
    Calls Tryz.prog 115 #[.slice (some ⟨g, 0, none⟩) n cap, .int .i64 k0] w fun e w' =>
      e = .returned (.int .i64 (k0 + n * 6)) ∧ w'.ownsRow base 101 6 (.slice (some ⟨g, 0, none⟩) n cap) n (mkEs k0 (n * 6)) ∧ w.grownBy w' (some g) := by
  have HI : Hid _ := h
  clear h
  go_enter Tryz.func115, Tryz.ntmps115
  go_wp2_with fail
  go_loopw [1, 5] (fun kk i wr => ∃ (j : Nat) (ys : List Value), j ≤ n ∧ kk = .int .i64 (k0 + j * 6) ∧ i = .int .i64 j ∧ (∀ t, t < j * 6 → ys[t]? = some (mkE k0 t)) ∧ wr.ownsRow base 101 6 (.slice (some ⟨g, 0, none⟩) n cap) n ys ∧ w.grownBy wr (some g)) (fun _ i _ => n - (intOf i).toNat)
  case atStart => exact ⟨0, cs, Nat.zero_le _, by simp, rfl, fun t ht => absurd ht (by omega), HI.out, gb_refl _ _⟩
  case round =>
    clear HI
    obtain ⟨j, ys, hj, rfl, rfl, hyz, hb, hn⟩ := hrel
    have hy := hb.1
    by_cases hlt : j < n
    · have y0 := own_cell hb (j * 6) _ (List.getElem?_eq_getElem (by omega))
      have y1 := own_cell hb (j * 6 + 1) _ (List.getElem?_eq_getElem (by omega))
      have y2 := own_cell hb (j * 6 + 2) _ (List.getElem?_eq_getElem (by omega))
      have y3 := own_cell hb (j * 6 + 3) _ (List.getElem?_eq_getElem (by omega))
      have y4 := own_cell hb (j * 6 + 4) _ (List.getElem?_eq_getElem (by omega))
      have y5 := own_cell hb (j * 6 + 5) _ (List.getElem?_eq_getElem (by omega))
      generalize ys[j * 6]'_ = z0 at y0
      generalize ys[j * 6 + 1]'_ = z1 at y1
      generalize ys[j * 6 + 2]'_ = z2 at y2
      generalize ys[j * 6 + 3]'_ = z3 at y3
      generalize ys[j * 6 + 4]'_ = z4 at y4
      generalize ys[j * 6 + 5]'_ = z5 at y5
      have r0 := own_free hb (j * 6)
      have r1 := own_free hb (j * 6 + 1)
      have r2 := own_free hb (j * 6 + 2)
      have r3 := own_free hb (j * 6 + 3)
      have r4 := own_free hb (j * 6 + 4)
      have r5 := own_free hb (j * 6 + 5)
      have HZ : Hid (∀ t, t < j * 6 → ys[t]? = some (mkE k0 t)) := hyz
      have HB : Hid (wr.ownsRow base 101 6 (.slice (some ⟨g, 0, none⟩) n cap) n ys) := hb
      clear hyz hb
      go_wp2_with fail
      go_roundw
      case rel => exact ⟨j + 1, _, by omega, by go_num, by go_num, mkE_step k0 j (n * 6) ys hy (by omega) HZ.out, (own_store (own_store (own_store (own_store (own_store (own_store HB.out _ _) _ _) _ _) _ _) _ _) _ _), (gb_set (gb_set (gb_set (gb_set (gb_set (gb_set hn _ _) _ _) _ _) _ _) _ _) _ _)⟩
      case measure => simp [intOf]; omega
    · have hyy : ys = mkEs k0 (n * 6) := by
        apply List.ext_getElem?
        intro t
        by_cases ht : t < n * 6
        · rw [mkE_at k0 _ t ht]; exact hyz t (by omega)
        · rw [List.getElem?_eq_none (by omega), List.getElem?_eq_none (by simp [mkEs]; omega)]
      subst hyy
      have hjl : j = n := by omega
      subst hjl
      have HB : Hid _ := hb
      clear hyz hb hy
      go_wp2_with fail
      go_ret
      exact ⟨rfl, HB.out, hn⟩

set_option maxRecDepth 20000 in
set_option maxHeartbeats 1600000 in
theorem heldEntryS_any (base g n cap : Nat) (k0 : Int) (w : World) (h : w.ownsRow base 101 6 (.slice (some ⟨g, 0, none⟩) n cap) n (mkEs k0 (n * 6))) (hl : n ≤ 1048576) (hk0 : 0 ≤ k0) (hk1 : k0 ≤ 1073741824) :
    Calls Tryz.prog 165 #[.slice (some ⟨g, 0, none⟩) n cap, .int .i64 k0] w fun e w' =>
      e = .returned (.int .i64 (k0 + n * 6)) ∧ Below w.heap.size w w' := by
  have hg := (own_at h).2.2
  simp only at hg
  go_enter Tryz.func165, Tryz.ntmps165
  go_wp2_with fail
  go_loopw [1, 5] (fun kk i wr => ∃ (j : Nat), j ≤ n ∧ kk = .int .i64 (k0 + j * 6) ∧ i = .int .i64 j ∧ Below w.heap.size w wr) (fun _ i _ => n - (intOf i).toNat)
  case atStart => exact ⟨0, Nat.zero_le _, by simp, rfl, Below.refl _ _⟩
  case round =>
    obtain ⟨j, hj, rfl, rfl, hn⟩ := hrel
    by_cases hlt : j < n
    · have g0 := Below.cell2 hn (own_cell h (j * 6) _ (mkE_at k0 _ (j * 6) (by omega))) hg
      rw [mkE0] at g0
      have g1 := Below.cell2 hn (own_cell h (j * 6 + 1) _ (mkE_at k0 _ (j * 6 + 1) (by omega))) hg
      rw [mkE1] at g1
      have g2 := Below.cell2 hn (own_cell h (j * 6 + 2) _ (mkE_at k0 _ (j * 6 + 2) (by omega))) hg
      rw [mkE2] at g2
      have g3 := Below.cell2 hn (own_cell h (j * 6 + 3) _ (mkE_at k0 _ (j * 6 + 3) (by omega))) hg
      rw [mkE3] at g3
      have g4 := Below.cell2 hn (own_cell h (j * 6 + 4) _ (mkE_at k0 _ (j * 6 + 4) (by omega))) hg
      rw [mkE4] at g4
      have g5 := Below.cell2 hn (own_cell h (j * 6 + 5) _ (mkE_at k0 _ (j * 6 + 5) (by omega))) hg
      rw [mkE5] at g5
      clear h
      go_wp2_with fail
      go_roundw
      case rel => exact ⟨j + 1, by omega, by go_num, by go_num, hn⟩
      case measure => simp [intOf]; omega
    · have hjl : j = n := by omega
      subst hjl
      clear h
      go_wp2_with fail
      go_ret
      exact ⟨rfl, hn⟩

theorem markEntryS_nil (a : Option Addr) (cap : Nat) (k0 : Int) (w : World) :
    Calls Tryz.prog 115 #[.slice a 0 cap, .int .i64 k0] w fun e w' => e = .returned (.int .i64 k0) ∧ w' = w := by
  go_enter Tryz.func115, Tryz.ntmps115
  go_wp2_with fail
  go_loop [1, 5] (fun kk i => kk = .int .i64 k0 ∧ i = .int .i64 0) (fun _ i => 0)
  case atStart => exact ⟨rfl, rfl⟩
  case round =>
    obtain ⟨rfl, rfl⟩ := hrel
    go_wp2_with fail
    go_ret
    exact ⟨rfl, rfl⟩

theorem heldEntryS_nil (a : Option Addr) (cap : Nat) (k0 : Int) (w : World) :
    Calls Tryz.prog 165 #[.slice a 0 cap, .int .i64 k0] w fun e w' => e = .returned (.int .i64 k0) ∧ w' = w := by
  go_enter Tryz.func165, Tryz.ntmps165
  go_wp2_with fail
  go_loop [1, 5] (fun kk i => kk = .int .i64 k0 ∧ i = .int .i64 0) (fun _ i => 0)
  case atStart => exact ⟨rfl, rfl⟩
  case round =>
    obtain ⟨rfl, rfl⟩ := hrel
    go_wp2_with fail
    go_ret
    exact ⟨rfl, rfl⟩

theorem markTlb_nil (sets ways : Int) (a : Option Addr) (cap : Nat) (k0 : Int) (w : World) :
    Calls Tryz.prog 61 #[.agg #[.int .i64 sets, .int .i64 ways, .slice a 0 cap], .int .i64 k0] w fun e w' => e = .returned (.int .i64 k0) ∧ Below w.heap.size w w' := by
  have b1 := (Below.refl w.heap.size w).alloc (Nat.le_refl _) (Obj.cells #[.int .i64 sets, .int .i64 ways, .slice a 0 cap] 34)
  go_enter Tryz.func61, Tryz.ntmps61
  go_wp2_with (go_at_call 115; refine (markEntryS_nil a cap k0 _).mono ?_; rintro e w' ⟨rfl, rfl⟩)
  go_ret
  exact ⟨rfl, b1⟩

theorem markTlb_any (sets ways : Int) (base g n cap : Nat) (cs : List Value) (k0 : Int) (w : World) (h : w.ownsRow base 101 6 (.slice (some ⟨g, 0, none⟩) n cap) n cs) (hl : n ≤ 1048576) (hk0 : 0 ≤ k0) (hk1 : k0 ≤ 1073741824) :
    Calls Tryz.prog 61 #[.agg #[.int .i64 sets, .int .i64 ways, .slice (some ⟨g, 0, none⟩) n cap], .int .i64 k0] w fun e w' =>
      e = .returned (.int .i64 (k0 + n * 6)) ∧ w'.ownsRow base 101 6 (.slice (some ⟨g, 0, none⟩) n cap) n (mkEs k0 (n * 6)) ∧ w.grownBy w' (some g) := by
  have m1 := World.grownBy_alloc w (Obj.cells #[.int .i64 sets, .int .i64 ways, .slice (some ⟨g, 0, none⟩) n cap] 34) (some g)
  have h1 : Hid ((w.alloc (Obj.cells #[.int .i64 sets, .int .i64 ways, .slice (some ⟨g, 0, none⟩) n cap] 34)).ownsRow base 101 6 (.slice (some ⟨g, 0, none⟩) n cap) n cs) := own_below h ((Below.refl w.heap.size w).alloc (Nat.le_refl _) _)
  clear h
  go_enter Tryz.func61, Tryz.ntmps61
  go_wp2_with fail
  refine (markEntryS_any base g n cap cs k0 _ h1.out hl hk0 hk1).mono ?_
  rintro e v2 ⟨rfl, c2, m2⟩
  have C2 : Hid _ := c2
  have m12 := gb_trans m1 m2
  clear m1 m2 h1 c2
  go_wp2_with fail
  go_ret
  exact ⟨rfl, C2.out, m12⟩

theorem heldTlb_nil (sets ways : Int) (a : Option Addr) (cap : Nat) (k0 : Int) (w : World) (hk0 : 0 ≤ k0) :
    Calls Tryz.prog 116 #[.agg #[.int .i64 sets, .int .i64 ways, .slice a 0 cap], .int .i64 k0] w fun e w' => e = .returned (.int .i64 k0) ∧ Below w.heap.size w w' := by
  have b1 := (Below.refl w.heap.size w).alloc (Nat.le_refl _) (Obj.cells #[.int .i64 sets, .int .i64 ways, .slice a 0 cap] 34)
  have hk : decide (k0 < 0) = false := by simp; omega
  go_enter Tryz.func116, Tryz.ntmps116
  go_wp2_with (go_at_call 165; refine (heldEntryS_nil a cap k0 _).mono ?_; rintro e w' ⟨rfl, rfl⟩)
  go_ret
  exact ⟨rfl, b1⟩

theorem heldTlb_any (sets ways : Int) (base g n cap : Nat) (k0 : Int) (w : World) (h : w.ownsRow base 101 6 (.slice (some ⟨g, 0, none⟩) n cap) n (mkEs k0 (n * 6))) (hl : n ≤ 1048576) (hk0 : 0 ≤ k0) (hk1 : k0 ≤ 1073741824) :
    Calls Tryz.prog 116 #[.agg #[.int .i64 sets, .int .i64 ways, .slice (some ⟨g, 0, none⟩) n cap], .int .i64 k0] w fun e w' => e = .returned (.int .i64 (k0 + n * 6)) ∧ Below w.heap.size w w' := by
  have b1 := (Below.refl w.heap.size w).alloc (Nat.le_refl _) (Obj.cells #[.int .i64 sets, .int .i64 ways, .slice (some ⟨g, 0, none⟩) n cap] 34)
  have h1 : Hid ((w.alloc (Obj.cells #[.int .i64 sets, .int .i64 ways, .slice (some ⟨g, 0, none⟩) n cap] 34)).ownsRow base 101 6 (.slice (some ⟨g, 0, none⟩) n cap) n (mkEs k0 (n * 6))) := own_below h b1
  have hk : decide (k0 + n * 6 < 0) = false := by simp; omega
  clear h
  go_enter Tryz.func116, Tryz.ntmps116
  go_wp2_with fail
  refine (heldEntryS_any base g n cap k0 _ h1.out hl hk0 hk1).mono ?_
  rintro e v2 ⟨rfl, n2⟩
  have b2 := Below.step b1 n2 (Nat.le_refl _)
  clear b1 n2 h1
  go_wp2_with fail
  go_ret
  exact ⟨rfl, b2⟩

end Go.Proofs.YthekickjjaleaacGreat
