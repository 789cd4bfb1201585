/- The laws' copies of entries and caches: toEntry, toEntryS, toTlb, and their sizes. -/
import Derived.Test.YthekickjjaleaabSpec4x
import Derived.Test.YthekickjjaleaabMem
namespace Go.Proofs.Ythekickjjaleaab
open Go.RowKit
set_option linter.unusedVariables false
attribute [local go_sem ↓] Go.wp_at_zero Go.wp_at_succ

theorem szEntryS_any (a : Option Addr) (n cap : Nat) (left : Int) (w : World) (hn : (n : Int) ≤ 9223372036854775807) (h0 : 0 ≤ left) (h1 : left ≤ 1048576) :
    Calls Try.prog 93 #[.slice a n cap, .int .i64 left] w fun e w' => e = .returned (.int .i64 (if left < n then -1 else left - n)) ∧ w' = w := by
  by_cases h : left < n
  · rw [if_pos h]
    go_enter Try.func93, Try.ntmps93
    go_wp2_with fail
    go_ret
    exact ⟨rfl, rfl⟩
  · rw [if_neg h]
    go_enter Try.func93, Try.ntmps93
    go_wp2_with fail
    go_ret
    exact ⟨rfl, rfl⟩

set_option maxHeartbeats 400000 in
theorem toEntry_any (v : Bool) (l t a : Int) (g : Bool) (p : Int) (w : World) :
    Calls Try.prog 50 #[.agg #[.bool v, .int .i64 l, .int .u64 t, .int .u64 a, .bool g, .int .u64 p]] w fun e w' => e = .returned (.agg #[.bool v, .int .i64 l, .int .u64 t, .int .u64 a, .bool g, .int .u64 p]) ∧ Below w.heap.size w w' := by
  go_enter Try.func50, Try.ntmps50
  go_wp2_with fail
  exact bodyPost_ret (v := .agg #[.bool v, .int .i64 l, .int .u64 t, .int .u64 a, .bool g, .int .u64 p]) (by simp [results, Try.results50, go_sem]) rfl ⟨rfl, (((Below.refl _ _).alloc (Nat.le_refl _) _).alloc (by simp) _).alloc (by simp; omega) _⟩

theorem to_step (es : List EntM) (ys : List Value) (k n : Nat) (x : EntM) (hx : es[k]? = some x) (hy : ys.length = n * 6) (hk : k < n) (hn : es.length = n) (h : ∀ t, t < k * 6 → ys[t]? = (entsC es)[t]?) :
    ∀ t, t < (k + 1) * 6 → ((((((ys.set (k * 6) (.bool x.valid)).set (k * 6 + 1) (.int .i64 x.level)).set (k * 6 + 2) (.int .u64 x.tag)).set (k * 6 + 3) (.int .u64 x.asid)).set (k * 6 + 4) (.bool x.glob)).set (k * 6 + 5) (.int .u64 x.pte))[t]? = (entsC es)[t]? := by
  intro t ht
  obtain ⟨hk', rfl⟩ := List.getElem?_eq_some_iff.1 hx
  have hj := fun j hj => entsC_at es k j hk' hj
  by_cases h0 : t < k * 6
  · simp only [List.getElem?_set]
    rw [if_neg (by omega), if_neg (by omega), if_neg (by omega), if_neg (by omega), if_neg (by omega), if_neg (by omega)]
    exact h t h0
  · rcases (show t = k * 6 ∨ t = k * 6 + 1 ∨ t = k * 6 + 2 ∨ t = k * 6 + 3 ∨ t = k * 6 + 4 ∨ t = k * 6 + 5 by omega) with rfl | rfl | rfl | rfl | rfl | rfl
    · have h6 : (entsC es)[k * 6]? = (entC es[k])[0]? := hj 0 (by omega)
      rw [h6, List.getElem?_set_ne (by omega), List.getElem?_set_ne (by omega), List.getElem?_set_ne (by omega), List.getElem?_set_ne (by omega), List.getElem?_set_ne (by omega), List.getElem?_set_self (by omega)]
      rfl
    · rw [hj 1 (by omega), List.getElem?_set_ne (by omega), List.getElem?_set_ne (by omega), List.getElem?_set_ne (by omega), List.getElem?_set_ne (by omega), List.getElem?_set_self (by simp; omega)]
      rfl
    · rw [hj 2 (by omega), List.getElem?_set_ne (by omega), List.getElem?_set_ne (by omega), List.getElem?_set_ne (by omega), List.getElem?_set_self (by simp; omega)]
      rfl
    · rw [hj 3 (by omega), List.getElem?_set_ne (by omega), List.getElem?_set_ne (by omega), List.getElem?_set_self (by simp; omega)]
      rfl
    · rw [hj 4 (by omega), List.getElem?_set_ne (by omega), List.getElem?_set_self (by simp; omega)]
      rfl
    · rw [hj 5 (by omega), List.getElem?_set_self (by simp; omega)]
      rfl

set_option maxRecDepth 20000 in
set_option maxHeartbeats 1600000 in
theorem toEntryS_any (a : Option Addr) (n cap : Nat) (es : List EntM) (w : World) (h : RowC w a n 6 (entsC es)) (hn : es.length = n) (hl : n ≤ 1048576) :
    Calls Try.prog 95 #[.slice a n cap] w fun e w' =>
      e = .returned (.slice (some ⟨w.heap.size, 0, none⟩) n n) ∧ w'.ownsRow w.heap.size 75 6 (.slice (some ⟨w.heap.size, 0, none⟩) n n) n (entsC es) ∧ Below w.heap.size w w' := by
  obtain ⟨i0, hi, hz0, hz1, hz2⟩ := info_parts Try.infoEnt
  have HR : Hid (RowC w a n 6 (entsC es)) := h
  clear h
  go_enter Try.func95, Try.ntmps95
  go_wp2_with (at_make; refine wpList_make_full _ rfl _ _ 61 rfl w.heap.size 75 i0 (.agg #[.bool false, .int .i64 0, .int .u64 0, .int .u64 0, .bool false, .int .u64 0]) 6 Try.underlying61 hi hz0 hz1 _ _ _ _ n rfl rfl rfl rfl ?b2 ?b3 (Nat.le_refl _) ?_)
  case b2 => rw [hz2]; omega
  case b3 => unfold maxLen; omega
  intro w0 hown0 hgrow0
  have hn0 : Below w.heap.size w w0 := (Below.refl _ _).grown hgrow0 (Nat.le_refl _) (fun k h => by cases h)
  have HO0 : Hid _ := hown0
  clear hown0 hgrow0
  go_wp2_with fail
  go_loopw [4] (fun i wr => ∃ (k : Nat) (ys : List Value), k ≤ n ∧ i = .int .i64 k ∧ (∀ t, t < k * 6 → ys[t]? = (entsC es)[t]?) ∧ wr.ownsRow w.heap.size 75 6 (.slice (some ⟨w.heap.size, 0, none⟩) n n) n ys ∧ Below w.heap.size w wr) (fun i _ => n - (intOf i).toNat)
  case atStart => exact ⟨0, _, Nat.zero_le _, rfl, fun t ht => absurd ht (by omega), HO0.out, hn0⟩
  case round =>
    obtain ⟨k, ys, hk, rfl, hyz, hO, hb⟩ := hrel
    have HO : Hid (wr.ownsRow w.heap.size 75 6 (.slice (some ⟨w.heap.size, 0, none⟩) n n) n ys) := hO
    have HZ : Hid (∀ t, t < k * 6 → ys[t]? = (entsC es)[t]?) := hyz
    have hyl : ys.length = n * 6 := hO.1
    clear hO hyz
    by_cases hlt : k < n
    · obtain ⟨x, hx⟩ : ∃ x, es[k]? = some x := ⟨_, List.getElem?_eq_getElem (by omega)⟩
      obtain ⟨b, off, rfl, hbb⟩ : ∃ b off, a = some ⟨b, off, none⟩ ∧ b < w.heap.size := by
        rcases HR.out.2 with h | ⟨b, off, h, h2, _⟩
        · omega
        · exact ⟨b, off, h, h2⟩
      have CE : ∀ j u, j < 6 → (entC x)[j]? = some u → wr.cell? ⟨b, off + (k * 6 + j), none⟩ = some u := fun j u hj hu =>
        Below.cell2 hb (row_cell HR.out hn k x hx j u hj hu) hbb
      obtain ⟨vv, lv, tg, asd, gl, pt⟩ := x
      have g0 : wr.cell? ⟨b, off + k * 6, none⟩ = some (.bool vv) := CE 0 _ (by omega) rfl
      have g1 : wr.cell? ⟨b, off + k * 6 + 1, none⟩ = some (.int .i64 lv) := CE 1 _ (by omega) rfl
      have g2 : wr.cell? ⟨b, off + k * 6 + 2, none⟩ = some (.int .u64 tg) := CE 2 _ (by omega) rfl
      have g3 : wr.cell? ⟨b, off + k * 6 + 3, none⟩ = some (.int .u64 asd) := CE 3 _ (by omega) rfl
      have g4 : wr.cell? ⟨b, off + k * 6 + 4, none⟩ = some (.bool gl) := CE 4 _ (by omega) rfl
      have g5 : wr.cell? ⟨b, off + k * 6 + 5, none⟩ = some (.int .u64 pt) := CE 5 _ (by omega) rfl
      have HX : Hid (es[k]? = some ⟨vv, lv, tg, asd, gl, pt⟩) := hx
      clear CE hx
      go_wp2_with fail
      refine (toEntry_any vv lv tg asd gl pt wr).mono ?_
      rintro e v2 ⟨rfl, n2⟩
      have O2 : Hid (v2.ownsRow w.heap.size 75 6 (.slice (some ⟨w.heap.size, 0, none⟩) n n) n ys) := own_below HO.out n2
      have A2 := Below.step hb n2 (Nat.le_refl _)
      clear g0 g1 g2 g3 g4 g5 HO hb n2
      have y0 := own_cell O2.out (k * 6) _ (List.getElem?_eq_getElem (by omega))
      have y1 := own_cell O2.out (k * 6 + 1) _ (List.getElem?_eq_getElem (by omega))
      have y2 := own_cell O2.out (k * 6 + 2) _ (List.getElem?_eq_getElem (by omega))
      have y3 := own_cell O2.out (k * 6 + 3) _ (List.getElem?_eq_getElem (by omega))
      have y4 := own_cell O2.out (k * 6 + 4) _ (List.getElem?_eq_getElem (by omega))
      have y5 := own_cell O2.out (k * 6 + 5) _ (List.getElem?_eq_getElem (by omega))
      generalize ys[k * 6]'_ = z0 at y0
      generalize ys[k * 6 + 1]'_ = z1 at y1
      generalize ys[k * 6 + 2]'_ = z2 at y2
      generalize ys[k * 6 + 3]'_ = z3 at y3
      generalize ys[k * 6 + 4]'_ = z4 at y4
      generalize ys[k * 6 + 5]'_ = z5 at y5
      have r0 := own_free O2.out (k * 6)
      have r1 := own_free O2.out (k * 6 + 1)
      have r2 := own_free O2.out (k * 6 + 2)
      have r3 := own_free O2.out (k * 6 + 3)
      have r4 := own_free O2.out (k * 6 + 4)
      have r5 := own_free O2.out (k * 6 + 5)
      go_wp2_with fail
      go_roundw
      case rel =>
        refine ⟨k + 1, _, by omega, by go_num, to_step es ys k n _ HX.out hyl hlt hn HZ.out, own_store (own_store (own_store (own_store (own_store (own_store O2.out _ _) _ _) _ _) _ _) _ _) _ _, A2.grown (gb_set (gb_set (gb_set (gb_set (gb_set (gb_set (gb_refl v2 (some w.heap.size)) _ _) _ _) _ _) _ _) _ _) _ _) A2.size (fun q hq => by cases hq; omega)⟩
      case measure => simp [intOf]; omega
    · have hyy : ys = entsC es := by
        apply List.ext_getElem?
        intro t
        by_cases ht : t < n * 6
        · exact HZ.out t (by omega)
        · rw [List.getElem?_eq_none (by omega), List.getElem?_eq_none (by rw [entsC_len]; omega)]
      rw [hyy] at HO
      clear HZ hyl hyy
      go_wp2_with fail
      go_ret
      exact ⟨rfl, HO.out, hb⟩

set_option maxRecDepth 20000 in
set_option maxHeartbeats 800000 in
theorem toTlb_any (sets ways : Int) (a : Option Addr) (n cap : Nat) (es : List EntM) (w : World) (h : RowC w a n 6 (entsC es)) (hn : es.length = n) (hl : n ≤ 1048576) :
    Calls Try.prog 43 #[.agg #[.int .i64 sets, .int .i64 ways, .slice a n cap]] w fun e w' => (∃ x, e = .returned x ∧ TlbOwn w.heap.size w' x ⟨sets, ways, es⟩) ∧ Below w.heap.size w w' := by
  have n1 := (((Below.refl w.heap.size w).alloc (Nat.le_refl _) (Obj.cells #[.int .i64 sets, .int .i64 ways, .slice a n cap] 58)).alloc (by simp) (Obj.cells #[.int .i64 0, .int .i64 0, .slice none 0 0] 63)).alloc (by simp; omega) (Obj.cells #[.int .i64 sets, .int .i64 ways, .slice none 0 0] 63)
  have HR : Hid (RowC (((w.alloc (Obj.cells #[.int .i64 sets, .int .i64 ways, .slice a n cap] 58)).alloc (Obj.cells #[.int .i64 0, .int .i64 0, .slice none 0 0] 63)).alloc (Obj.cells #[.int .i64 sets, .int .i64 ways, .slice none 0 0] 63)) a n 6 (entsC es)) := h.keep n1
  have H2 : Hid ((((w.alloc (Obj.cells #[.int .i64 sets, .int .i64 ways, .slice a n cap] 58)).alloc (Obj.cells #[.int .i64 0, .int .i64 0, .slice none 0 0] 63)).alloc (Obj.cells #[.int .i64 sets, .int .i64 ways, .slice none 0 0] 63)).heap[w.heap.size + 1]? = some (.cells #[.int .i64 0, .int .i64 0, .slice none 0 0] 63 (0, 0))) := by
    show _ = _
    rw [heap_alloc_old _ _ (by simp)]
    have := heap_alloc_new (w.alloc (Obj.cells #[.int .i64 sets, .int .i64 ways, .slice a n cap] 58)) (Obj.cells #[.int .i64 0, .int .i64 0, .slice none 0 0] 63)
    simp only [World.size_alloc] at this
    exact this
  have H3 : Hid ((((w.alloc (Obj.cells #[.int .i64 sets, .int .i64 ways, .slice a n cap] 58)).alloc (Obj.cells #[.int .i64 0, .int .i64 0, .slice none 0 0] 63)).alloc (Obj.cells #[.int .i64 sets, .int .i64 ways, .slice none 0 0] 63)).heap[w.heap.size + 1 + 1]? = some (.cells #[.int .i64 sets, .int .i64 ways, .slice none 0 0] 63 (0, 0))) := by
    have := heap_alloc_new ((w.alloc (Obj.cells #[.int .i64 sets, .int .i64 ways, .slice a n cap] 58)).alloc (Obj.cells #[.int .i64 0, .int .i64 0, .slice none 0 0] 63)) (Obj.cells #[.int .i64 sets, .int .i64 ways, .slice none 0 0] 63)
    simp only [World.size_alloc] at this
    exact this
  have l1 : w.heap.size + 1 + 1 < (((w.alloc (Obj.cells #[.int .i64 sets, .int .i64 ways, .slice a n cap] 58)).alloc (Obj.cells #[.int .i64 0, .int .i64 0, .slice none 0 0] 63)).alloc (Obj.cells #[.int .i64 sets, .int .i64 ways, .slice none 0 0] 63)).heap.size := by simp
  clear h
  go_enter Try.func43, Try.ntmps43
  go_wp2_with fail
  generalize (((w.alloc (Obj.cells #[.int .i64 sets, .int .i64 ways, .slice a n cap] 58)).alloc (Obj.cells #[.int .i64 0, .int .i64 0, .slice none 0 0] 63)).alloc (Obj.cells #[.int .i64 sets, .int .i64 ways, .slice none 0 0] 63)) = v1 at n1 HR H2 H3 l1 ⊢
  refine (toEntryS_any a n cap es v1 HR.out hn hl).mono ?_
  rintro e v2 ⟨rfl, o2, n2⟩
  have O2 : Hid (v2.ownsRow v1.heap.size 75 6 (.slice (some ⟨v1.heap.size, 0, none⟩) n n) n (entsC es)) := o2
  have A2 := Below.step n1 n2 (Nat.le_refl _)
  have K2 := hid_keep H2 n2
  have K3 := hid_keep H3 n2
  obtain ⟨⟨d0, d1, d2⟩, e0, e1, e2⟩ := three_cells K2.out
  obtain ⟨⟨p0, p1, p2⟩, f0, f1, f2⟩ := three_cells K3.out
  clear o2 n1 n2 HR H2 H3
  go_wp2_with fail
  refine bodyPost_ret (v := .agg #[.int .i64 sets, .int .i64 ways, .slice (some ⟨v1.heap.size, 0, none⟩) n n]) (by simp [results, Try.results43, go_sem, d0, d1, d2]) rfl ⟨⟨_, rfl, v1.heap.size, n, by simp only; rw [hn], ?_⟩, bel3 (A2.setCell (p := ⟨w.heap.size + 1 + 1, 2, none⟩) (by show w.heap.size ≤ w.heap.size + 1 + 1; omega) _) (by omega) _ _ _⟩
  simp only
  rw [hn]
  exact own_low (own_gb (own_gb O2.out (gb_set (gb_refl v2 (some (w.heap.size + 1 + 1))) 2 _) l1) (gb3 _ (w.heap.size + 1) _ _ _) (by omega)) (by omega)

theorem szTlb_any (sets ways : Int) (a : Option Addr) (n cap : Nat) (left : Int) (w : World) (hn : (n : Int) ≤ 9223372036854775807) (h0 : 0 ≤ left) (h1 : left ≤ 1048576) :
    Calls Try.prog 41 #[.agg #[.int .i64 sets, .int .i64 ways, .slice a n cap], .int .i64 left] w fun e w' => e = .returned (.int .i64 (if left < n then -1 else left - n)) ∧ Below w.heap.size w w' := by
  have n1 := (Below.refl w.heap.size w).alloc (Nat.le_refl _) (Obj.cells #[.int .i64 sets, .int .i64 ways, .slice a n cap] 58)
  by_cases h : left < n
  · rw [if_pos h]
    have HS : Hid (∀ w, Calls Try.prog 93 #[.slice a n cap, .int .i64 left] w fun e w' => e = .returned (.int .i64 (-1)) ∧ w' = w) := fun w => by
      have := szEntryS_any a n cap left w hn h0 h1
      rw [if_pos h] at this
      exact this
    clear h
    go_enter Try.func41, Try.ntmps41
    go_wp2_with (go_at_call 93; refine (HS.out _).mono ?_; rintro e w' ⟨rfl, rfl⟩)
    go_ret
    exact ⟨rfl, n1⟩
  · rw [if_neg h]
    have HS : Hid (∀ w, Calls Try.prog 93 #[.slice a n cap, .int .i64 left] w fun e w' => e = .returned (.int .i64 (left - n)) ∧ w' = w) := fun w => by
      have := szEntryS_any a n cap left w hn h0 h1
      rw [if_neg h] at this
      exact this
    have h' : decide (left - (n : Int) < 0) = false := by rw [decide_eq_false_iff_not]; omega
    clear h
    go_enter Try.func41, Try.ntmps41
    go_wp2_with (go_at_call 93; refine (HS.out _).mono ?_; rintro e w' ⟨rfl, rfl⟩)
    go_ret
    exact ⟨rfl, n1⟩

end Go.Proofs.Ythekickjjaleaab
