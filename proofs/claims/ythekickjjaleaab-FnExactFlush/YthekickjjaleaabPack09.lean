import Derived.Test.YthekickjjaleaabPack08
import Derived.Test.YthekickjjaleaabPack01
import Derived.Deep.Slices
import Derived.Lib.SmallJoins
/- The laws' copies of entries and caches: toEntry, toEntryS, toTlb, and their sizes. -/
namespace Go.Proofs.Ythekickjjaleaab
open Go.RowKit
set_option linter.unusedVariables false
attribute [local go_sem ↓] Go.wp_at_zero Go.wp_at_succ

theorem szEntryS_any (a : Option Addr) (n cap : Nat) (left : Int) (w : World) (hn : (n : Int) ≤ 9223372036854775807) (h0 : 0 ≤ left) (h1 : left ≤ 1048576) :
    Calls Try.prog 93 #[.slice a n cap, .int .i64 left] w fun e w' => e = .returned (.int .i64 (if left < n then -1 else left - n)) ∧ w' = w := by
  by_cases h : left < n
  · rw [if_pos h]
    go_enter Try.func93, Try.ntmps93
    go_wp2_with fail
    go_ret
    exact ⟨rfl, rfl⟩
  · rw [if_neg h]
    go_enter Try.func93, Try.ntmps93
    go_wp2_with fail
    go_ret
    exact ⟨rfl, rfl⟩

set_option maxHeartbeats 400000 in
theorem toEntry_any (v : Bool) (l t a : Int) (g : Bool) (p : Int) (w : World) :
    Calls Try.prog 50 #[.agg #[.bool v, .int .i64 l, .int .u64 t, .int .u64 a, .bool g, .int .u64 p]] w fun e w' => e = .returned (.agg #[.bool v, .int .i64 l, .int .u64 t, .int .u64 a, .bool g, .int .u64 p]) ∧ Below w.heap.size w w' := by
  go_enter Try.func50, Try.ntmps50
  go_wp2_with fail
  exact bodyPost_ret (v := .agg #[.bool v, .int .i64 l, .int .u64 t, .int .u64 a, .bool g, .int .u64 p]) (by simp [results, Try.results50, go_sem]) rfl ⟨rfl, (((Below.refl _ _).alloc (Nat.le_refl _) _).alloc (by simp) _).alloc (by simp; omega) _⟩

theorem to_step (es : List EntM) (ys : List Value) (k n : Nat) (x : EntM) (hx : es[k]? = some x) (hy : ys.length = n * 6) (hk : k < n) (hn : es.length = n) (h : ∀ t, t < k * 6 → ys[t]? = (entsC es)[t]?) :
    ∀ t, t < (k + 1) * 6 → ((((((ys.set (k * 6) (.bool x.valid)).set (k * 6 + 1) (.int .i64 x.level)).set (k * 6 + 2) (.int .u64 x.tag)).set (k * 6 + 3) (.int .u64 x.asid)).set (k * 6 + 4) (.bool x.glob)).set (k * 6 + 5) (.int .u64 x.pte))[t]? = (entsC es)[t]? := by
  intro t ht
  obtain ⟨hk', rfl⟩ := List.getElem?_eq_some_iff.1 hx
  have hj := fun j hj => entsC_at es k j hk' hj
  by_cases h0 : t < k * 6
  · simp only [List.getElem?_set]
    rw [if_neg (by omega), if_neg (by omega), if_neg (by omega), if_neg (by omega), if_neg (by omega), if_neg (by omega)]
    exact h t h0
  · rcases (show t = k * 6 ∨ t = k * 6 + 1 ∨ t = k * 6 + 2 ∨ t = k * 6 + 3 ∨ t = k * 6 + 4 ∨ t = k * 6 + 5 by omega) with rfl | rfl | rfl | rfl | rfl | rfl
    · have h6 : (entsC es)[k * 6]? = (entC es[k])[0]? := hj 0 (by omega)
      rw [h6, List.getElem?_set_ne (by omega), List.getElem?_set_ne (by omega), List.getElem?_set_ne (by omega), List.getElem?_set_ne (by omega), List.getElem?_set_ne (by omega), List.getElem?_set_self (by omega)]
      rfl
    · rw [hj 1 (by omega), List.getElem?_set_ne (by omega), List.getElem?_set_ne (by omega), List.getElem?_set_ne (by omega), List.getElem?_set_ne (by omega), List.getElem?_set_self (by simp; omega)]
      rfl
    · rw [hj 2 (by omega), List.getElem?_set_ne (by omega), List.getElem?_set_ne (by omega), List.getElem?_set_ne (by omega), List.getElem?_set_self (by simp; omega)]
      rfl
    · rw [hj 3 (by omega), List.getElem?_set_ne (by omega), List.getElem?_set_ne (by omega), List.getElem?_set_self (by simp; omega)]
      rfl
    · rw [hj 4 (by omega), List.getElem?_set_ne (by omega), List.getElem?_set_self (by simp; omega)]
      rfl
    · rw [hj 5 (by omega), List.getElem?_set_self (by simp; omega)]
      rfl

set_option maxRecDepth 20000 in
set_option maxHeartbeats 1600000 in
theorem toEntryS_any (a : Option Addr) (n cap : Nat) (es : List EntM) (w : World) (h : RowC w a n 6 (entsC es)) (hn : es.length = n) (hl : n ≤ 1048576) :
    Calls Try.prog 95 #[.slice a n cap] w fun e w' =>
      e = .returned (.slice (some ⟨w.heap.size, 0, none⟩) n n) ∧ w'.ownsRow w.heap.size 75 6 (.slice (some ⟨w.heap.size, 0, none⟩) n n) n (entsC es) ∧ Below w.heap.size w w' := by
  obtain ⟨i0, hi, hz0, hz1, hz2⟩ := info_parts Try.infoEnt
  have HR : Hid (RowC w a n 6 (entsC es)) := h
  clear h
  go_enter Try.func95, Try.ntmps95
  go_wp2_with (at_make; refine wpList_make_full _ rfl _ _ 61 rfl w.heap.size 75 i0 (.agg #[.bool false, .int .i64 0, .int .u64 0, .int .u64 0, .bool false, .int .u64 0]) 6 Try.underlying61 hi hz0 hz1 _ _ _ _ n rfl rfl rfl rfl ?b2 ?b3 (Nat.le_refl _) ?_)
  case b2 => rw [hz2]; omega
  case b3 => unfold maxLen; omega
  intro w0 hown0 hgrow0
  have hn0 : Below w.heap.size w w0 := (Below.refl _ _).grown hgrow0 (Nat.le_refl _) (fun k h => by cases h)
  have HO0 : Hid _ := hown0
  clear hown0 hgrow0
  go_wp2_with fail
  go_loopw [4] (fun i wr => ∃ (k : Nat) (ys : List Value), k ≤ n ∧ i = .int .i64 k ∧ (∀ t, t < k * 6 → ys[t]? = (entsC es)[t]?) ∧ wr.ownsRow w.heap.size 75 6 (.slice (some ⟨w.heap.size, 0, none⟩) n n) n ys ∧ Below w.heap.size w wr) (fun i _ => n - (intOf i).toNat)
  case atStart => exact ⟨0, _, Nat.zero_le _, rfl, fun t ht => absurd ht (by omega), HO0.out, hn0⟩
  case round =>
    obtain ⟨k, ys, hk, rfl, hyz, hO, hb⟩ := hrel
    have HO : Hid (wr.ownsRow w.heap.size 75 6 (.slice (some ⟨w.heap.size, 0, none⟩) n n) n ys) := hO
    have HZ : Hid (∀ t, t < k * 6 → ys[t]? = (entsC es)[t]?) := hyz
    have hyl : ys.length = n * 6 := hO.1
    clear hO hyz
    by_cases hlt : k < n
    · obtain ⟨x, hx⟩ : ∃ x, es[k]? = some x := ⟨_, List.getElem?_eq_getElem (by omega)⟩
      obtain ⟨b, off, rfl, hbb⟩ : ∃ b off, a = some ⟨b, off, none⟩ ∧ b < w.heap.size := by
        rcases HR.out.2 with h | ⟨b, off, h, h2, _⟩
        · omega
        · exact ⟨b, off, h, h2⟩
      have CE : ∀ j u, j < 6 → (entC x)[j]? = some u → wr.cell? ⟨b, off + (k * 6 + j), none⟩ = some u := fun j u hj hu =>
        Below.cell2 hb (row_cell HR.out hn k x hx j u hj hu) hbb
      obtain ⟨vv, lv, tg, asd, gl, pt⟩ := x
      have g0 : wr.cell? ⟨b, off + k * 6, none⟩ = some (.bool vv) := CE 0 _ (by omega) rfl
      have g1 : wr.cell? ⟨b, off + k * 6 + 1, none⟩ = some (.int .i64 lv) := CE 1 _ (by omega) rfl
      have g2 : wr.cell? ⟨b, off + k * 6 + 2, none⟩ = some (.int .u64 tg) := CE 2 _ (by omega) rfl
      have g3 : wr.cell? ⟨b, off + k * 6 + 3, none⟩ = some (.int .u64 asd) := CE 3 _ (by omega) rfl
      have g4 : wr.cell? ⟨b, off + k * 6 + 4, none⟩ = some (.bool gl) := CE 4 _ (by omega) rfl
      have g5 : wr.cell? ⟨b, off + k * 6 + 5, none⟩ = some (.int .u64 pt) := CE 5 _ (by omega) rfl
      have HX : Hid (es[k]? = some ⟨vv, lv, tg, asd, gl, pt⟩) := hx
      clear CE hx
      go_wp2_with fail
      refine (toEntry_any vv lv tg asd gl pt wr).mono ?_
      rintro e v2 ⟨rfl, n2⟩
      have O2 : Hid (v2.ownsRow w.heap.size 75 6 (.slice (some ⟨w.heap.size, 0, none⟩) n n) n ys) := own_below HO.out n2
      have A2 := Below.step hb n2 (Nat.le_refl _)
      clear g0 g1 g2 g3 g4 g5 HO hb n2
      have y0 := own_cell O2.out (k * 6) _ (List.getElem?_eq_getElem (by omega))
      have y1 := own_cell O2.out (k * 6 + 1) _ (List.getElem?_eq_getElem (by omega))
      have y2 := own_cell O2.out (k * 6 + 2) _ (List.getElem?_eq_getElem (by omega))
      have y3 := own_cell O2.out (k * 6 + 3) _ (List.getElem?_eq_getElem (by omega))
      have y4 := own_cell O2.out (k * 6 + 4) _ (List.getElem?_eq_getElem (by omega))
      have y5 := own_cell O2.out (k * 6 + 5) _ (List.getElem?_eq_getElem (by omega))
      generalize ys[k * 6]'_ = z0 at y0
      generalize ys[k * 6 + 1]'_ = z1 at y1
      generalize ys[k * 6 + 2]'_ = z2 at y2
      generalize ys[k * 6 + 3]'_ = z3 at y3
      generalize ys[k * 6 + 4]'_ = z4 at y4
      generalize ys[k * 6 + 5]'_ = z5 at y5
      have r0 := own_free O2.out (k * 6)
      have r1 := own_free O2.out (k * 6 + 1)
      have r2 := own_free O2.out (k * 6 + 2)
      have r3 := own_free O2.out (k * 6 + 3)
      have r4 := own_free O2.out (k * 6 + 4)
      have r5 := own_free O2.out (k * 6 + 5)
      go_wp2_with fail
      go_roundw
      case rel =>
        refine ⟨k + 1, _, by omega, by go_num, to_step es ys k n _ HX.out hyl hlt hn HZ.out, own_store (own_store (own_store (own_store (own_store (own_store O2.out _ _) _ _) _ _) _ _) _ _) _ _, A2.grown (gb_set (gb_set (gb_set (gb_set (gb_set (gb_set (gb_refl v2 (some w.heap.size)) _ _) _ _) _ _) _ _) _ _) _ _) A2.size (fun q hq => by cases hq; omega)⟩
      case measure => simp [intOf]; omega
    · have hyy : ys = entsC es := by
        apply List.ext_getElem?
        intro t
        by_cases ht : t < n * 6
        · exact HZ.out t (by omega)
        · rw [List.getElem?_eq_none (by omega), List.getElem?_eq_none (by rw [entsC_len]; omega)]
      rw [hyy] at HO
      clear HZ hyl hyy
      go_wp2_with fail
      go_ret
      exact ⟨rfl, HO.out, hb⟩

set_option maxRecDepth 20000 in
set_option maxHeartbeats 800000 in
theorem toTlb_any (sets ways : Int) (a : Option Addr) (n cap : Nat) (es : List EntM) (w : World) (h : RowC w a n 6 (entsC es)) (hn : es.length = n) (hl : n ≤ 1048576) :
    Calls Try.prog 43 #[.agg #[.int .i64 sets, .int .i64 ways, .slice a n cap]] w fun e w' => (∃ x, e = .returned x ∧ TlbOwn w.heap.size w' x ⟨sets, ways, es⟩) ∧ Below w.heap.size w w' := by
  have n1 := (((Below.refl w.heap.size w).alloc (Nat.le_refl _) (Obj.cells #[.int .i64 sets, .int .i64 ways, .slice a n cap] 58)).alloc (by simp) (Obj.cells #[.int .i64 0, .int .i64 0, .slice none 0 0] 63)).alloc (by simp; omega) (Obj.cells #[.int .i64 sets, .int .i64 ways, .slice none 0 0] 63)
  have HR : Hid (RowC (((w.alloc (Obj.cells #[.int .i64 sets, .int .i64 ways, .slice a n cap] 58)).alloc (Obj.cells #[.int .i64 0, .int .i64 0, .slice none 0 0] 63)).alloc (Obj.cells #[.int .i64 sets, .int .i64 ways, .slice none 0 0] 63)) a n 6 (entsC es)) := h.keep n1
  have H2 : Hid ((((w.alloc (Obj.cells #[.int .i64 sets, .int .i64 ways, .slice a n cap] 58)).alloc (Obj.cells #[.int .i64 0, .int .i64 0, .slice none 0 0] 63)).alloc (Obj.cells #[.int .i64 sets, .int .i64 ways, .slice none 0 0] 63)).heap[w.heap.size + 1]? = some (.cells #[.int .i64 0, .int .i64 0, .slice none 0 0] 63 (0, 0))) := by
    show _ = _
    rw [heap_alloc_old _ _ (by simp)]
    have := heap_alloc_new (w.alloc (Obj.cells #[.int .i64 sets, .int .i64 ways, .slice a n cap] 58)) (Obj.cells #[.int .i64 0, .int .i64 0, .slice none 0 0] 63)
    simp only [World.size_alloc] at this
    exact this
  have H3 : Hid ((((w.alloc (Obj.cells #[.int .i64 sets, .int .i64 ways, .slice a n cap] 58)).alloc (Obj.cells #[.int .i64 0, .int .i64 0, .slice none 0 0] 63)).alloc (Obj.cells #[.int .i64 sets, .int .i64 ways, .slice none 0 0] 63)).heap[w.heap.size + 1 + 1]? = some (.cells #[.int .i64 sets, .int .i64 ways, .slice none 0 0] 63 (0, 0))) := by
    have := heap_alloc_new ((w.alloc (Obj.cells #[.int .i64 sets, .int .i64 ways, .slice a n cap] 58)).alloc (Obj.cells #[.int .i64 0, .int .i64 0, .slice none 0 0] 63)) (Obj.cells #[.int .i64 sets, .int .i64 ways, .slice none 0 0] 63)
    simp only [World.size_alloc] at this
    exact this
  have l1 : w.heap.size + 1 + 1 < (((w.alloc (Obj.cells #[.int .i64 sets, .int .i64 ways, .slice a n cap] 58)).alloc (Obj.cells #[.int .i64 0, .int .i64 0, .slice none 0 0] 63)).alloc (Obj.cells #[.int .i64 sets, .int .i64 ways, .slice none 0 0] 63)).heap.size := by simp
  clear h
  go_enter Try.func43, Try.ntmps43
  go_wp2_with fail
  generalize (((w.alloc (Obj.cells #[.int .i64 sets, .int .i64 ways, .slice a n cap] 58)).alloc (Obj.cells #[.int .i64 0, .int .i64 0, .slice none 0 0] 63)).alloc (Obj.cells #[.int .i64 sets, .int .i64 ways, .slice none 0 0] 63)) = v1 at n1 HR H2 H3 l1 ⊢
  refine (toEntryS_any a n cap es v1 HR.out hn hl).mono ?_
  rintro e v2 ⟨rfl, o2, n2⟩
  have O2 : Hid (v2.ownsRow v1.heap.size 75 6 (.slice (some ⟨v1.heap.size, 0, none⟩) n n) n (entsC es)) := o2
  have A2 := Below.step n1 n2 (Nat.le_refl _)
  have K2 := hid_keep H2 n2
  have K3 := hid_keep H3 n2
  obtain ⟨⟨d0, d1, d2⟩, e0, e1, e2⟩ := three_cells K2.out
  obtain ⟨⟨p0, p1, p2⟩, f0, f1, f2⟩ := three_cells K3.out
  clear o2 n1 n2 HR H2 H3
  go_wp2_with fail
  refine bodyPost_ret (v := .agg #[.int .i64 sets, .int .i64 ways, .slice (some ⟨v1.heap.size, 0, none⟩) n n]) (by simp [results, Try.results43, go_sem, d0, d1, d2]) rfl ⟨⟨_, rfl, v1.heap.size, n, by simp only; rw [hn], ?_⟩, bel3 (A2.setCell (p := ⟨w.heap.size + 1 + 1, 2, none⟩) (by show w.heap.size ≤ w.heap.size + 1 + 1; omega) _) (by omega) _ _ _⟩
  simp only
  rw [hn]
  exact own_low (own_gb (own_gb O2.out (gb_set (gb_refl v2 (some (w.heap.size + 1 + 1))) 2 _) l1) (gb3 _ (w.heap.size + 1) _ _ _) (by omega)) (by omega)

theorem szTlb_any (sets ways : Int) (a : Option Addr) (n cap : Nat) (left : Int) (w : World) (hn : (n : Int) ≤ 9223372036854775807) (h0 : 0 ≤ left) (h1 : left ≤ 1048576) :
    Calls Try.prog 41 #[.agg #[.int .i64 sets, .int .i64 ways, .slice a n cap], .int .i64 left] w fun e w' => e = .returned (.int .i64 (if left < n then -1 else left - n)) ∧ Below w.heap.size w w' := by
  have n1 := (Below.refl w.heap.size w).alloc (Nat.le_refl _) (Obj.cells #[.int .i64 sets, .int .i64 ways, .slice a n cap] 58)
  by_cases h : left < n
  · rw [if_pos h]
    have HS : Hid (∀ w, Calls Try.prog 93 #[.slice a n cap, .int .i64 left] w fun e w' => e = .returned (.int .i64 (-1)) ∧ w' = w) := fun w => by
      have := szEntryS_any a n cap left w hn h0 h1
      rw [if_pos h] at this
      exact this
    clear h
    go_enter Try.func41, Try.ntmps41
    go_wp2_with (go_at_call 93; refine (HS.out _).mono ?_; rintro e w' ⟨rfl, rfl⟩)
    go_ret
    exact ⟨rfl, n1⟩
  · rw [if_neg h]
    have HS : Hid (∀ w, Calls Try.prog 93 #[.slice a n cap, .int .i64 left] w fun e w' => e = .returned (.int .i64 (left - n)) ∧ w' = w) := fun w => by
      have := szEntryS_any a n cap left w hn h0 h1
      rw [if_neg h] at this
      exact this
    have h' : decide (left - (n : Int) < 0) = false := by rw [decide_eq_false_iff_not]; omega
    clear h
    go_enter Try.func41, Try.ntmps41
    go_wp2_with (go_at_call 93; refine (HS.out _).mono ?_; rintro e w' ⟨rfl, rfl⟩)
    go_ret
    exact ⟨rfl, n1⟩

end Go.Proofs.Ythekickjjaleaab

/- The laws' equality of entries and caches: eqEntry, eqEntryS, eqTlb, eqHit. -/
namespace Go.Proofs.Ythekickjjaleaab
open Go.RowKit
set_option linter.unusedVariables false
attribute [local go_sem ↓] Go.wp_at_zero Go.wp_at_succ

set_option maxHeartbeats 800000 in
theorem eqEntry_same (v : Bool) (l t a : Int) (g : Bool) (p : Int) (w : World) :
    Calls Try.prog 138 #[.agg #[.bool v, .int .i64 l, .int .u64 t, .int .u64 a, .bool g, .int .u64 p], .agg #[.bool v, .int .i64 l, .int .u64 t, .int .u64 a, .bool g, .int .u64 p]] w fun e w' => e = .returned (.bool true) ∧ Below w.heap.size w w' := by
  cases v <;> cases g
  all_goals
    go_enter Try.func138, Try.ntmps138
    go_wp2_with fail
    go_ret
    exact ⟨rfl, ((Below.refl _ _).alloc (Nat.le_refl _) _).alloc (by simp) _⟩

set_option maxHeartbeats 800000 in
theorem eqHit_same (f : Bool) (i l p : Int) (w : World) :
    Calls Try.prog 48 #[.agg #[.bool f, .int .i64 i, .int .i64 l, .int .u64 p], .agg #[.bool f, .int .i64 i, .int .i64 l, .int .u64 p]] w fun e w' => e = .returned (.bool true) ∧ Below w.heap.size w w' := by
  cases f
  all_goals
    go_enter Try.func48, Try.ntmps48
    go_wp2_with fail
    go_ret
    exact ⟨rfl, ((Below.refl _ _).alloc (Nat.le_refl _) _).alloc (by simp) _⟩

set_option maxRecDepth 20000 in
set_option maxHeartbeats 1600000 in
theorem eqEntryS_same (a b : Option Addr) (n ca cb : Nat) (es : List EntM) (w : World) (h : RowC w a n 6 (entsC es)) (h' : RowC w b n 6 (entsC es)) (hn : es.length = n) (hl : n ≤ 1048576) :
    Calls Try.prog 98 #[.slice a n ca, .slice b n cb] w fun e w' => e = .returned (.bool true) ∧ Below w.heap.size w w' := by
  have HR : Hid (RowC w a n 6 (entsC es)) := h
  have HR' : Hid (RowC w b n 6 (entsC es)) := h'
  clear h h'
  go_enter Try.func98, Try.ntmps98
  go_wp2_with fail
  go_loopw [5] (fun i wr => ∃ (k : Nat), k ≤ n ∧ i = .int .i64 k ∧ Below w.heap.size w wr) (fun i _ => n - (intOf i).toNat)
  case atStart => exact ⟨0, Nat.zero_le _, rfl, Below.refl _ _⟩
  case round =>
    obtain ⟨k, hk, rfl, hb⟩ := hrel
    by_cases hlt : k < n
    · obtain ⟨x, hx⟩ : ∃ x : EntM, es[k]? = some x := ⟨_, List.getElem?_eq_getElem (by omega)⟩
      have R1 := RowC.keep HR.out hb
      have R2 := RowC.keep HR'.out hb
      obtain ⟨b1, o1, rfl, lb1⟩ : ∃ b1 o1, a = some ⟨b1, o1, none⟩ ∧ b1 < wr.heap.size := by
        rcases R1.2 with h | ⟨b1, o1, h, h2, _⟩
        · omega
        · exact ⟨b1, o1, h, h2⟩
      obtain ⟨b2, o2, rfl, lb2⟩ : ∃ b2 o2, b = some ⟨b2, o2, none⟩ ∧ b2 < wr.heap.size := by
        rcases R2.2 with h | ⟨b2, o2, h, h2, _⟩
        · omega
        · exact ⟨b2, o2, h, h2⟩
      obtain ⟨vv, lv, tg, asd, gl, pt⟩ := x
      have C1 := fun j u hj hu => lies_cell (row_cell R1 hn k _ hx j u hj hu) lb1
      have C2 := fun j u hj hu => lies_cell (row_cell R2 hn k _ hx j u hj hu) lb2
      have g0 : ∀ u : Lies wr, u.w.cell? ⟨b1, o1 + k * 6, none⟩ = some (.bool vv) := C1 0 _ (by omega) rfl
      have g1 : ∀ u : Lies wr, u.w.cell? ⟨b1, o1 + k * 6 + 1, none⟩ = some (.int .i64 lv) := C1 1 _ (by omega) rfl
      have g2 : ∀ u : Lies wr, u.w.cell? ⟨b1, o1 + k * 6 + 2, none⟩ = some (.int .u64 tg) := C1 2 _ (by omega) rfl
      have g3 : ∀ u : Lies wr, u.w.cell? ⟨b1, o1 + k * 6 + 3, none⟩ = some (.int .u64 asd) := C1 3 _ (by omega) rfl
      have g4 : ∀ u : Lies wr, u.w.cell? ⟨b1, o1 + k * 6 + 4, none⟩ = some (.bool gl) := C1 4 _ (by omega) rfl
      have g5 : ∀ u : Lies wr, u.w.cell? ⟨b1, o1 + k * 6 + 5, none⟩ = some (.int .u64 pt) := C1 5 _ (by omega) rfl
      have f0 : ∀ u : Lies wr, u.w.cell? ⟨b2, o2 + k * 6, none⟩ = some (.bool vv) := C2 0 _ (by omega) rfl
      have f1 : ∀ u : Lies wr, u.w.cell? ⟨b2, o2 + k * 6 + 1, none⟩ = some (.int .i64 lv) := C2 1 _ (by omega) rfl
      have f2 : ∀ u : Lies wr, u.w.cell? ⟨b2, o2 + k * 6 + 2, none⟩ = some (.int .u64 tg) := C2 2 _ (by omega) rfl
      have f3 : ∀ u : Lies wr, u.w.cell? ⟨b2, o2 + k * 6 + 3, none⟩ = some (.int .u64 asd) := C2 3 _ (by omega) rfl
      have f4 : ∀ u : Lies wr, u.w.cell? ⟨b2, o2 + k * 6 + 4, none⟩ = some (.bool gl) := C2 4 _ (by omega) rfl
      have f5 : ∀ u : Lies wr, u.w.cell? ⟨b2, o2 + k * 6 + 5, none⟩ = some (.int .u64 pt) := C2 5 _ (by omega) rfl
      have ne := lies_some wr
      clear C1 C2 R1 R2 hx
      go_wp2_with fail
      refine wp_region_lies (by kernel_rfl) (by kernel_rfl) ?_
      repeat (go_big_quiet_step ((go_at_call 138; exact lies_quiet _ (eqEntry_same _ _ _ _ _ _ _))))
      refine wpQuiet_nil ?_
      rintro _ ⟨u, rfl⟩
      have hb2 := Below.step hb u.h (Nat.le_refl _)
      generalize u.w = v2 at hb2 ⊢
      clear g0 g1 g2 g3 g4 g5 f0 f1 f2 f3 f4 f5 hb
      go_wp2_with fail
      go_roundw
      case rel => exact ⟨k + 1, by omega, by go_num, hb2⟩
      case measure => simp [intOf]; omega
    · clear HR HR'
      go_wp2_with fail
      go_ret
      exact ⟨rfl, hb⟩

set_option maxHeartbeats 800000 in
theorem eqTlb_same (sets ways : Int) (a b : Option Addr) (n ca cb : Nat) (es : List EntM) (w : World) (h : RowC w a n 6 (entsC es)) (h' : RowC w b n 6 (entsC es)) (hn : es.length = n) (hl : n ≤ 1048576) :
    Calls Try.prog 45 #[.agg #[.int .i64 sets, .int .i64 ways, .slice a n ca], .agg #[.int .i64 sets, .int .i64 ways, .slice b n cb]] w fun e w' => e = .returned (.bool true) ∧ Below w.heap.size w w' := by
  have n1 := ((Below.refl w.heap.size w).alloc (Nat.le_refl _) (Obj.cells #[.int .i64 sets, .int .i64 ways, .slice a n ca] 63)).alloc (by simp) (Obj.cells #[.int .i64 sets, .int .i64 ways, .slice b n cb] 63)
  have HR : Hid (RowC _ a n 6 (entsC es)) := RowC.keep h n1
  have HR' : Hid (RowC _ b n 6 (entsC es)) := RowC.keep h' n1
  clear h h'
  go_enter Try.func45, Try.ntmps45
  go_wp2_with fail
  refine (eqEntryS_same a b n ca cb es _ HR.out HR'.out hn hl).mono ?_
  rintro e v2 ⟨rfl, n2⟩
  have n12 := Below.step n1 n2 (Nat.le_refl _)
  clear n1 n2 HR HR'
  go_wp2_with fail
  go_ret
  exact ⟨rfl, n12⟩

end Go.Proofs.Ythekickjjaleaab

/- A cache among a law's arguments, opened: what its value is, what its entries are in memory. -/
namespace Go.Proofs.Ythekickjjaleaab
open Go.ChangeShapes Go.WideShapes Go.RowKit Go.Joins Go.Deep
set_option linter.unusedVariables false

theorem add_at (b off i : Nat) : Addr.add ⟨b, off, none⟩ i = ⟨b, off + i, none⟩ := by
  unfold Addr.add
  split
  · next h => subst h; rfl
  · rfl

theorem row_of_ents {w : World} {a : Addr} {es : List EntM} {n : Nat} (hn : es.length = n) (h : ∀ i (hi : i < es.length) j, j < 6 → w.cell? (a.add (i * 6 + j)) = (entC es[i])[j]?) : RowC w (some a) n 6 (entsC es) := by
  refine ⟨by rw [entsC_len, hn], ?_⟩
  by_cases h0 : n = 0
  · exact .inl h0
  · obtain ⟨b, off, spot⟩ := a
    have hc := h 0 (by omega) 0 (by omega)
    have hc' : w.cell? (Addr.add ⟨b, off, spot⟩ 0) = some (.bool (es[0]'(by omega)).valid) := by simpa [entC] using hc
    have hspot : spot = none := by simpa [Addr.add] using World.cell?_spot hc'
    subst hspot
    refine .inr ⟨b, off, rfl, ?_, fun i v hi => ?_⟩
    · have hc0 : w.cell? ⟨b, off, none⟩ = some (.bool (es[0]'(by omega)).valid) := by simpa [Addr.add] using hc'
      unfold World.cell? at hc0
      split at hc0
      · next he => exact (Array.getElem?_eq_some_iff.1 he).1
      · cases hc0
    · have hlt : i < (entsC es).length := (List.getElem?_eq_some_iff.1 hi).1
      rw [entsC_len] at hlt
      have hq : i / 6 < es.length := by omega
      have := h (i / 6) hq (i % 6) (by omega)
      rw [← entsC_at es (i / 6) (i % 6) hq (by omega), show i / 6 * 6 + i % 6 = i by omega, add_at, hi] at this
      exact this

section
variable {H : Type} {enc : TypeId × Value → H} {P : Program} {w : World} {base : Nat} {spare : Nat → Bool} {held : Bool}

theorem trod_struct6 {t : TypeId} {f0 f1 f2 f3 f4 f5 : Field} {fuel : Nat} {cs : List Value} {x : DataW H × List MemPlace} (ht : P.underlying t = some (.struct #[f0, f1, f2, f3, f4, f5])) (hone : oneCellFields P #[f0, f1, f2, f3, f4, f5] = true) (hC : P.cellsOf t = 6) (h : DataW.trod enc P w base spare held fuel t cs = some x) :
    ∃ c0 c1 c2 c3 c4 c5 y0 y1 y2 y3 y4 y5 n, cs = [c0, c1, c2, c3, c4, c5] ∧ DataW.trod enc P w base spare held n f0.type [c0] = some y0 ∧ DataW.trod enc P w base spare held n f1.type [c1] = some y1 ∧ DataW.trod enc P w base spare held n f2.type [c2] = some y2 ∧
      DataW.trod enc P w base spare held n f3.type [c3] = some y3 ∧ DataW.trod enc P w base spare held n f4.type [c4] = some y4 ∧ DataW.trod enc P w base spare held n f5.type [c5] = some y5 := by
  obtain ⟨xs, n, _, rfl, hl, hlen, hf⟩ := DataW.trod_struct ht h
  rw [hC] at hl
  obtain ⟨o0, k0⟩ := hone_of hone 0 f0 rfl
  obtain ⟨o1, k1⟩ := hone_of hone 1 f1 rfl
  obtain ⟨o2, k2⟩ := hone_of hone 2 f2 rfl
  obtain ⟨o3, k3⟩ := hone_of hone 3 f3 rfl
  obtain ⟨o4, k4⟩ := hone_of hone 4 f4 rfl
  obtain ⟨o5, k5⟩ := hone_of hone 5 f5 rfl
  match cs, hl with
  | [c0, c1, c2, c3, c4, c5], _ =>
    match xs, hlen with
    | [y0, y1, y2, y3, y4, y5], _ =>
      exact ⟨c0, c1, c2, c3, c4, c5, y0, y1, y2, y3, y4, y5, n, rfl, by simpa [o0, k0] using hf 0 f0 rfl, by simpa [o1, k1] using hf 1 f1 rfl, by simpa [o2, k2] using hf 2 f2 rfl, by simpa [o3, k3] using hf 3 f3 rfl, by simpa [o4, k4] using hf 4 f4 rfl, by simpa [o5, k5] using hf 5 f5 rfl⟩
end

theorem ent_open {H : Type} {enc : TypeId × Value → H} {w : World} {base : Nat} {spare : Nat → Bool} {held : Bool} {fuel : Nat} {cs : List Value} {x : DataW H × List MemPlace}
    (h : DataW.trod enc Try.prog w base spare held fuel 73 cs = some x) : ∃ e : EntM, cs = entC e ∧ entOk e := by
  obtain ⟨c0, c1, c2, c3, c4, c5, y0, y1, y2, y3, y4, y5, n, rfl, h0, h1, h2, h3, h4, h5⟩ := trod_struct6 Try.underlying73 (by kernel_rfl) (by kernel_rfl) h
  obtain ⟨b, f0, _⟩ := DataW.trod_bool Try.underlying4 h0
  obtain ⟨l, f1, _, w1⟩ := DataW.trod_int Try.underlying2 h1
  obtain ⟨t, f2, _, w2⟩ := DataW.trod_int Try.underlying23 h2
  obtain ⟨a, f3, _, w3⟩ := DataW.trod_int Try.underlying23 h3
  obtain ⟨g, f4, _⟩ := DataW.trod_bool Try.underlying4 h4
  obtain ⟨p, f5, _, w5⟩ := DataW.trod_int Try.underlying23 h5
  simp at f0 f1 f2 f3 f4 f5
  subst f0 f1 f2 f3 f4 f5
  exact ⟨⟨b, l, t, a, g, p⟩, rfl, bounds_i64 w1, bounds_u64 w2, bounds_u64 w3, bounds_u64 w5⟩

instance : Inhabited EntM := ⟨ent0⟩

theorem ents_open {H : Type} {enc : TypeId × Value → H} {w : World} {base : Nat} {spare : Nat → Bool} {held : Bool} {fuel : Nat} {v : Value} {x : DataW H × List MemPlace}
    (h : DataW.trod enc Try.prog w base spare held fuel 56 [v] = some x) :
    ∃ a cap es, v = .slice a es.length cap ∧ RowC w a es.length 6 (entsC es) ∧ (∀ e ∈ es, entOk e) ∧ es.length ≤ cap ∧ (cap : Int) ≤ 9223372036854775807 := by
  rcases open_slice Try.underlying56 h with ⟨hcs, _⟩ | ⟨a, len, cap, m, n, D, Pl, hcs, _, hl, hm, hmm, _, hx⟩
  · simp at hcs
    subst hcs
    exact ⟨none, 0, [], rfl, RowC.nil _ _ _, by simp, by simp, by simp⟩
  · simp at hcs
    subst hcs
    have hlm : len ≤ m := by rw [hmm]; split <;> omega
    rw [show Try.prog.cellsOf 73 = 6 from by kernel_rfl] at hx
    obtain ⟨E, hE⟩ := choose_lt (α := EntM) (n := len) (p := fun i e => (∀ j, j < 6 → w.cell? (a.add (i * 6 + j)) = (entC e)[j]?) ∧ entOk e) (fun i hi => by
      obtain ⟨cs', h1, h2⟩ := hx i (by omega)
      obtain ⟨e, rfl, he⟩ := ent_open h2
      obtain ⟨_, _, h3⟩ := World.cells?_some h1
      exact ⟨e, fun j hj => by rw [← add_add]; exact h3 j hj, he⟩)
    refine ⟨some a, cap, (List.range len).map E, by simp, row_of_ents rfl (fun i hi j hj => ?_), ?_, by simpa using hl, by unfold maxLen at hm; omega⟩
    · simp only [List.getElem_map, List.getElem_range]
      exact (hE i (by simpa using hi)).1 j hj
    · intro e he
      simp at he
      obtain ⟨i, hi, rfl⟩ := he
      exact (hE i hi).2

set_option maxRecDepth 100000 in
theorem entry_open {H : Type} {enc : TypeId × Value → H} {w : World} {base b0 : Nat} {spare : Nat → Bool} {held : Bool} {r : Reach} {v : Value} {d : DataW H} {p : List MemPlace}
    (hv : Value.okWide Try.prog w r b0 73 v) (h : DataW.Trod enc Try.prog w base spare held 73 v d p) : ∃ e : EntM, v = entV e ∧ entOk e := by
  obtain ⟨cs, rfl, _⟩ := okWide_struct Try.underlying73 hv
  obtain ⟨fuel, hf⟩ := h
  obtain ⟨e, hc, he⟩ := ent_open hf
  refine ⟨e, ?_, he⟩
  have hc' : cs.toList = entC e := by simpa [Value.cells] using hc
  unfold entV
  congr 1
  apply Array.ext'
  simpa [entC] using hc'

theorem cellsT : Try.prog.cellsOf 58 = 3 := by kernel_rfl

set_option maxRecDepth 100000 in
theorem tlb_open {H : Type} {enc : TypeId × Value → H} {w : World} {base b0 : Nat} {spare : Nat → Bool} {held : Bool} {r : Reach} {v : Value} {d : DataW H} {p : List MemPlace}
    (hv : Value.okWide Try.prog w r b0 58 v) (h : DataW.Trod enc Try.prog w base spare held 58 v d p) :
    ∃ sets ways a cap es, v = .agg #[.int .i64 sets, .int .i64 ways, .slice a es.length cap] ∧ RowC w a es.length 6 (entsC es) ∧ (∀ e ∈ es, entOk e) ∧
      (-9223372036854775808 ≤ sets ∧ sets ≤ 9223372036854775807) ∧ (-9223372036854775808 ≤ ways ∧ ways ≤ 9223372036854775807) ∧ es.length ≤ cap ∧ (cap : Int) ≤ 9223372036854775807 := by
  obtain ⟨c0, c1, c2, y0, y1, y2, m, rfl, _, _, e0, e1, e2⟩ := open_agg3 Try.underlying58 (by kernel_rfl) cellsT hv h
  obtain ⟨s, f0, _, w0⟩ := DataW.trod_int Try.underlying2 e0
  obtain ⟨y, f1, _, w1⟩ := DataW.trod_int Try.underlying2 e1
  simp at f0 f1
  subst f0 f1
  obtain ⟨a, cap, es, rfl, hr, ho, hl, hm⟩ := ents_open e2
  exact ⟨s, y, a, cap, es, rfl, hr, ho, bounds_i64 w0, bounds_i64 w1, hl, hm⟩

end Go.Proofs.Ythekickjjaleaab
