/- The program's walk from a level on: walkFrom. -/
import Derived.Test.YthekickjjaleaabImpl3c
import Derived.Test.YthekickjjaleaabOwn
namespace Go.Proofs.Ythekickjjaleaab
open Go.RowKit
set_option linter.unusedVariables false

def preM (acc : List RecM) (r : Int × Int × Int × List RecM) : Int × Int × Int × List RecM := (r.1, r.2.1, r.2.2.1, acc ++ r.2.2.2)

theorem fromM_out (zs : List Int) (va : Int) (k : Nat) (n : Int) (h : goodB zs.length (64 * n + 8 * idxM va k) 8 = false) : fromM zs va k n = (3, (k : Int), 0, []) := by
  unfold fromM
  rw [if_pos h]
theorem fromM_bad (zs : List Int) (va : Int) (k : Nat) (n : Int) (h : goodB zs.length (64 * n + 8 * idxM va k) 8 = true) (hk : kindM (rdV zs (64 * n + 8 * idxM va k) 8) k = 0) : fromM zs va k n = (2, (k : Int), 0, []) := by
  unfold fromM
  rw [if_neg (by rw [h]; simp), if_pos hk]
theorem fromM_leaf (zs : List Int) (va : Int) (k : Nat) (n : Int) (h : goodB zs.length (64 * n + 8 * idxM va k) 8 = true) (hk : kindM (rdV zs (64 * n + 8 * idxM va k) 8) k = 2) : fromM zs va k n = (1, (k : Int), rdV zs (64 * n + 8 * idxM va k) 8, [((k : Int), 64 * n + 8 * idxM va k, rdV zs (64 * n + 8 * idxM va k) 8)]) := by
  unfold fromM
  rw [if_neg (by rw [h]; simp), if_neg (by rw [hk]; decide), if_pos hk]
theorem fromM_next (zs : List Int) (va : Int) (k : Nat) (n : Int) (h : goodB zs.length (64 * n + 8 * idxM va ((k + 1 : Nat) : Int)) 8 = true) (hk : kindM (rdV zs (64 * n + 8 * idxM va ((k + 1 : Nat) : Int)) 8) ((k + 1 : Nat) : Int) = 1) :
    fromM zs va (k + 1) n = preM [(((k + 1 : Nat) : Int), 64 * n + 8 * idxM va ((k + 1 : Nat) : Int), rdV zs (64 * n + 8 * idxM va ((k + 1 : Nat) : Int)) 8)] (fromM zs va k (ppnM (rdV zs (64 * n + 8 * idxM va ((k + 1 : Nat) : Int)) 8))) := by
  rw [fromM, if_neg (by rw [h]; simp), if_neg (by rw [hk]; decide), if_neg (by rw [hk]; decide)]
  rfl

theorem preM_pre (a b : List RecM) (r : Int × Int × Int × List RecM) : preM a (preM b r) = preM (a ++ b) r := by
  simp [preM]

/-- What walkFrom answers, in memory. -/
def FromAt (base : Nat) (w' : World) (e : Ending) (r : Int × Int × Int × List RecM) : Prop :=
  ∃ ra rc, e = .returned (.tuple #[.agg #[.int .i64 r.2.1, .int .u64 r.2.2.1, .slice ra r.2.2.2.length rc], faultV r.1]) ∧ w'.ownsRow base 161 3 (.slice ra r.2.2.2.length rc) r.2.2.2.length (recsC r.2.2.2)

/-- The number in the first cell of a block. -/
def numAt (w : World) (p : Nat) : Nat := match w.cell? ⟨p, 0, none⟩ with
  | some v => (intOf v).toNat
  | none => 0

theorem method_entryAt (a : Option Addr) (len cap : Nat) (w : World) : (method 311 86 (.slice a len cap) "loop.example/s0051/impl.entryAt").run Try.prog w = .ok (174, .slice a len cap) w := by kernel_rfl

/-- A source of entries: an interface value whose entryAt reads the bytes zs, as long as nothing that is there now changes. -/
def SrcAt (w : World) (sv : Value) (zs : List Int) : Prop :=
  ∃ d x a len cap, sv = .iface d x ∧ (∀ u, Below w.heap.size w u → (method 311 d x "loop.example/s0051/impl.entryAt").run Try.prog u = .ok (174, .slice a len cap) u) ∧ Byt w a len zs ∧ len ≤ 1048576

theorem SrcAt.keep {w w' : World} {sv : Value} {zs : List Int} (h : SrcAt w sv zs) (hb : Below w.heap.size w w') : SrcAt w' sv zs := by
  obtain ⟨d, x, a, len, cap, rfl, hm, hB, hl⟩ := h
  exact ⟨d, x, a, len, cap, rfl, fun u hu => hm u (Below.step hb hu (Nat.le_refl _)), hB.keep hb, hl⟩

theorem SrcAt.bd {w : World} {sv : Value} {zs : List Int} (h : SrcAt w sv zs) : ∀ i : Nat, 0 ≤ zs[i]?.getD 0 ∧ zs[i]?.getD 0 ≤ 255 := by
  obtain ⟨d, x, a, len, cap, rfl, hm, hB, hl⟩ := h
  exact hB.2.1

theorem src_mem {w : World} {a : Option Addr} {len : Nat} {zs : List Int} (cap : Nat) (hB : Byt w a len zs) (hlen : len ≤ 1048576) : SrcAt w (.iface 86 (.slice a len cap)) zs :=
  ⟨_, _, a, len, cap, rfl, fun u _ => method_entryAt a len cap u, hB, hlen⟩

theorem recsC_append : ∀ a b : List RecM, recsC (a ++ b) = recsC a ++ recsC b
  | [], b => rfl
  | r :: a, b => by simp [recsC, recsC_append a b]

set_option maxRecDepth 20000 in
set_option maxHeartbeats 1600000 in
theorem walkFrom_any (sv : Value) (zs : List Int) (va n : Int) (l : Nat) (w : World) (hB : SrcAt w sv zs) (hl : l ≤ 2) (hv0 : 0 ≤ va) (hv1 : va ≤ 18446744073709551615) (hn0 : 0 ≤ n) (hn1 : n < 17592186044416) :
    Calls Try.prog 124 #[sv, .int .u64 n, .int .i64 l, .int .u64 va] w fun e w' => FromAt w.heap.size w' e (fromM zs va l n) ∧ Below w.heap.size w w' := by
  obtain ⟨dT, xS, a, len, cap, rfl, hm, hB, hlen⟩ := hB
  have hz := hB.1
  have hzb := hB.2.1
  have HB : Hid (Byt w a len zs) := hB
  have HMt : Hid _ := hm
  obtain ⟨X, hX⟩ : ∃ X, fromM zs va l n = X := ⟨_, rfl⟩
  have HX : Hid (X = preM [] (fromM zs va l n)) := by show _ = _; rw [← hX]; rfl
  rw [hX]
  clear hX hB hm
  have s0 : Hid (((w.alloc (Obj.cells #[.int .i64 0, .int .u64 0, .slice none 0 0] 104)).alloc (Obj.cells #[.int .i64 l, .int .u64 0, .slice none 0 0] 104)).heap[w.heap.size + 1]? = some (.cells #[.int .i64 l, .int .u64 0, .slice none 0 0] 104 (0, 0))) := by
    have := heap_alloc_new (w.alloc (Obj.cells #[.int .i64 0, .int .u64 0, .slice none 0 0] 104)) (Obj.cells #[.int .i64 l, .int .u64 0, .slice none 0 0] 104)
    simp only [World.size_alloc] at this
    exact this
  have r0 : Hid (((w.alloc (Obj.cells #[.int .i64 0, .int .u64 0, .slice none 0 0] 104)).alloc (Obj.cells #[.int .i64 l, .int .u64 0, .slice none 0 0] 104)).heap[w.heap.size]? = some (.cells #[.int .i64 0, .int .u64 0, .slice none 0 0] 104 (0, 0))) := by
    show _ = _
    rw [heap_alloc_old _ _ (by simp)]
    exact heap_alloc_new w _
  have b0 : Below w.heap.size w ((w.alloc (Obj.cells #[.int .i64 0, .int .u64 0, .slice none 0 0] 104)).alloc (Obj.cells #[.int .i64 l, .int .u64 0, .slice none 0 0] 104)) := ((Below.refl w.heap.size w).alloc (Nat.le_refl _) _).alloc (by simp) _
  go_enter Try.func124, Try.ntmps124
  go_wp2_with fail
  go_loopw [1] (fun tt wr => ∃ (k : Nat) (n' : Int) (ra : Option Addr) (rc : Nat) (acc : List RecM), k ≤ l ∧ tt = .int .u64 n' ∧ 0 ≤ n' ∧ n' < 17592186044416 ∧ acc.length + k ≤ 2 ∧ wr.heap[w.heap.size + 1]? = some (.cells #[.int .i64 k, .int .u64 0, .slice ra acc.length rc] 104 (0, 0)) ∧
      wr.heap[w.heap.size]? = some (.cells #[.int .i64 0, .int .u64 0, .slice none 0 0] 104 (0, 0)) ∧ wr.ownsRow (w.heap.size + 2) 161 3 (.slice ra acc.length rc) acc.length (recsC acc) ∧ Hid (X = preM acc (fromM zs va k n')) ∧ Below w.heap.size w wr) (fun _ wr => numAt wr (w.heap.size + 1))
  case atStart => exact ⟨l, n, none, 0, [], Nat.le_refl _, rfl, hn0, hn1, by simpa using hl, s0.out, r0.out, World.ownsRow_nil _ _ _ _, HX, b0⟩
  case round =>
    clear s0 r0 b0 HX hn0 hn1
    obtain ⟨k, n', ra, rc, acc, hk, rfl, hn0, hn1, hac, hS, hR, hO, HX, hb⟩ := hrel
    have HS : Hid (wr.heap[w.heap.size + 1]? = some (.cells #[.int .i64 k, .int .u64 0, .slice ra acc.length rc] 104 (0, 0))) := hS
    have HR : Hid (wr.heap[w.heap.size]? = some (.cells #[.int .i64 0, .int .u64 0, .slice none 0 0] 104 (0, 0))) := hR
    have HO : Hid (wr.ownsRow (w.heap.size + 2) 161 3 (.slice ra acc.length rc) acc.length (recsC acc)) := hO
    have hlt : w.heap.size + 1 < wr.heap.size := (Array.getElem?_eq_some_iff.1 hS).1
    have HM : Hid (numAt wr (w.heap.size + 1) = k) := by
      show _ = _
      rw [numAt, (three_cells hS).1.1]
      rfl
    obtain ⟨⟨c0, c1, c2⟩, e0, e1, e2⟩ := three_cells hS
    clear hS hR hO
    obtain ⟨ix, hix⟩ : ∃ ix, idxM va (k : Int) = ix := ⟨_, rfl⟩
    have hib := idxM_bd va (k : Int)
    rw [hix] at hib
    obtain ⟨rv, hrv⟩ : ∃ rv, rdV zs (64 * n' + 8 * ix) 8 = rv := ⟨_, rfl⟩
    have hrb := rdV_bd zs (64 * n' + 8 * ix) 8 (by omega) hzb
    rw [hrv] at hrb
    have HI : Hid (idxM va (k : Int) = ix) := hix
    have HV : Hid (rdV zs (64 * n' + 8 * ix) 8 = rv) := hrv
    clear hix hrv
    go_wp2_with fail
    refine (entryAddr_at n' k va wr hv0 hv1 (by omega) hn0 hn1).mono ?_
    rintro e w' ⟨rfl, nq, rfl⟩
    rw [HI.out]
    have HS1 : Hid ((wr.drewN nq).heap[w.heap.size + 1]? = some (.cells #[.int .i64 k, .int .u64 0, .slice ra acc.length rc] 104 (0, 0))) := HS
    have HR1 : Hid ((wr.drewN nq).heap[w.heap.size]? = some (.cells #[.int .i64 0, .int .u64 0, .slice none 0 0] 104 (0, 0))) := HR
    have HO1 : Hid ((wr.drewN nq).ownsRow (w.heap.size + 2) 161 3 (.slice ra acc.length rc) acc.length (recsC acc)) := HO
    have hlt1 : w.heap.size + 1 < (wr.drewN nq).heap.size := hlt
    have hb1 : Below w.heap.size w (wr.drewN nq) := below_drewN hb nq
    generalize wr.drewN nq = v1 at HS1 HR1 HO1 hlt1 hb1 ⊢
    clear c0 c1 c2 e0 e1 e2 HS HR HO hlt hb
    obtain ⟨⟨c0, c1, c2⟩, e0, e1, e2⟩ := three_cells HS1.out
    obtain ⟨⟨d0, d1, d2⟩, f0, f1, f2⟩ := three_cells HR1.out
    have hm := HMt.out v1 hb1
    cases hg : goodB len (64 * n' + 8 * ix) 8
    · have HG : Hid (goodB len (64 * n' + 8 * ix) 8 = false) := hg
      clear hg
      go_wp2_with fail
      refine (entryAt_out a len cap (64 * n' + 8 * ix) v1 hlen (by omega) (by omega) HG.out).mono ?_
      rintro e w' ⟨rfl, rfl⟩
      go_wp2_with fail
      have hX : X = (3, (k : Int), 0, acc) := by
        rw [HX.out, fromM_out zs va k n' (by rw [hz, HI.out]; exact HG.out)]; simp [preM]
      refine bodyPost_ret (v := .tuple #[.agg #[.int .i64 k, .int .u64 0, .slice ra acc.length rc], .iface 158 (.agg #[])]) (by simp [results, Try.results124, go_sem, d0, d1, d2]) rfl ?_
      rw [hX]
      exact ⟨⟨ra, rc, rfl, own_low (own_gb HO1.out (gb3 _ w.heap.size _ _ _) (by omega)) (by omega)⟩, bel3 hb1 (Nat.le_refl _) _ _ _⟩
    · have HG : Hid (goodB len (64 * n' + 8 * ix) 8 = true) := hg
      clear hg
      go_wp2_with fail
      refine (entryAt_in a len cap zs (64 * n' + 8 * ix) v1 (HB.out.keep hb1) hlen (by omega) (by omega) HG.out).mono ?_
      rintro e w' ⟨rfl, rfl⟩
      rw [HV.out]
      rcases kindM_012 rv (k : Int) with hkd | hkd | hkd
      · have HK : Hid (kindM rv (k : Int) = 0) := hkd
        clear hkd
        go_wp2_with fail
        refine (kind_at rv k _ hrb.1 hrb.2).mono ?_
        rintro e w' ⟨rfl, rfl⟩
        rw [HK.out]
        go_wp2_with fail
        have hX : X = (2, (k : Int), 0, acc) := by
          rw [HX.out, fromM_bad zs va k n' (by rw [hz, HI.out]; exact HG.out) (by rw [HI.out, HV.out]; exact HK.out)]; simp [preM]
        refine bodyPost_ret (v := .tuple #[.agg #[.int .i64 k, .int .u64 0, .slice ra acc.length rc], .iface 156 (.agg #[])]) (by simp [results, Try.results124, go_sem, d0, d1, d2]) rfl ?_
        rw [hX]
        exact ⟨⟨ra, rc, rfl, own_low (own_gb HO1.out (gb3 _ w.heap.size _ _ _) (by omega)) (by omega)⟩, bel3 hb1 (Nat.le_refl _) _ _ _⟩
      · have HK : Hid (kindM rv (k : Int) = 1) := hkd
        clear hkd
        go_wp2_with fail
        refine (kind_at rv k _ hrb.1 hrb.2).mono ?_
        rintro e v3 ⟨rfl, rfl⟩
        rw [HK.out]
        have n4 := (Below.refl v3.heap.size v3).alloc (Nat.le_refl _) (Obj.cells #[.int .i64 k, .int .u64 (64 * n' + 8 * ix), .int .u64 rv] 161)
        have HS4 : Hid ((v3.alloc (Obj.cells #[.int .i64 k, .int .u64 (64 * n' + 8 * ix), .int .u64 rv] 161)).heap[w.heap.size + 1]? = some (.cells #[.int .i64 k, .int .u64 0, .slice ra acc.length rc] 104 (0, 0))) := heap_keep HS1.out n4 hlt1
        have HR4 : Hid ((v3.alloc (Obj.cells #[.int .i64 k, .int .u64 (64 * n' + 8 * ix), .int .u64 rv] 161)).heap[w.heap.size]? = some (.cells #[.int .i64 0, .int .u64 0, .slice none 0 0] 104 (0, 0))) := heap_keep HR1.out n4 (by omega)
        have HO4 : Hid ((v3.alloc (Obj.cells #[.int .i64 k, .int .u64 (64 * n' + 8 * ix), .int .u64 rv] 161)).ownsRow (w.heap.size + 2) 161 3 (.slice ra acc.length rc) acc.length (recsC acc)) := own_below HO1.out n4
        have HW4 : Hid (RowC (v3.alloc (Obj.cells #[.int .i64 k, .int .u64 (64 * n' + 8 * ix), .int .u64 rv] 161)) (some ⟨v3.heap.size, 0, none⟩) 1 3 (recsC [((k : Int), 64 * n' + 8 * ix, rv)])) := (OwnC.new 161 3 v3 (recsC [((k : Int), 64 * n' + 8 * ix, rv)]) 1 (by rfl) (by decide)).row
        have l4 : v3.heap.size < (v3.alloc (Obj.cells #[.int .i64 k, .int .u64 (64 * n' + 8 * ix), .int .u64 rv] 161)).heap.size := by simp
        have b4 : Below w.heap.size w (v3.alloc (Obj.cells #[.int .i64 k, .int .u64 (64 * n' + 8 * ix), .int .u64 rv] 161)) := hb1.alloc (by omega) _
        go_wp2_with (at_builtin; refine append_v _ rfl (.tmp 43) (.tmp 49) 40 rfl 161 Try.underlying40 (.agg #[.int .i64 0, .int .u64 0, .int .u64 0]) 3 24 Try.infoRec rfl (by decide) (w.heap.size + 2) acc.length _ (recsC acc) rfl HO4.out v3.heap.size 0 1 1 (recsC [((k : Int), 64 * n' + 8 * ix, rv)]) rfl (by omega) HW4.out (recsC_one _) (by omega) (by omega) (by omega) (w.heap.size + 2) _ (Below.refl _ _) (Nat.le_refl _) ?_; intro g5 cp5 v5 o5 n5; have HO5 : Hid (v5.ownsRow (w.heap.size + 2) 161 3 (.slice (some ⟨g5, 0, none⟩) (acc.length + 1) cp5) (acc.length + 1) (recsC acc ++ recsC [((k : Int), 64 * n' + 8 * ix, rv)])) := o5; have HS5 : Hid (v5.heap[w.heap.size + 1]? = some (.cells #[.int .i64 k, .int .u64 0, .slice ra acc.length rc] 104 (0, 0))) := (n5.block _ (by omega)).trans HS4.out; have HR5 : Hid (v5.heap[w.heap.size]? = some (.cells #[.int .i64 0, .int .u64 0, .slice none 0 0] 104 (0, 0))) := (n5.block _ (by omega)).trans HR4.out; have b5 : Below w.heap.size w v5 := b4.trans (n5.mono (by omega)); have l5 := n5.size; clear c0 c1 c2 e0 e1 e2 d0 d1 d2 f0 f1 f2 o5; obtain ⟨⟨c0, c1, c2⟩, e0, e1, e2⟩ := three_cells HS5.out; obtain ⟨⟨d0, d1, d2⟩, f0, f1, f2⟩ := three_cells HR5.out; clear n5 n4 HS4 HR4 HO4 HW4 b4 HS1 HR1 HO1)
        have HS6 : Hid ((v5.setCell ⟨w.heap.size + 1, 2, none⟩ (.slice (some ⟨g5, 0, none⟩) (acc.length + 1) cp5)).heap[w.heap.size + 1]? = some (.cells #[.int .i64 k, .int .u64 0, .slice (some ⟨g5, 0, none⟩) (acc.length + 1) cp5] 104 (0, 0))) := tset2 HS5.out
        have m6 := gb_set (gb_refl v5 (some (w.heap.size + 1))) 2 (.slice (some ⟨g5, 0, none⟩) (acc.length + 1) cp5)
        have HR6 : Hid ((v5.setCell ⟨w.heap.size + 1, 2, none⟩ (.slice (some ⟨g5, 0, none⟩) (acc.length + 1) cp5)).heap[w.heap.size]? = some (.cells #[.int .i64 0, .int .u64 0, .slice none 0 0] 104 (0, 0))) := heap_gb HR5.out m6 (by omega)
        have HO6 : Hid ((v5.setCell ⟨w.heap.size + 1, 2, none⟩ (.slice (some ⟨g5, 0, none⟩) (acc.length + 1) cp5)).ownsRow (w.heap.size + 2) 161 3 (.slice (some ⟨g5, 0, none⟩) (acc.length + 1) cp5) (acc.length + 1) (recsC acc ++ recsC [((k : Int), 64 * n' + 8 * ix, rv)])) := own_gb HO5.out m6 (by omega)
        have b6 := b5.setCell (p := ⟨w.heap.size + 1, 2, none⟩) (by show w.heap.size ≤ w.heap.size + 1; omega) (.slice (some ⟨g5, 0, none⟩) (acc.length + 1) cp5)
        refine (ppn_at rv _ hrb.1 hrb.2).mono ?_
        rintro e w' ⟨rfl, rfl⟩
        generalize v5.setCell ⟨w.heap.size + 1, 2, none⟩ (.slice (some ⟨g5, 0, none⟩) (acc.length + 1) cp5) = v6 at HS6 HR6 HO6 b6 ⊢
        clear c0 c1 c2 e0 e1 e2 d0 d1 d2 f0 f1 f2 m6 HS5 HR5 HO5 b5
        obtain ⟨⟨c0, c1, c2⟩, e0, e1, e2⟩ := three_cells HS6.out
        have hpb := ppnM_bd rv
        obtain ⟨pp, hpp⟩ : ∃ pp, ppnM rv = pp := ⟨_, rfl⟩
        have HP : Hid (ppnM rv = pp) := hpp
        rw [hpp] at hpb ⊢
        clear hpp
        obtain ⟨k', rfl⟩ : ∃ k', k = k' + 1 := by
          cases k with
          | zero => exact absurd HK.out (kindM_zero _)
          | succ k' => exact ⟨k', rfl⟩
        go_wp2_with fail
        go_roundw
        case rel =>
          refine ⟨k', pp, some ⟨g5, 0, none⟩, cp5, acc ++ [(((k' + 1 : Nat) : Int), 64 * n' + 8 * ix, rv)], by omega, rfl, hpb.1, hpb.2, by simp; omega, ?_, ?_, ?_, ?_, ?_⟩
          · rw [show (acc ++ [(((k' + 1 : Nat) : Int), 64 * n' + 8 * ix, rv)]).length = acc.length + 1 by simp, show ((k' : Nat) : Int) = ((k' + 1 : Nat) : Int) - 1 by omega]
            exact tset0 HS6.out
          · exact heap_gb HR6.out (gb_set (gb_refl v6 (some (w.heap.size + 1))) 0 _) (by omega)
          · rw [show (acc ++ [(((k' + 1 : Nat) : Int), 64 * n' + 8 * ix, rv)]).length = acc.length + 1 by simp, recsC_append]
            exact own_gb HO6.out (gb_set (gb_refl v6 (some (w.heap.size + 1))) 0 _) (by omega)
          · show _ = _
            rw [HX.out, fromM_next zs va k' n' (by rw [hz, HI.out]; exact HG.out) (by rw [HI.out, HV.out]; exact HK.out), preM_pre, HI.out, HV.out, HP.out]
          · exact b6.setCell (p := ⟨w.heap.size + 1, 0, none⟩) (by show w.heap.size ≤ w.heap.size + 1; omega) _
        case measure =>
          rw [HM.out, numAt, (three_cells (tset0 HS6.out)).1.1]
          simp [intOf]
      · have HK : Hid (kindM rv (k : Int) = 2) := hkd
        clear hkd
        go_wp2_with fail
        refine (kind_at rv k _ hrb.1 hrb.2).mono ?_
        rintro e v3 ⟨rfl, rfl⟩
        rw [HK.out]
        have n4 := (Below.refl v3.heap.size v3).alloc (Nat.le_refl _) (Obj.cells #[.int .i64 k, .int .u64 (64 * n' + 8 * ix), .int .u64 rv] 161)
        have HS4 : Hid ((v3.alloc (Obj.cells #[.int .i64 k, .int .u64 (64 * n' + 8 * ix), .int .u64 rv] 161)).heap[w.heap.size + 1]? = some (.cells #[.int .i64 k, .int .u64 0, .slice ra acc.length rc] 104 (0, 0))) := heap_keep HS1.out n4 hlt1
        have HR4 : Hid ((v3.alloc (Obj.cells #[.int .i64 k, .int .u64 (64 * n' + 8 * ix), .int .u64 rv] 161)).heap[w.heap.size]? = some (.cells #[.int .i64 0, .int .u64 0, .slice none 0 0] 104 (0, 0))) := heap_keep HR1.out n4 (by omega)
        have HO4 : Hid ((v3.alloc (Obj.cells #[.int .i64 k, .int .u64 (64 * n' + 8 * ix), .int .u64 rv] 161)).ownsRow (w.heap.size + 2) 161 3 (.slice ra acc.length rc) acc.length (recsC acc)) := own_below HO1.out n4
        have HW4 : Hid (RowC (v3.alloc (Obj.cells #[.int .i64 k, .int .u64 (64 * n' + 8 * ix), .int .u64 rv] 161)) (some ⟨v3.heap.size, 0, none⟩) 1 3 (recsC [((k : Int), 64 * n' + 8 * ix, rv)])) := (OwnC.new 161 3 v3 (recsC [((k : Int), 64 * n' + 8 * ix, rv)]) 1 (by rfl) (by decide)).row
        have l4 : v3.heap.size < (v3.alloc (Obj.cells #[.int .i64 k, .int .u64 (64 * n' + 8 * ix), .int .u64 rv] 161)).heap.size := by simp
        have b4 : Below w.heap.size w (v3.alloc (Obj.cells #[.int .i64 k, .int .u64 (64 * n' + 8 * ix), .int .u64 rv] 161)) := hb1.alloc (by omega) _
        go_wp2_with (at_builtin; refine append_v _ rfl (.tmp 43) (.tmp 49) 40 rfl 161 Try.underlying40 (.agg #[.int .i64 0, .int .u64 0, .int .u64 0]) 3 24 Try.infoRec rfl (by decide) (w.heap.size + 2) acc.length _ (recsC acc) rfl HO4.out v3.heap.size 0 1 1 (recsC [((k : Int), 64 * n' + 8 * ix, rv)]) rfl (by omega) HW4.out (recsC_one _) (by omega) (by omega) (by omega) (w.heap.size + 2) _ (Below.refl _ _) (Nat.le_refl _) ?_; intro g5 cp5 v5 o5 n5; have HO5 : Hid (v5.ownsRow (w.heap.size + 2) 161 3 (.slice (some ⟨g5, 0, none⟩) (acc.length + 1) cp5) (acc.length + 1) (recsC acc ++ recsC [((k : Int), 64 * n' + 8 * ix, rv)])) := o5; have HS5 : Hid (v5.heap[w.heap.size + 1]? = some (.cells #[.int .i64 k, .int .u64 0, .slice ra acc.length rc] 104 (0, 0))) := (n5.block _ (by omega)).trans HS4.out; have HR5 : Hid (v5.heap[w.heap.size]? = some (.cells #[.int .i64 0, .int .u64 0, .slice none 0 0] 104 (0, 0))) := (n5.block _ (by omega)).trans HR4.out; have b5 : Below w.heap.size w v5 := b4.trans (n5.mono (by omega)); have l5 := n5.size; clear c0 c1 c2 e0 e1 e2 d0 d1 d2 f0 f1 f2 o5; obtain ⟨⟨c0, c1, c2⟩, e0, e1, e2⟩ := three_cells HS5.out; obtain ⟨⟨d0, d1, d2⟩, f0, f1, f2⟩ := three_cells HR5.out; clear n5 n4 HS4 HR4 HO4 HW4 b4 HS1 HR1 HO1)
        have hX : X = (1, (k : Int), rv, acc ++ [((k : Int), 64 * n' + 8 * ix, rv)]) := by
          rw [HX.out, fromM_leaf zs va k n' (by rw [hz, HI.out]; exact HG.out) (by rw [HI.out, HV.out]; exact HK.out), HI.out, HV.out]
          rfl
        refine bodyPost_ret (v := .tuple #[.agg #[.int .i64 k, .int .u64 rv, .slice (some ⟨g5, 0, none⟩) (acc.length + 1) cp5], .nilIface]) (by simp [results, Try.results124, go_sem, d0, d1, d2]) rfl ?_
        rw [hX]
        refine ⟨⟨some ⟨g5, 0, none⟩, cp5, ?_, ?_⟩, bel3 ((b5.setCell (p := ⟨w.heap.size + 1, 2, none⟩) (by show w.heap.size ≤ w.heap.size + 1; omega) _).setCell (p := ⟨w.heap.size + 1, 1, none⟩) (by show w.heap.size ≤ w.heap.size + 1; omega) _) (Nat.le_refl _) _ _ _⟩
        · simp [faultV]
        · rw [show (acc ++ [((k : Int), 64 * n' + 8 * ix, rv)]).length = acc.length + 1 by simp, recsC_append]
          exact own_low (own_gb (own_gb HO5.out (gb_set (gb_set (gb_refl v5 (some (w.heap.size + 1))) 2 _) 1 _) (by omega)) (gb3 _ w.heap.size _ _ _) (by omega)) (by omega)

end Go.Proofs.Ythekickjjaleaab
