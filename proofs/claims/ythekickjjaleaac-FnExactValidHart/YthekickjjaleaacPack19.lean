import Derived.BigRegion
import Derived.Deep.Cut
import Derived.Deep.DeepCutAuto
import Derived.Test.YthekickjjaleaacPack18
import Derived.Test.YthekickjjaleaacPack04
import Derived.Test.YthekickjjaleaacPack15
/- The program's cacheOf, for one kind of cache. Written by mk4.py. -/
namespace Go.Proofs.Ythekickjjaleaac
open Go.RowKit
set_option linter.unusedVariables false
attribute [local go_sem ↓] Go.wp_at_zero Go.wp_at_succ

theorem Try.infoSlotL : (Try.prog.info? 120).map (fun i => (i.zero, i.size, i.bytes)) = some (some (.agg #[.int .i64 0, .int .u64 0, .int .u64 0, .bool false, .bool false, .int .u64 0]), 6, 48) := by kernel_rfl

/-- What cacheOf answers where the cache is valid: its slots in a row of one's own. -/
def CacheOwnL (base : Nat) (w : World) (e : Ending) (t : TlbM) : Prop :=
  ∃ g, e = .returned (.tuple #[.agg #[.int .i64 t.sets, .int .i64 t.ways, .slice (some ⟨g, 0, none⟩) t.es.length t.es.length], .bool true]) ∧ w.ownsRow base 120 6 (.slice (some ⟨g, 0, none⟩) t.es.length t.es.length) t.es.length (slotsC t.es)

theorem makeL (n : Nat) (hn : n ≤ 1048576) : ∃ cs : Array Value, cs.toList = slotsC (List.replicate n ent0) ∧ ∀ u : World, (Instr.makeSlice 77 (.int .i64 (n : Int)) (.int .i64 (n : Int))).run Try.prog u = .ok (.slice (some ⟨u.heap.size, 0, none⟩) n n) (u.alloc (.cells cs 120)) := by
  obtain ⟨i0, hi, hz0, hz1, hz2⟩ := info_parts Try.infoSlotL
  refine ⟨madeCells (Value.agg #[.int .i64 0, .int .u64 0, .int .u64 0, .bool false, .bool false, .int .u64 0]).cells (n * 6), ?_, fun u => ?_⟩
  · exact made_rep ent0 n
  · have := run_make (P := Try.prog) u 77 120 i0 _ Try.underlying77 hi hz0 .i64 .i64 n n (by omega) (Int.le_refl _) (by rw [hz2]; omega) (by omega)
    rw [hz1] at this
    simpa using this

set_option maxRecDepth 20000 in
set_option maxHeartbeats 3200000 in
theorem cacheOfL_any (v : Value) (t : TlbM) (w : World) (h : TlbAt w v t) :
    Calls Try.prog 60 #[v] w fun e w' => cond (validM t false) (CacheOwnL w.heap.size w' e t) (e = .returned (.tuple #[.agg #[.int .i64 0, .int .i64 0, .slice none 0 0], .bool false])) ∧ Below w.heap.size w w' := by
  obtain ⟨a, cap, rfl, hr, he, hs, hw, hl, hlc, hcm, hnil, hsp⟩ := h
  obtain ⟨sets, ways, es⟩ := t
  obtain ⟨n, hn⟩ : ∃ n, es.length = n := ⟨_, rfl⟩
  simp only at hr he hs hw hl hlc hnil ⊢
  have HN : Hid (es.length = n) := hn
  rw [hn] at hr hl hlc hnil ⊢
  have HR : Hid (RowC w a n 6 (entsC es)) := hr
  have HE : Hid (∀ e ∈ es, entOk e) := he
  obtain ⟨X, hX⟩ : ∃ X, validM ⟨sets, ways, es⟩ false = X := ⟨_, rfl⟩
  have HX : Hid (validM ⟨sets, ways, es⟩ false = X) := hX
  rw [hX]
  clear hX hr he hnil hsp hn
  have n1 := ((Below.refl w.heap.size w).alloc (Nat.le_refl _) (Obj.cells #[.int .i64 sets, .int .i64 ways, .slice a n cap] 27)).alloc (by simp) (Obj.cells #[.int .i64 0, .int .i64 0, .slice none 0 0] 79)
  have H1 : Hid (((w.alloc (Obj.cells #[.int .i64 sets, .int .i64 ways, .slice a n cap] 27)).alloc (Obj.cells #[.int .i64 0, .int .i64 0, .slice none 0 0] 79)).heap[w.heap.size]? = some (.cells #[.int .i64 sets, .int .i64 ways, .slice a n cap] 27 (0, 0))) := by
    show _ = _
    rw [heap_alloc_old _ _ (by simp)]
    exact heap_alloc_new w _
  have H2 : Hid (((w.alloc (Obj.cells #[.int .i64 sets, .int .i64 ways, .slice a n cap] 27)).alloc (Obj.cells #[.int .i64 0, .int .i64 0, .slice none 0 0] 79)).heap[w.heap.size + 1]? = some (.cells #[.int .i64 0, .int .i64 0, .slice none 0 0] 79 (0, 0))) := by
    have := heap_alloc_new (w.alloc (Obj.cells #[.int .i64 sets, .int .i64 ways, .slice a n cap] 27)) (Obj.cells #[.int .i64 0, .int .i64 0, .slice none 0 0] 79)
    simp only [World.size_alloc] at this
    exact this
  have l1 : w.heap.size + 1 < ((w.alloc (Obj.cells #[.int .i64 sets, .int .i64 ways, .slice a n cap] 27)).alloc (Obj.cells #[.int .i64 0, .int .i64 0, .slice none 0 0] 79)).heap.size := by simp
  obtain ⟨sb, hsb⟩ : ∃ sb, decide ((sets = 1 ∨ sets = 2 ∨ sets = 4 ∨ sets = 8) ∧ 1 ≤ ways ∧ ways ≤ 4 ∧ (n : Int) = sets * ways) = sb := ⟨_, rfl⟩
  have HSb : Hid (decide ((sets = 1 ∨ sets = 2 ∨ sets = 4 ∨ sets = 8) ∧ 1 ≤ ways ∧ ways ≤ 4 ∧ (n : Int) = sets * ways) = sb) := hsb
  have HSM : Hid (shapeM ⟨sets, ways, es⟩ = sb) := by show _ = _; unfold shapeM; simp only; rw [HN.out]; exact hsb
  clear hsb
  go_enter Try.func60, Try.ntmps60
  go_wp2_with fail
  generalize ((w.alloc (Obj.cells #[.int .i64 sets, .int .i64 ways, .slice a n cap] 27)).alloc (Obj.cells #[.int .i64 0, .int .i64 0, .slice none 0 0] 79)) = v1 at n1 H1 H2 l1 ⊢
  refine (knownShape_any sets ways a n cap v1 hl hs hw).mono ?_
  rw [HSb.out]
  rintro e v2 ⟨rfl, n2⟩
  have A2 := Below.step n1 n2 (Nat.le_refl _)
  have K1 := hid_keep H1 n2
  have K2 := hid_keep H2 n2
  have l2 : w.heap.size + 1 < v2.heap.size := Nat.lt_of_lt_of_le l1 n2.size
  clear n1 n2 H1 H2 l1
  obtain ⟨⟨c0, c1, c2⟩, _, _, _⟩ := three_cells K1.out
  obtain ⟨⟨d0, d1, d2⟩, e0, e1, e2⟩ := three_cells K2.out
  cases sb
  · have hxf : X = false := by rw [← HX.out]; unfold validM; rw [HSM.out]; rfl
    subst hxf
    go_wp2_with fail
    exact bodyPost_ret (v := .tuple #[.agg #[.int .i64 0, .int .i64 0, .slice none 0 0], .bool false]) (by simp [results, Try.results60, go_sem, d0, d1, d2]) rfl ⟨rfl, bel3 A2 (by omega) _ _ _⟩
  · have hsh : (sets = 1 ∨ sets = 2 ∨ sets = 4 ∨ sets = 8) ∧ 1 ≤ ways ∧ ways ≤ 4 ∧ (n : Int) = sets * ways := by simpa using HSb.out
    obtain ⟨hs4, hw1, hw4, hnw⟩ := hsh
    have hn0 : 0 < n := by
      have : 0 < sets * ways := Int.mul_pos (by omega) (by omega)
      omega
    obtain ⟨cs, hcs, hmk⟩ := makeL n hl
    have HCS : Hid (cs.toList = slotsC (List.replicate n ent0)) := hcs
    clear hcs HSb
    have HNw : Hid ((n : Int) = sets * ways) := hnw
    clear hnw
    have ne1 : v2.heap.size ≠ w.heap.size := by omega
    have ne2 : v2.heap.size ≠ w.heap.size + 1 := by omega
    have ne3 : w.heap.size < v2.heap.size := by omega
    have ne4 : w.heap.size ≠ v2.heap.size := by omega
    have ne5 : w.heap.size ≠ v2.heap.size + 1 := by omega
    go_wp2_with fail
    go_cut [4] (fun s4 wx => ∃ cb g, s4 = .pointer (some ⟨cb, 0, none⟩) ∧ v2.heap.size ≤ cb ∧ cb < wx.heap.size ∧ cb ≠ g ∧ wx.heap[cb]? = some (.cells #[.int .i64 sets, .int .i64 ways, .slice (some ⟨g, 0, none⟩) n n] 79 (0, 0)) ∧ wx.ownsRow v2.heap.size 120 6 (.slice (some ⟨g, 0, none⟩) n n) n (slotsC (List.replicate n ent0)) ∧ Below v2.heap.size v2 wx)
    case first =>
      go_region
      · go_wp2_with fail
        go_meet
        obtain ⟨q1, q2, q3, q4⟩ := two_new1 v2 79 120 #[.int .i64 sets, .int .i64 ways, .slice (some ⟨v2.heap.size, 0, none⟩) n n] cs _ n HCS.out (by rw [slotsC_len]; simp) (by unfold maxLen; omega)
        exact ⟨_, _, rfl, by omega, q4, by omega, q1, q2, q3⟩
      · go_wp2_with fail
        go_meet
        obtain ⟨q1, q2, q3, q4⟩ := two_new2 v2 79 120 #[.int .i64 sets, .int .i64 ways, .slice (some ⟨v2.heap.size + 1, 0, none⟩) n n] cs _ n HCS.out (by rw [slotsC_len]; simp) (by unfold maxLen; omega)
        exact ⟨_, _, rfl, Nat.le_refl _, q4, by omega, q1, q2, q3⟩
    case rest =>
      obtain ⟨cb, g, rfl, hcb, hcl, hcg, hC, hO, hbl⟩ := hcut
      have HC : Hid (wc.heap[cb]? = some (.cells #[.int .i64 sets, .int .i64 ways, .slice (some ⟨g, 0, none⟩) n n] 79 (0, 0))) := hC
      have HO : Hid (wc.ownsRow v2.heap.size 120 6 (.slice (some ⟨g, 0, none⟩) n n) n (slotsC (List.replicate n ent0))) := hO
      have hgg := own_at hO
      obtain ⟨_, hg1, hg2⟩ := hgg
      simp only at hg1 hg2
      clear hC hO c0 c1 c2 d0 d1 d2 e0 e1 e2
      have L1 := hid_keep K1 hbl
      obtain ⟨⟨c0, c1, c2⟩, _, _, _⟩ := three_cells L1.out
      go_wp2_with fail
      go_loopw [25] (fun i wr => ∃ k : Nat, k ≤ n ∧ i = .int .i64 k ∧ wr.heap[cb]? = some (.cells #[.int .i64 sets, .int .i64 ways, .slice (some ⟨g, 0, none⟩) n n] 79 (0, 0)) ∧ wr.ownsRow v2.heap.size 120 6 (.slice (some ⟨g, 0, none⟩) n n) n (slotsC (firstN k n es)) ∧ Below v2.heap.size v2 wr ∧ Hid (∀ j x, j < k → es[j]? = some x → placeM ⟨sets, ways, es⟩ false j x = true)) (fun i _ => n - (intOf i).toNat)
      case atStart => exact ⟨0, Nat.zero_le _, rfl, HC.out, by rw [firstN_start]; exact HO.out, hbl, fun j x hj => absurd hj (by omega)⟩
      case round =>
        obtain ⟨k, hk, rfl, hC, hO, hb, HA⟩ := hrel
        have PC : Hid (wr.heap[cb]? = some (.cells #[.int .i64 sets, .int .i64 ways, .slice (some ⟨g, 0, none⟩) n n] 79 (0, 0))) := hC
        have PO : Hid (wr.ownsRow v2.heap.size 120 6 (.slice (some ⟨g, 0, none⟩) n n) n (slotsC (firstN k n es))) := hO
        have lc : cb < wr.heap.size := (Array.getElem?_eq_some_iff.1 hC).1
        have lg : g < wr.heap.size := (own_at hO).2.2
        have A3 := Below.step A2 hb (Nat.le_refl _)
        have P1 := hid_keep K1 hb
        have P2 := hid_keep K2 hb
        clear hC hO c0 c1 c2
        by_cases hlt : k < n
        · obtain ⟨⟨vv, lv, tg, asd, gl, pt⟩, hx⟩ : ∃ x, es[k]? = some x := ⟨_, List.getElem?_eq_getElem (by rw [HN.out]; exact hlt)⟩
          obtain ⟨b, off, rfl, hbb⟩ : ∃ b off, a = some ⟨b, off, none⟩ ∧ b < w.heap.size := by
            rcases HR.out.2 with h | ⟨b, off, h, h2, _⟩
            · omega
            · exact ⟨b, off, h, h2⟩
          have CE : ∀ j u, j < 6 → (entC ⟨vv, lv, tg, asd, gl, pt⟩)[j]? = some u → wr.cell? ⟨b, off + (k * 6 + j), none⟩ = some u := fun j u hj hu => Below.cell2 A3 (row_cell HR.out HN.out k _ hx j u hj hu) hbb
          have g0 : wr.cell? ⟨b, off + k * 6, none⟩ = some (.bool vv) := CE 0 _ (by omega) rfl
          have g1 : wr.cell? ⟨b, off + k * 6 + 1, none⟩ = some (.int .i64 lv) := CE 1 _ (by omega) rfl
          have g2 : wr.cell? ⟨b, off + k * 6 + 2, none⟩ = some (.int .u64 tg) := CE 2 _ (by omega) rfl
          have g3 : wr.cell? ⟨b, off + k * 6 + 3, none⟩ = some (.int .u64 asd) := CE 3 _ (by omega) rfl
          have g4 : wr.cell? ⟨b, off + k * 6 + 4, none⟩ = some (.bool gl) := CE 4 _ (by omega) rfl
          have g5 : wr.cell? ⟨b, off + k * 6 + 5, none⟩ = some (.int .u64 pt) := CE 5 _ (by omega) rfl
          have hok : entOk ⟨vv, lv, tg, asd, gl, pt⟩ := HE.out _ (List.mem_of_getElem? hx)
          have HXk : Hid (es[k]? = some ⟨vv, lv, tg, asd, gl, pt⟩) := hx
          clear CE hx
          have HEq := ent_eq vv lv tg asd gl pt
          have n5 := (Below.refl wr.heap.size wr).alloc (Nat.le_refl _) (Obj.cells #[.bool vv, .int .i64 lv, .int .u64 tg, .int .u64 asd, .bool gl, .int .u64 pt] 91)
          obtain ⟨⟨c0, c1, c2⟩, _, _, _⟩ := three_cells P1.out
          obtain ⟨zb, hzb⟩ : ∃ zb, zeroB ⟨vv, lv, tg, asd, gl, pt⟩ = zb := ⟨_, rfl⟩
          rw [hzb] at HEq
          have HZb : Hid (zeroB ⟨vv, lv, tg, asd, gl, pt⟩ = zb) := hzb
          clear hzb
          have HPf : Hid (placeM ⟨sets, ways, es⟩ false k ⟨vv, lv, tg, asd, gl, pt⟩ = false → X = false) := fun h => by
            rw [← HX.out]; unfold validM; rw [HSM.out]; simp only [Bool.true_and]
            exact placesM_false _ false es 0 k _ HXk.out (by rw [Nat.zero_add]; exact h)
          have HPt : Hid (placeM ⟨sets, ways, es⟩ false k ⟨vv, lv, tg, asd, gl, pt⟩ = true → ∀ j x, j < k + 1 → es[j]? = some x → placeM ⟨sets, ways, es⟩ false j x = true) := fun h j x hj hx' => by
            by_cases e : j = k
            · subst e; rw [HXk.out] at hx'; cases hx'; exact h
            · exact HA.out j x (by omega) hx'
          cases zb
          · go_wp2_with fail
            generalize wr.alloc (Obj.cells #[.bool vv, .int .i64 lv, .int .u64 tg, .int .u64 asd, .bool gl, .int .u64 pt] 91) = v5 at n5 ⊢
            obtain ⟨gd, hgd⟩ : ∃ gd, goodEntM ⟨vv, lv, tg, asd, gl, pt⟩ false = gd := ⟨_, rfl⟩
            have HGd : Hid (goodEntM ⟨vv, lv, tg, asd, gl, pt⟩ false = gd) := hgd
            have HSl : Hid (∀ u, Calls Try.prog 70 #[.agg #[.bool vv, .int .i64 lv, .int .u64 tg, .int .u64 asd, .bool gl, .int .u64 pt]] u fun e w' => e = .returned (.tuple #[slotV (if gd = true then ⟨vv, lv, tg, asd, gl, pt⟩ else ent0), .bool gd]) ∧ Below u.heap.size u w') := fun u => by
              have := slotOfL_any ⟨vv, lv, tg, asd, gl, pt⟩ u hok
              rw [hgd] at this
              exact this
            clear hgd
            refine (HSl.out v5).mono ?_
            have hpl : placeM ⟨sets, ways, es⟩ false k ⟨vv, lv, tg, asd, gl, pt⟩ = (gd && (tg % sets == (k : Int) / ways)) := by
              have hz := HZb.out
              unfold zeroB at hz
              unfold placeM
              rw [HGd.out]
              simp only at hz ⊢
              rw [hz, Bool.false_or]
            have HPl : Hid _ := hpl
            clear hpl HSl
            cases gd
            · rintro e v6 ⟨rfl, n6⟩
              have hxf : X = false := HPf.out (by rw [HPl.out]; rfl)
              subst hxf
              simp only [slotV, ent0, Bool.false_eq_true, if_false]
              have n56 := Below.step n5 n6 (Nat.le_refl _)
              have Q2 := hid_keep P2 n56
              have l6 : wr.heap.size ≤ v6.heap.size := n56.size
              have n7 := (Below.refl v6.heap.size v6).alloc (Nat.le_refl _) (Obj.cells #[.int .i64 0, .int .u64 0, .int .u64 0, .bool false, .bool false, .int .u64 0] 120)
              have Q3 := hid_keep Q2 n7
              have A6 := Below.step A3 (Below.step n56 n7 (Nat.le_refl _)) (Nat.le_refl _)
              clear g0 g1 g2 g3 g4 g5 c0 c1 c2
              obtain ⟨⟨d0, d1, d2⟩, e0, e1, e2⟩ := three_cells Q2.out
              have m1 : w.heap.size + 1 < v6.heap.size := by omega
              have m2 : v6.heap.size ≠ w.heap.size + 1 := by omega
              go_wp2_with fail
              go_quiet (fail)
              go_wp2_with fail
              exact bodyPost_ret (v := .tuple #[.agg #[.int .i64 0, .int .i64 0, .slice none 0 0], .bool false]) (by simp [results, Try.results60, go_sem, d0, d1, d2, m1]) rfl ⟨rfl, bel3 (below_drewN A6 _) (by omega) _ _ _⟩
            · rintro e v6 ⟨rfl, n6⟩
              simp only [slotV, if_true]
              have n56 := Below.step n5 n6 (Nat.le_refl _)
              have Q1 := hid_keep P1 n56
              have Q2 := hid_keep P2 n56
              have QC := hid_keep PC n56
              have QO : Hid (v6.ownsRow v2.heap.size 120 6 (.slice (some ⟨g, 0, none⟩) n n) n (slotsC (firstN k n es))) := own_below PO.out n56
              have l6 : wr.heap.size ≤ v6.heap.size := n56.size
              clear g0 g1 g2 g3 g4 g5 c0 c1 c2
              have n7 := (Below.refl v6.heap.size v6).alloc (Nat.le_refl _) (Obj.cells #[.int .i64 lv, .int .u64 tg, .int .u64 asd, .bool gl, .bool vv, .int .u64 pt] 120)
              have RS : Hid ((v6.alloc (Obj.cells #[.int .i64 lv, .int .u64 tg, .int .u64 asd, .bool gl, .bool vv, .int .u64 pt] 120)).heap[v6.heap.size]? = some (.cells #[.int .i64 lv, .int .u64 tg, .int .u64 asd, .bool gl, .bool vv, .int .u64 pt] 120 (0, 0))) := heap_alloc_new v6 _
              have l7 : v6.heap.size < (v6.alloc (Obj.cells #[.int .i64 lv, .int .u64 tg, .int .u64 asd, .bool gl, .bool vv, .int .u64 pt] 120)).heap.size := by simp
              have R2 := hid_keep Q2 n7
              have RC := hid_keep QC n7
              have RO : Hid ((v6.alloc (Obj.cells #[.int .i64 lv, .int .u64 tg, .int .u64 asd, .bool gl, .bool vv, .int .u64 pt] 120)).ownsRow v2.heap.size 120 6 (.slice (some ⟨g, 0, none⟩) n n) n (slotsC (firstN k n es))) := own_below QO.out n7
              have n57 := Below.step n56 n7 (Nat.le_refl _)
              have A7 := Below.step A3 n57 (Nat.le_refl _)
              have B7 := Below.step hb n57 (Nat.le_refl _)
              have m1 : w.heap.size + 1 < v6.heap.size := by omega
              clear n5 n6 n56 n7 n57 Q1 Q2 QC QO
              go_wp2_with fail
              generalize v6.alloc (Obj.cells #[.int .i64 lv, .int .u64 tg, .int .u64 asd, .bool gl, .bool vv, .int .u64 pt] 120) = v7 at RS l7 R2 RC RO A7 B7 ⊢
              obtain ⟨⟨p0, p1, p2⟩, _, _, _⟩ := three_cells RC.out
              obtain ⟨⟨d0, d1, d2⟩, e0, e1, e2⟩ := three_cells R2.out
              obtain ⟨⟨s0, s1, s2, s3, s4, s5⟩, _⟩ := six_at RS.out
              obtain ⟨sx, hsx⟩ : ∃ sx, tg % sets = sx := ⟨_, rfl⟩
              have HSet : Hid (∀ q, Calls Try.prog 71 #[.pointer (some ⟨cb, 0, none⟩), .int .u64 tg] (v7.drewN q) fun e w' => e = .returned (.int .i64 sx) ∧ w' = v7.drewN q) := fun q => by
                have := setOfL_at cb 0 sets tg (v7.drewN q) hs4 p0 hok.2.1.1 hok.2.1.2
                rw [hsx] at this
                exact this
              have HPl2 : Hid (placeM ⟨sets, ways, es⟩ false k ⟨vv, lv, tg, asd, gl, pt⟩ = (sx == (k : Int) / ways)) := by
                show _ = _
                rw [HPl.out, hsx, Bool.true_and]
              clear hsx hok HPl
              have hdv : 0 ≤ (k : Int) / ways ∧ (k : Int) / ways ≤ k := ⟨Int.ediv_nonneg (by omega) (by omega), Int.ediv_le_self _ (by omega)⟩
              obtain ⟨qv, hqv⟩ : ∃ qv, (k : Int) / ways = qv := ⟨_, rfl⟩
              rw [hqv] at hdv HPl2
              have hwr : wrap64 ((k : Int) / ways) = qv := by rw [hqv]; unfold wrap64; omega
              clear hqv
              by_cases hne : sx = qv
              · subst hne
                go_quiet ((go_at_call 71; exact Calls.quiet_of_same (HSet.out _)))
                have SO : Hid ((v7.drewN nq).ownsRow v2.heap.size 120 6 (.slice (some ⟨g, 0, none⟩) n n) n (slotsC (firstN k n es))) := RO
                have SC : Hid ((v7.drewN nq).heap[cb]? = some (.cells #[.int .i64 sets, .int .i64 ways, .slice (some ⟨g, 0, none⟩) n n] 79 (0, 0))) := RC
                have SS : Hid ((v7.drewN nq).heap[v6.heap.size]? = some (.cells #[.int .i64 lv, .int .u64 tg, .int .u64 asd, .bool gl, .bool vv, .int .u64 pt] 120 (0, 0))) := RS
                have B8 : Below v2.heap.size v2 (v7.drewN nq) := below_drewN B7 nq
                generalize v7.drewN nq = v8 at SO SC SS B8 ⊢
                have hfl : (slotsC (firstN k n es)).length = n * 6 := by
                  have := HN.out
                  subst this
                  rw [slotsC_len, firstN_len _ _ (by omega)]
                have q0 := own_cell SO.out (k * 6) _ (List.getElem?_eq_getElem (by omega))
                have q1 := own_cell SO.out (k * 6 + 1) _ (List.getElem?_eq_getElem (by omega))
                have q2 := own_cell SO.out (k * 6 + 2) _ (List.getElem?_eq_getElem (by omega))
                have q3 := own_cell SO.out (k * 6 + 3) _ (List.getElem?_eq_getElem (by omega))
                have q4 := own_cell SO.out (k * 6 + 4) _ (List.getElem?_eq_getElem (by omega))
                have q5 := own_cell SO.out (k * 6 + 5) _ (List.getElem?_eq_getElem (by omega))
                generalize (slotsC (firstN k n es))[k * 6]'_ = y0 at q0
                generalize (slotsC (firstN k n es))[k * 6 + 1]'_ = y1 at q1
                generalize (slotsC (firstN k n es))[k * 6 + 2]'_ = y2 at q2
                generalize (slotsC (firstN k n es))[k * 6 + 3]'_ = y3 at q3
                generalize (slotsC (firstN k n es))[k * 6 + 4]'_ = y4 at q4
                generalize (slotsC (firstN k n es))[k * 6 + 5]'_ = y5 at q5
                have r0 := own_free SO.out (k * 6)
                have r1 := own_free SO.out (k * 6 + 1)
                have r2 := own_free SO.out (k * 6 + 2)
                have r3 := own_free SO.out (k * 6 + 3)
                have r4 := own_free SO.out (k * 6 + 4)
                have r5 := own_free SO.out (k * 6 + 5)
                clear p0 p1 p2 d0 d1 d2 e0 e1 e2 s0 s1 s2 s3 s4 s5
                obtain ⟨⟨p0, p1, p2⟩, _, _, _⟩ := three_cells SC.out
                obtain ⟨⟨s0, s1, s2, s3, s4, s5⟩, _⟩ := six_at SS.out
                go_wp2_with fail
                go_roundw
                case rel =>
                  refine ⟨k + 1, by omega, by go_num, heap_gb SC.out (gb_set (gb_set (gb_set (gb_set (gb_set (gb_set (gb_refl v8 (some g)) _ _) _ _) _ _) _ _) _ _) _ _) hcg, ?_, ?_, HPt.out (by rw [HPl2.out]; simp)⟩
                  · have := HN.out
                    subst this
                    rw [firstN_next k es _ HXk.out, slotsC_set _ _ _ (by rw [firstN_len _ _ (by omega)]; exact hlt)]
                    exact own_store (own_store (own_store (own_store (own_store (own_store SO.out _ _) _ _) _ _) _ _) _ _) _ _
                  · exact (((((B8.setCell (p := ⟨g, _, none⟩) hg1 _).setCell (p := ⟨g, _, none⟩) hg1 _).setCell (p := ⟨g, _, none⟩) hg1 _).setCell (p := ⟨g, _, none⟩) hg1 _).setCell (p := ⟨g, _, none⟩) hg1 _).setCell (p := ⟨g, _, none⟩) hg1 _
                case measure => simp [intOf]; omega
              · have hne' : (sx != qv) = true := by rw [bne_iff_ne]; exact hne
                have hxf : X = false := HPf.out (by rw [HPl2.out]; simpa using hne)
                subst hxf
                go_quiet ((go_at_call 71; exact Calls.quiet_of_same (HSet.out _)))
                go_wp2_with fail
                exact bodyPost_ret (v := .tuple #[.agg #[.int .i64 0, .int .i64 0, .slice none 0 0], .bool false]) (by simp [results, Try.results60, go_sem, d0, d1, d2]) rfl ⟨rfl, bel3 (below_drewN A7 _) (by omega) _ _ _⟩
          · have hz := HZb.out
            simp only [zeroB, Bool.and_eq_true, beq_iff_eq] at hz
            obtain ⟨⟨⟨⟨⟨rfl, rfl⟩, rfl⟩, rfl⟩, rfl⟩, rfl⟩ := hz
            go_wp2_with fail
            go_roundw
            case rel => exact ⟨k + 1, by omega, by go_num, (hid_keep PC n5).out, by
                have := HN.out
                subst this
                rw [firstN_zero k es HXk.out]
                exact own_below PO.out n5, Below.step hb n5 (Nat.le_refl _), HPt.out (by simp [placeM])⟩
            case measure => simp [intOf]; omega
        · have hkn : k = n := by omega
          subst hkn
          have hxt : X = true := by
            rw [← HX.out]; unfold validM; rw [HSM.out]; simp only [Bool.true_and]
            exact placesM_true _ false es 0 (fun j x hx => by rw [Nat.zero_add]; exact HA.out j x (by have := (List.getElem?_eq_some_iff.1 hx).1; have := HN.out; omega) hx)
          subst hxt
          obtain ⟨⟨d0, d1, d2⟩, e0, e1, e2⟩ := three_cells P2.out
          obtain ⟨⟨p0, p1, p2⟩, _, _, _⟩ := three_cells PC.out
          have ne6 : w.heap.size + 1 ≠ cb := by omega
          go_wp2_with fail
          refine bodyPost_ret (v := .tuple #[.agg #[.int .i64 sets, .int .i64 ways, .slice (some ⟨g, 0, none⟩) k k], .bool true]) (by simp [results, Try.results60, go_sem, d0, d1, d2]) rfl ⟨⟨g, by simp only; rw [HN.out], ?_⟩, bel3 A3 (by omega) _ _ _⟩
          simp only
          rw [HN.out]
          have := PO.out
          have hq := HN.out
          subst hq
          rw [firstN_all] at this
          exact own_low (own_gb this (gb3 wr (w.heap.size + 1) _ _ _) (by omega)) (by omega)

end Go.Proofs.Ythekickjjaleaac
