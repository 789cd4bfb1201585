import Derived.Test.YthekickjjaleaacGreatPack11
import Derived.Test.YthekickjjaleaacGreatPack17
import Derived.Test.YthekickjjaleaacGreatPack04
import Derived.Test.YthekickjjaleaacGreatPack06
import Derived.Test.YthekickjjaleaacGreatPack05
/- Plain mathematics of chapter 4: the records of a walk, the pointers among them. -/
namespace Go.Proofs.YthekickjjaleaacGreat
set_option linter.unusedVariables false

/-- The records of a walk: pointers, and a leaf behind them where one is met. -/
def Split (r : Int × Int × Int × List RecM) (k : Nat) (ps : List RecM) : Prop :=
  (∀ p ∈ ps, kindM p.2.2 p.1 = 1 ∧ 0 ≤ p.1 ∧ p.1 ≤ k ∧ 0 ≤ p.2.2 ∧ p.2.2 ≤ 18446744073709551615) ∧
  ((r.1 = 1 ∧ (∃ ad, r.2.2.2 = ps ++ [(r.2.1, ad, r.2.2.1)]) ∧ kindM r.2.2.1 r.2.1 = 2 ∧ 0 ≤ r.2.1 ∧ r.2.1 ≤ k ∧ 0 ≤ r.2.2.1 ∧ r.2.2.1 ≤ 18446744073709551615) ∨ ((r.1 = 2 ∨ r.1 = 3) ∧ r.2.2.2 = ps ∧ r.2.2.1 = 0))

theorem kindM_null (level : Int) : kindM 0 level ≠ 2 := by
  unfold kindM
  split
  · decide
  · simp [bitB]
    split <;> omega

theorem fromM_split (zs : List Int) (va : Int) (hz : ∀ i : Nat, 0 ≤ zs[i]?.getD 0 ∧ zs[i]?.getD 0 ≤ 255) : ∀ (k : Nat) (n : Int), ∃ ps, Split (fromM zs va k n) k ps ∧ ps.length ≤ k
  | k, n => by
    cases hg : goodB zs.length (64 * n + 8 * idxM va k) 8
    · rw [fromM_out zs va k n hg]
      exact ⟨[], ⟨by simp, .inr ⟨.inr rfl, rfl, rfl⟩⟩, by simp⟩
    · have hb := rdV_bd zs (64 * n + 8 * idxM va k) 8 (by omega) hz
      rcases kindM_012 (rdV zs (64 * n + 8 * idxM va k) 8) (k : Int) with hk | hk | hk
      · rw [fromM_bad zs va k n hg hk]
        exact ⟨[], ⟨by simp, .inr ⟨.inl rfl, rfl, rfl⟩⟩, by simp⟩
      · cases k with
        | zero => exact absurd hk (kindM_zero _)
        | succ k' =>
          rw [fromM_next zs va k' n hg hk]
          obtain ⟨ps, ⟨h1, h2⟩, h3⟩ := fromM_split zs va hz k' (ppnM (rdV zs (64 * n + 8 * idxM va ((k' + 1 : Nat) : Int)) 8))
          refine ⟨(((k' + 1 : Nat) : Int), 64 * n + 8 * idxM va ((k' + 1 : Nat) : Int), rdV zs (64 * n + 8 * idxM va ((k' + 1 : Nat) : Int)) 8) :: ps, ⟨?_, ?_⟩, by simp; omega⟩
          · intro p hp
            rcases List.mem_cons.1 hp with rfl | hp
            · exact ⟨hk, by simp only; omega, by simp only; omega, hb.1, hb.2⟩
            · obtain ⟨q1, q2, q3, q4⟩ := h1 p hp
              exact ⟨q1, q2, by omega, q4⟩
          · simp only [preM]
            rcases h2 with ⟨e1, ⟨ad, e2⟩, e3, e4, e5, e6⟩ | ⟨e1, e2, e3⟩
            · exact .inl ⟨e1, ⟨ad, by rw [e2]; rfl⟩, e3, e4, by omega, e6⟩
            · exact .inr ⟨e1, by rw [e2]; rfl, e3⟩
      · rw [fromM_leaf zs va k n hg hk]
        exact ⟨[], ⟨by simp, .inl ⟨rfl, ⟨_, rfl⟩, hk, by simp only; omega, Int.le_refl _, hb.1, hb.2⟩⟩, by simp⟩

theorem walkM_split (zs : List Int) (root va : Int) (hz : ∀ i : Nat, 0 ≤ zs[i]?.getD 0 ∧ zs[i]?.getD 0 ≤ 255) : ∃ ps, Split (walkM zs root va) 2 ps ∧ ps.length ≤ 2 := by
  unfold walkM
  split
  · exact ⟨[], ⟨by simp, .inr ⟨.inl rfl, rfl, rfl⟩⟩, by simp⟩
  · exact fromM_split zs va hz 2 _

theorem split_mono {r : Int × Int × Int × List RecM} {k k' : Nat} {ps : List RecM} (h : Split r k ps) (hk : k ≤ k') : Split r k' ps := by
  obtain ⟨h1, h2⟩ := h
  refine ⟨fun p hp => ?_, ?_⟩
  · obtain ⟨q1, q2, q3, q4⟩ := h1 p hp
    exact ⟨q1, q2, by omega, q4⟩
  · rcases h2 with ⟨e1, e2, e3, e4, e5, e6⟩ | h2
    · exact .inl ⟨e1, e2, e3, e4, by omega, e6⟩
    · exact .inr h2

theorem resumeM_split (zs : List Int) (satp va : Int) (t : TlbM) (asid : Int) (ht : validM t true = true) (hz : ∀ i : Nat, 0 ≤ zs[i]?.getD 0 ∧ zs[i]?.getD 0 ≤ 255) : ∃ ps, Split (resumeM zs satp va (hitM t va asid)) 2 ps ∧ ps.length ≤ 2 := by
  unfold resumeM
  split
  · rename_i hf
    obtain ⟨q, x, h1, h2, h3, h4, h5, h6⟩ := hit_get t va asid hf
    have hl := either_level (either_of ht) q x h1 h6
    have hle : ((hitM t va asid).2.2.1 - 1).toNat ≤ 2 := by rw [h3]; omega
    obtain ⟨ps, a1, a2⟩ := fromM_split zs va hz ((hitM t va asid).2.2.1 - 1).toNat (ppnM (hitM t va asid).2.2.2)
    exact ⟨ps, split_mono a1 hle, by omega⟩
  · exact walkM_split zs satp va hz

theorem ptrs_append (va satp pick : Int) : ∀ (a b : List RecM) (p : TlbM), ptrsM va satp pick (a ++ b) p = ptrsM va satp pick b (ptrsM va satp pick a p)
  | [], b, p => rfl
  | r :: a, b, p => by
    rw [List.cons_append, ptrsM, ptrsM]
    exact ptrs_append va satp pick a b _

theorem insert_len (t : TlbM) (e : EntM) (pick : Int) : (insertM t e pick).es.length = t.es.length ∧ (insertM t e pick).sets = t.sets ∧ (insertM t e pick).ways = t.ways := by
  unfold insertM
  split
  · simp
  · exact ⟨rfl, rfl, rfl⟩

theorem ptrs_len (va satp pick : Int) : ∀ (rs : List RecM) (p : TlbM), (ptrsM va satp pick rs p).es.length = p.es.length ∧ (ptrsM va satp pick rs p).sets = p.sets ∧ (ptrsM va satp pick rs p).ways = p.ways
  | [], p => ⟨rfl, rfl, rfl⟩
  | r :: rs, p => by
    rw [ptrsM]
    have ih := ptrs_len va satp pick rs (if kindM r.2.2 r.1 = 1 then insertM p (entM r.1 va satp r.2.2) pick else p)
    split at ih
    · rename_i hk
      rw [if_pos hk]
      have h := insert_len p (entM r.1 va satp r.2.2) pick
      exact ⟨ih.1.trans h.1, ih.2.1.trans h.2.1, ih.2.2.trans h.2.2⟩
    · rename_i hk
      rw [if_neg hk]
      exact ih

/-- The pointers of a walk are what is inserted. -/
theorem ptrs_split {r : Int × Int × Int × List RecM} {k : Nat} {ps : List RecM} (va satp pick : Int) (p : TlbM) (h : Split r k ps) : ptrsM va satp pick r.2.2.2 p = ptrsM va satp pick ps p := by
  rcases h.2 with ⟨_, ⟨ad, e⟩, hk, _⟩ | ⟨_, e, _⟩
  · rw [e, ptrs_append]
    rw [ptrsM, ptrsM, if_neg (by simp only; omega)]
  · rw [e]

end Go.Proofs.YthekickjjaleaacGreat

/- Bounds of what a look-up finds, from the bounds of a cache's entries. -/
namespace Go.Proofs.YthekickjjaleaacGreat

theorem hit_lim (t : TlbM) (va asid : Int) (he : ∀ e ∈ t.es, entOk e) (h : (hitM t va asid).1 = true) : (0 ≤ (hitM t va asid).2.2.2 ∧ (hitM t va asid).2.2.2 ≤ 18446744073709551615) ∧ (-9223372036854775808 ≤ (hitM t va asid).2.2.1 ∧ (hitM t va asid).2.2.1 ≤ 9223372036854775807) := by
  obtain ⟨k, x, hx, _, hl, hp, _⟩ := hit_get t va asid h
  have hk := he x (List.mem_of_getElem? hx)
  rw [hl, hp]
  exact ⟨hk.2.2.2, hk.1⟩

end Go.Proofs.YthekickjjaleaacGreat

/- What a walk that goes on from a kept pointer gives: bounds. Plain functions. -/
namespace Go.Proofs.YthekickjjaleaacGreat
set_option linter.unusedVariables false

theorem walkM_len (zs : List Int) (root va : Int) : (walkM zs root va).2.2.2.length ≤ 3 := by
  unfold walkM
  split
  · simp
  · exact fromM_len zs va 2 _

/-- Bounds of what a walk gives. -/
structure WalkLim (r : Int × Int × Int × List RecM) : Prop where
  len : r.2.2.2.length ≤ 3
  pte : 0 ≤ r.2.2.1 ∧ r.2.2.1 ≤ 18446744073709551615
  level : 0 ≤ r.2.1 ∧ r.2.1 ≤ 2
  recs : ∀ x ∈ r.2.2.2, (0 ≤ x.1 ∧ x.1 ≤ 2) ∧ 0 ≤ x.2.2 ∧ x.2.2 ≤ 18446744073709551615

theorem split_recs {r : Int × Int × Int × List RecM} {ps : List RecM} (h : Split r 2 ps) : ∀ x ∈ r.2.2.2, (0 ≤ x.1 ∧ x.1 ≤ 2) ∧ 0 ≤ x.2.2 ∧ x.2.2 ≤ 18446744073709551615 := by
  obtain ⟨h1, h2⟩ := h
  intro x hx
  rcases h2 with ⟨_, ⟨ad, e⟩, _, e4, e5, e6, e7⟩ | ⟨_, e, _⟩
  · rw [e] at hx
    rcases List.mem_append.1 hx with hx | hx
    · obtain ⟨_, q2, q3, q4, q5⟩ := h1 x hx
      exact ⟨⟨q2, by omega⟩, q4, q5⟩
    · have : x = (r.2.1, ad, r.2.2.1) := by simpa using hx
      subst this
      exact ⟨⟨e4, by omega⟩, e6, e7⟩
  · rw [e] at hx
    obtain ⟨_, q2, q3, q4, q5⟩ := h1 x hx
    exact ⟨⟨q2, by omega⟩, q4, q5⟩

theorem resume_facts (zs : List Int) (satp va : Int) (t : TlbM) (asid : Int) (ht : validM t true = true) (he : ∀ e ∈ t.es, entOk e) (hz : ∀ i : Nat, 0 ≤ zs[i]?.getD 0 ∧ zs[i]?.getD 0 ≤ 255) :
    ((hitM t va asid).1 = true → ∃ l : Nat, (hitM t va asid).2.2.1 = (l : Int) + 1 ∧ l ≤ 1 ∧ 0 ≤ (hitM t va asid).2.2.2 ∧ (hitM t va asid).2.2.2 ≤ 18446744073709551615 ∧ resumeM zs satp va (hitM t va asid) = fromM zs va l (ppnM (hitM t va asid).2.2.2)) ∧
    ((hitM t va asid).1 = false → resumeM zs satp va (hitM t va asid) = walkM zs satp va) ∧ WalkLim (resumeM zs satp va (hitM t va asid)) := by
  obtain ⟨ps, hs, _⟩ := resumeM_split zs satp va t asid ht hz
  cases hf : (hitM t va asid).1
  · have e : resumeM zs satp va (hitM t va asid) = walkM zs satp va := by rw [resumeM, if_neg (by rw [hf]; simp)]
    have hb := walkM_bd zs satp va hz
    refine ⟨fun h => (by cases h), fun _ => e, ?_⟩
    have hr := split_recs hs
    rw [e] at hr ⊢
    exact ⟨walkM_len zs satp va, ⟨hb.1, hb.2.1⟩, hb.2.2, hr⟩
  · obtain ⟨q, x, h1, h2, h3, h4, h5, h6⟩ := hit_get t va asid hf
    have hl := either_level (either_of ht) q x h1 h6
    have hpl := place_of ht q x h1
    have hlim := (hit_lim t va asid he hf).1
    have hk1 : x.level ≠ 0 := by
      intro h0
      have hg : goodEntM x true = true := by
        simp only [placeM, Bool.or_eq_true, Bool.and_eq_true] at hpl
        have h7 : goodEntM x true = true ∧ x.tag % t.sets = q / t.ways := by simpa [h6] using hpl
        exact h7.1
      have := good_kind hg
      rw [h0] at this
      exact kindM_zero _ this
    have e : resumeM zs satp va (hitM t va asid) = fromM zs va ((hitM t va asid).2.2.1 - 1).toNat (ppnM (hitM t va asid).2.2.2) := by rw [resumeM, if_pos hf]
    have hb := fromM_bd zs va hz ((hitM t va asid).2.2.1 - 1).toNat (ppnM (hitM t va asid).2.2.2) (by rw [h3]; omega)
    refine ⟨fun _ => ⟨((hitM t va asid).2.2.1 - 1).toNat, by rw [h3]; omega, by rw [h3]; omega, hlim.1, hlim.2, e⟩, fun h => (by cases h), ?_⟩
    have hr := split_recs hs
    have hln := fromM_len zs va ((hitM t va asid).2.2.1 - 1).toNat (ppnM (hitM t va asid).2.2.2)
    rw [e] at hr ⊢
    exact ⟨by rw [h3] at hln ⊢; omega, ⟨hb.1, hb.2.1⟩, hb.2.2, hr⟩

end Go.Proofs.YthekickjjaleaacGreat

/- Bounds of what is kept in a cache; the pointers of a walk, one by one. Plain functions. -/
namespace Go.Proofs.YthekickjjaleaacGreat
set_option linter.unusedVariables false

theorem entM_ok (level va satp pte : Int) (hl : 0 ≤ level ∧ level ≤ 2) (hp : 0 ≤ pte ∧ pte ≤ 18446744073709551615) : entOk (entM level va satp pte) := by
  have ht := tagM_lim va level (by omega)
  refine ⟨⟨by simp only [entM]; omega, by simp only [entM]; omega⟩, ⟨ht.1, ?_⟩, ?_, hp⟩
  · simp only [entM]; omega
  · simp only [entM, asidM]; omega

theorem insert_ok {t : TlbM} {e : EntM} (pick : Int) (ht : tlbOk t) (he : entOk e) : tlbOk (insertM t e pick) := by
  obtain ⟨l1, l2, l3⟩ := insert_len t e pick
  obtain ⟨h1, h2, h3, h4⟩ := ht
  refine ⟨?_, by rw [l2]; exact h2, by rw [l3]; exact h3, by rw [l1]; exact h4⟩
  unfold insertM
  split
  · intro x hx
    simp only at hx
    rcases List.mem_or_eq_of_mem_set hx with hx | rfl
    · exact h1 x hx
    · exact he
  · exact h1

theorem ptrs_ok (va satp pick : Int) : ∀ (rs : List RecM) (p : TlbM), tlbOk p → (∀ x ∈ rs, (0 ≤ x.1 ∧ x.1 ≤ 2) ∧ 0 ≤ x.2.2 ∧ x.2.2 ≤ 18446744073709551615) → tlbOk (ptrsM va satp pick rs p)
  | [], p, h, _ => h
  | r :: rs, p, h, hx => by
    rw [ptrsM]
    refine ptrs_ok va satp pick rs _ ?_ fun x hx' => hx x (List.mem_cons_of_mem _ hx')
    have hr := hx r (List.mem_cons_self ..)
    split
    · exact insert_ok pick h (entM_ok _ _ _ _ hr.1 hr.2)
    · exact h

theorem ptrs_step (va satp pick : Int) (rs : List RecM) (p : TlbM) (j : Nat) (x : RecM) (hx : rs[j]? = some x) :
    ptrsM va satp pick (rs.take (j + 1)) p = if kindM x.2.2 x.1 = 1 then insertM (ptrsM va satp pick (rs.take j) p) (entM x.1 va satp x.2.2) pick else ptrsM va satp pick (rs.take j) p := by
  have : rs.take (j + 1) = rs.take j ++ [x] := by
    rw [List.take_add_one, hx]
    rfl
  rw [this, ptrs_append]
  rfl

end Go.Proofs.YthekickjjaleaacGreat

/- The program's Walk and PlainTranslate. -/
namespace Go.Proofs.YthekickjjaleaacGreat
open Go.RowKit
set_option linter.unusedVariables false

/-- What the program's Walk answers, in memory: the records are its own. -/
def WalkOwn (base : Nat) (w' : World) (e : Ending) (r : Int × Int × Int × List RecM) : Prop :=
  ∃ ra rc, e = .returned (.agg #[.int .i64 r.1, .int .i64 r.2.1, .int .u64 r.2.2.1, .slice ra r.2.2.2.length rc]) ∧ w'.ownsRow base 98 3 (.slice ra r.2.2.2.length rc) r.2.2.2.length (recsC r.2.2.2)

set_option maxRecDepth 20000 in
theorem walkRoot_any (sv : Value) (zs : List Int) (va root : Int) (w : World) (hB : SrcAt w sv zs) (hv0 : 0 ≤ va) (hv1 : va ≤ 18446744073709551615) (hr0 : 0 ≤ root) (hr1 : root ≤ 18446744073709551615) :
    Calls Tryz.prog 190 #[sv, .int .u64 root, .int .u64 va] w fun e w' => FromAt w.heap.size w' e (walkM zs root va) ∧ Below w.heap.size w w' := by
  have b0 := (Below.refl w.heap.size w).alloc (Nat.le_refl _) (Obj.cells #[.int .i64 0, .int .u64 0, .slice none 0 0] 264)
  have r0 : Hid ((w.alloc (Obj.cells #[.int .i64 0, .int .u64 0, .slice none 0 0] 264)).heap[w.heap.size]? = some (.cells #[.int .i64 0, .int .u64 0, .slice none 0 0] 264 (0, 0))) := heap_alloc_new w _
  have HB : Hid (SrcAt w sv zs) := hB
  clear hB
  have hb0 : 0 ≤ root % 17592186044416 ∧ root % 17592186044416 < 17592186044416 := ⟨Int.emod_nonneg _ (by omega), Int.emod_lt_of_pos _ (by omega)⟩
  have HM : Hid (bits .and .u64 root 17592186044415 = root % 17592186044416) := mask_u64 44 root 17592186044415 rfl (by omega) hr0 hr1
  unfold walkM
  cases hcn : canonM va
  · rw [if_pos rfl]
    have HC : Hid (canonM va = false) := hcn
    clear hcn
    go_enter Tryz.func190, Tryz.ntmps190
    go_wp2_with fail
    generalize w.alloc (Obj.cells #[.int .i64 0, .int .u64 0, .slice none 0 0] 264) = v1 at b0 r0 ⊢
    refine (canonical_at va v1 hv0 hv1).mono ?_
    rintro e v2 ⟨rfl, rfl⟩
    rw [HC.out]
    obtain ⟨⟨d0, d1, d2⟩, f0, f1, f2⟩ := three_cells r0.out
    go_wp2_with fail
    refine bodyPost_ret (v := .tuple #[.agg #[.int .i64 2, .int .u64 0, .slice none 0 0], .iface 203 (.agg #[])]) (by simp [results, Tryz.results190, go_sem, d0, d1, d2]) rfl ?_
    exact ⟨⟨none, 0, rfl, World.ownsRow_nil _ _ _ _⟩, bel3 b0 (Nat.le_refl _) _ _ _⟩
  · rw [if_neg (by simp)]
    have HC : Hid (canonM va = true) := hcn
    clear hcn
    obtain ⟨X, hX⟩ : ∃ X, fromM zs va 2 (root % 17592186044416) = X := ⟨_, rfl⟩
    have HX : Hid (fromM zs va 2 (root % 17592186044416) = X) := hX
    rw [hX]
    clear hX
    go_enter Tryz.func190, Tryz.ntmps190
    go_wp2_with fail
    have l1 : w.heap.size < (w.alloc (Obj.cells #[.int .i64 0, .int .u64 0, .slice none 0 0] 264)).heap.size := by simp
    generalize w.alloc (Obj.cells #[.int .i64 0, .int .u64 0, .slice none 0 0] 264) = v1 at b0 r0 l1 ⊢
    refine (canonical_at va v1 hv0 hv1).mono ?_
    rintro e v2 ⟨rfl, rfl⟩
    rw [HC.out]
    go_wp2_with fail
    refine (lowBits_at 44 17592186044415 _ (by omega)).mono ?_
    rintro e v3 ⟨rfl, rfl⟩
    go_wp2_with fail
    rw [HM.out]
    refine (walkFrom_any sv zs va (root % 17592186044416) 2 v3 (HB.out.keep b0) (by omega) hv0 hv1 hb0.1 hb0.2).mono ?_
    rintro e v4 ⟨hw, n4⟩
    rw [HX.out] at hw
    obtain ⟨ra, rc, rfl, o4⟩ := hw
    obtain ⟨x1, x2, x3, rs⟩ := X
    simp only at o4 ⊢
    have HO : Hid (v4.ownsRow v3.heap.size 98 3 (.slice ra rs.length rc) rs.length (recsC rs)) := o4
    clear o4
    have r4 : Hid (v4.heap[w.heap.size]? = some (.cells #[.int .i64 0, .int .u64 0, .slice none 0 0] 264 (0, 0))) := heap_keep r0.out n4 l1
    have b4 := Below.step b0 n4 (Nat.le_refl _)
    obtain ⟨⟨d0, d1, d2⟩, f0, f1, f2⟩ := three_cells r4.out
    obtain ⟨fv, hfv⟩ : ∃ fv, faultV x1 = fv := ⟨_, rfl⟩
    have HF : Hid (faultV x1 = fv) := hfv
    rw [hfv]
    clear hfv
    go_wp2_with fail
    refine bodyPost_ret (v := .tuple #[.agg #[.int .i64 x2, .int .u64 x3, .slice ra rs.length rc], fv]) (by simp [results, Tryz.results190, go_sem, d0, d1, d2]) rfl ?_
    exact ⟨⟨ra, rc, by rw [HF.out], own_low (own_gb HO.out (gb3 _ w.heap.size _ _ _) l1) (by omega)⟩, bel3 b4 (Nat.le_refl _) _ _ _⟩


end Go.Proofs.YthekickjjaleaacGreat

/- The laws' helpers over records of a walk: eqRec, eqRecS, eqWalkRes. -/
namespace Go.Proofs.YthekickjjaleaacGreat
open Go.RowKit
set_option linter.unusedVariables false
attribute [local go_sem ↓] Go.wp_at_zero Go.wp_at_succ

theorem recsC_at : ∀ (rs : List RecM) (i j : Nat) (hi : i < rs.length), j < 3 → (recsC rs)[i * 3 + j]? = (recC rs[i])[j]?
  | r :: rs, 0, j, hi, hj => by
    simp only [recsC, List.getElem_cons_zero, Nat.zero_mul, Nat.zero_add]
    rw [List.getElem?_append_left (by simpa [recC] using hj)]
  | r :: rs, i + 1, j, hi, hj => by
    simp only [recsC, List.getElem_cons_succ]
    rw [List.getElem?_append_right (by simp [recC]; omega)]
    have : (i + 1) * 3 + j - (recC r).length = i * 3 + j := by simp [recC]; omega
    rw [this]
    exact recsC_at rs i j (by simpa using hi) hj

theorem rec_cell {w : World} {b off n : Nat} {rs : List RecM} (h : RowC w (some ⟨b, off, none⟩) n 3 (recsC rs)) (hn : rs.length = n) (k : Nat) (x : RecM) (hx : rs[k]? = some x) (j : Nat) (v : Value) (hj : j < 3) (hv : (recC x)[j]? = some v) :
    w.cell? ⟨b, off + k * 3 + j, none⟩ = some v := by
  obtain ⟨h1, h2⟩ := h
  obtain ⟨hk, rfl⟩ := List.getElem?_eq_some_iff.1 hx
  rcases h2 with h2 | ⟨b', off', e, _, hc⟩
  · omega
  · simp at e
    obtain ⟨rfl, rfl⟩ := e
    have := hc (k * 3 + j) v (by rw [recsC_at rs k j hk hj]; exact hv)
    rw [← Nat.add_assoc] at this
    exact this




/-- The value of cell t of records that were marked from k0 on. -/
def mkV (k0 : Int) (t : Nat) : Value := if t % 3 = 0 then .int .i64 (k0 + t) else .int .u64 (k0 + t)
def mkL (k0 : Int) (m : Nat) : List Value := (List.range m).map (mkV k0)

theorem mkL_at (k0 : Int) (m t : Nat) (h : t < m) : (mkL k0 m)[t]? = some (mkV k0 t) := by
  simp [mkL, h]

theorem mkV0 (k0 : Int) (i : Nat) : mkV k0 (i * 3) = .int .i64 (k0 + i * 3) := by
  rw [mkV, if_pos (by omega)]; push_cast; rfl
theorem mkV1 (k0 : Int) (i : Nat) : mkV k0 (i * 3 + 1) = .int .u64 (k0 + i * 3 + 1) := by
  rw [mkV, if_neg (by omega)]; push_cast; rw [Int.add_assoc]
theorem mkV2 (k0 : Int) (i : Nat) : mkV k0 (i * 3 + 2) = .int .u64 (k0 + i * 3 + 1 + 1) := by
  rw [mkV, if_neg (by omega)]; push_cast; congr 1; omega

theorem mk_step (k0 : Int) (i m : Nat) (ys : List Value) (hy : ys.length = m) (hi : i * 3 + 2 < m) (h : ∀ t, t < i * 3 → ys[t]? = some (mkV k0 t)) :
    ∀ t, t < (i + 1) * 3 → (((ys.set (i * 3) (.int .i64 (k0 + i * 3))).set (i * 3 + 1) (.int .u64 (k0 + i * 3 + 1))).set (i * 3 + 2) (.int .u64 (k0 + i * 3 + 1 + 1)))[t]? = some (mkV k0 t) := by
  intro t ht
  by_cases h0 : t < i * 3
  · rw [List.getElem?_set_ne (by omega), List.getElem?_set_ne (by omega), List.getElem?_set_ne (by omega)]
    exact h t h0
  · rcases (show t = i * 3 ∨ t = i * 3 + 1 ∨ t = i * 3 + 2 by omega) with rfl | rfl | rfl
    · rw [List.getElem?_set_ne (by omega), List.getElem?_set_ne (by omega), List.getElem?_set_self (by omega), mkV0]
    · rw [List.getElem?_set_ne (by omega), List.getElem?_set_self (by simp; omega), mkV1]
    · rw [List.getElem?_set_self (by simp; omega), mkV2]

end Go.Proofs.YthekickjjaleaacGreat
