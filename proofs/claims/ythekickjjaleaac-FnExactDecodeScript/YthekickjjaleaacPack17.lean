import Derived.Test.YthekickjjaleaacPack13
import Derived.Test.YthekickjjaleaacPack15
import Derived.Test.YthekickjjaleaacPack16
/- The specification's scripts: DecodeScript. Written by mk6b.py. -/
namespace Go.Proofs.Ythekickjjaleaac
open Go.RowKit
set_option linter.unusedVariables false
attribute [local go_sem ↓] Go.wp_at_zero Go.wp_at_succ

theorem picksC_one (zs : List Int) : ∀ u ∈ picksC zs, u.oneCell' = true := by
  intro u hu
  simp only [picksC, List.mem_map] at hu
  obtain ⟨z, _, rfl⟩ := hu
  rfl

theorem DecEnd.above {w v : World} {hb : Nat} {q : PtrM} {h : HartM} (d : DecEnd w v hb q h) : ∀ x, some x ∈ hptrs q → w.heap.size + 1 ≤ x.block := by
  intro x hx
  have := d.low
  simp only [hptrs, List.mem_cons, List.not_mem_nil, or_false] at hx
  rcases hx with hx | hx | hx | hx | hx
  · have := (own_ptr d.mem x hx.symm).1; omega
  · have := (own_ptr d.regs x hx.symm).1; omega
  · exact (d.ks.ptrs x (.inl hx.symm)).1
  · exact (d.ks.ptrs x (.inr (.inl hx.symm))).1
  · exact (d.ks.ptrs x (.inr (.inr hx.symm))).1

theorem own_some {e : TypeId} {size base n c : Nat} {w : World} {a : Option Addr} {cs : List Value} (h : w.ownsRow base e size (.slice a n c) n cs) (hn : 0 < n) : ∃ g, a = some ⟨g, 0, none⟩ := by
  rcases h.2 with ⟨_, h2⟩ | ⟨g, cap, cur, h1, _⟩
  · omega
  · simp only [Value.slice.injEq] at h1
    exact ⟨g, h1.1⟩

theorem DecEnd.hart {w v : World} {hb : Nat} {q : PtrM} {h : HartM} (d : DecEnd w v hb q h) (hk : kOk h.k) (hm : 0 < h.mem.length) (hr : 0 < h.regs.length) : HartIn v q h ∧ ∀ x, some x ∈ hptrs q → w.heap.size ≤ x.block := by
  obtain ⟨g1, e1⟩ := own_some d.mem hm
  obtain ⟨g2, e2⟩ := own_some d.regs hr
  have om := d.mem
  have og := d.regs
  rw [e1] at om
  rw [e2] at og
  have f1 := OwnC.facts om
  have f2 := OwnC.facts og
  refine ⟨⟨?_, ?_, row_own d.regs, ?_, ?_, d.ks.at hk, ?_⟩, fun x hx => by have := d.above x hx; omega⟩
  · rw [e1]
    exact OwnB.byt (e := 5) (base := hb + 1) om (bd_of_mem d.memb)
  · simp only [maxLen] at f1
    omega
  · simp only [maxLen] at f2
    omega
  · rw [e2]
    exact ⟨fun h0 => (by cases h0), fun x hx => (by cases hx; rfl)⟩
  · intro x hx
    simp only [hptrs, List.mem_cons, List.not_mem_nil, or_false] at hx
    rcases hx with hx | hx | hx | hx | hx
    · exact (own_ptr d.mem x hx.symm).2
    · exact (own_ptr d.regs x hx.symm).2
    · exact (d.ks.ptrs x (.inl hx.symm)).2
    · exact (d.ks.ptrs x (.inr (.inl hx.symm))).2
    · exact (d.ks.ptrs x (.inr (.inr hx.symm))).2

set_option maxRecDepth 20000 in
set_option maxHeartbeats 1200000 in
theorem dec_end (a : Option Addr) (len cap : Nat) (zs : List Int) (w : World) (hB : Byt w a len zs) (hl : len ≤ 1048576) (v : World) (hb size n i : Nat) (q : PtrM) (h : HartM) (u5 u7 u9 u10 u11 u12 u15 u16 u17 u18 u19 u20 u21 u22 u23 u24 u25 u26 u27 u28 u29 u30 u31 u32 u33 u34 u35 u36 u37 u38 u39 u40 u41 u42 u43 u44 u45 u46 u47 u48 u49 u50 u51 u52 u53 u54 u55 u56 u57 u58 u59 u60 u61 u62 u63 u64 u65 u66 u67 u68 u69 u70 u71 u72 u73 u74 u75 u76 u77 u78 u79 u80 u81 u82 u83 u84 u85 u86 u87 u88 u89 u90 u91 u92 u93 u94 u95 u96 u97 u98 u99 u100 u101 u102 u103 u104 u105 u106 u107 u108 u109 u110 u111 u112 u113 u114 u115 u116 u117 u118 u119 u120 u121 u122 u123 u124 u125 u126 u127 u128 u129 u130 u131 u132 u133 u134 u135 u136 u137 u138 u139 u140 u141 u142 u143 u144 u145 u146 u147 : Value) (hE : DecEnd w v hb q h) (hn : n ≤ 20000) (hi : i ≤ 65878) (hko : kOk h.k) (hml : 0 < h.mem.length) (hrl : 0 < h.regs.length) (ps : List Int) (hps : ps = ((List.range n).map fun j => atM zs (i + j)))
    (K : Act → World → Prop) (hK : ∀ aa ww, (codeTail 19 (bodyOf Try.f5)).wp Try.prog (bodyPost Try.prog Try.f5 (DecPost w h ps)) aa ww → K aa ww) :
    (codeHead (codeTail 18 (bodyOf Try.f5))).wp Try.prog (Exit.then K (bodyPost Try.prog Try.f5 (DecPost w h ps))) ⟨#[.slice a len cap, undef, .pointer (some ⟨w.heap.size, 0, none⟩), .pointer (some ⟨hb, 0, none⟩), .int .i64 (size : Nat), u5, .int .i64 (n : Nat), u7, .int .i64 (i : Nat), u9, u10, u11, u12, undef, undef, u15, u16, u17, u18, u19, u20, u21, u22, u23, u24, u25, u26, u27, u28, u29, u30, u31, u32, u33, u34, u35, u36, u37, u38, u39, u40, u41, u42, u43, u44, u45, u46, u47, u48, u49, u50, u51, u52, u53, u54, u55, u56, u57, u58, u59, u60, u61, u62, u63, u64, u65, u66, u67, u68, u69, u70, u71, u72, u73, u74, u75, u76, u77, u78, u79, u80, u81, u82, u83, u84, u85, u86, u87, u88, u89, u90, u91, u92, u93, u94, u95, u96, u97, u98, u99, u100, u101, u102, u103, u104, u105, u106, u107, u108, u109, u110, u111, u112, u113, u114, u115, u116, u117, u118, u119, u120, u121, u122, u123, u124, u125, u126, u127, u128, u129, u130, u131, u132, u133, u134, u135, u136, u137, u138, u139, u140, u141, u142, u143, u144, u145, u146, u147, undef, undef, undef, undef, undef, undef, undef, undef, undef, undef, undef, undef, undef, undef, undef, undef, undef, undef], []⟩ v := by
  obtain ⟨Q, hQ⟩ : ∃ Q, bodyPost Try.prog Try.f5 (DecPost w h ps) = Q := ⟨_, rfl⟩
  rw [hQ] at hK ⊢
  have HQ : Hid _ := hQ
  clear hQ
  simp only [codeHead, codeTail, bodyOf, Try.f5, Option.getD] at hK ⊢
  have HQp : Hid (∀ x (a : Act) d z w, Q (.panic x) (a.put d z) w → Q (.panic x) a w) := by
    show ∀ x (a : Act) d z w, Q (.panic x) (a.put d z) w → Q (.panic x) a w
    rw [← HQ.out]
    exact fun _ _ d _ _ h => by cases d <;> exact h
  have HE : Hid _ := hE
  have HPs : Hid _ := hps
  have HKo : Hid _ := hko
  have HB : Hid _ := hB
  have HAt : Hid (∀ (i : Nat) (u : World), i ≤ 1073741824 → Below w.heap.size w u → Calls Try.prog 19 #[.slice a len cap, .int .i64 i] u fun e w' => e = .returned (.int .i64 (atM zs i)) ∧ w' = u) := fun i u hi hu => l5At_any a len cap zs i u (Byt.keep HB.out hu) hl (by omega)
  clear hB hps hko hE
  have hlo := HE.out.low
  have hlt : hb < v.heap.size := (Array.getElem?_eq_some_iff.1 HE.out.box).1
  have hHs := hart_size q h
  have HLv : Hid ((Instr.loadAt 31 (.pointer (some ⟨hb, 0, none⟩))).run Try.prog v = .ok (.agg #[.slice q.am h.mem.length q.cm, .slice q.ar h.regs.length q.cr, .int .u64 h.pc, .int .i64 h.mode, .bool h.sum, .bool h.mxr, .int .u64 h.satp, .int .u64 h.tvec, .int .u64 h.epc, .int .i64 h.emode, .int .i64 h.cause, .int .u64 h.tval, .int .i64 h.k.i.sets, .int .i64 h.k.i.ways, .slice q.a1 h.k.i.es.length q.c1, .int .i64 h.k.d.sets, .int .i64 h.k.d.ways, .slice q.a2 h.k.d.es.length q.c2, .int .i64 h.k.p.sets, .int .i64 h.k.p.ways, .slice q.a3 h.k.p.es.length q.c3]) v) := box_whole (P := Try.prog) (T := 31) HE.out.box Try.underlying31 rfl (by rw [hHs]; exact hartI)
  have a9 := alloc1 v zscriptA 34
  have hS9 := script_size q none 0 h []
  have HS9 : Hid _ := box_put (P := Try.prog) (T := 34) (V := scriptA q none 0 h []) a9.1 (by rw [hS9]; exact scriptI) (by rw [hS9, zscript_size]) (script_one _ _ _ _ _)
  have HB9 : Hid _ := box_putH (V := scriptA q none 0 h []) a9.1 (by rw [hS9, zscript_size])
  have n9 := bel_sets (Nat.le_refl v.heap.size) (scriptA q none 0 h []).toList 0 _ a9.2.2
  have s9 : ((v.alloc (Obj.cells zscriptA 34)).setCells v.heap.size 0 (scriptA q none 0 h []).toList).heap.size = v.heap.size + 1 := by rw [size_sets, a9.2.1]
  have HAg : Hid (scriptA q none 0 h [] = #[.slice q.am h.mem.length q.cm, .slice q.ar h.regs.length q.cr, .int .u64 h.pc, .int .i64 h.mode, .bool h.sum, .bool h.mxr, .int .u64 h.satp, .int .u64 h.tvec, .int .u64 h.epc, .int .i64 h.emode, .int .i64 h.cause, .int .u64 h.tval, .int .i64 h.k.i.sets, .int .i64 h.k.i.ways, .slice q.a1 h.k.i.es.length q.c1, .int .i64 h.k.d.sets, .int .i64 h.k.d.ways, .slice q.a2 h.k.d.es.length q.c2, .int .i64 h.k.p.sets, .int .i64 h.k.p.ways, .slice q.a3 h.k.p.es.length q.c3, .slice none 0 0]) := rfl
  clear a9
  go_upto_region 39 with (first
    | ((with_reducible refine wpl_load ?_ HLv.out ?_); (exact rfl))
    | ((with_reducible refine wpl_store ?_ ?_ HS9.out ?_); (exact rfl); (exact rfl)))
  have hw9 := Below.step HE.out.below n9 (Nat.le_refl _)
  have HE9 : Hid (DecEnd w ((v.alloc (Obj.cells zscriptA 34)).setCells v.heap.size 0 (scriptA q none 0 h []).toList) hb q h) :=
    ⟨heap_keep HE.out.box n9 hlt, heap_keep HE.out.res n9 (by omega), HE.out.low, own_below HE.out.mem n9, HE.out.memb, own_below HE.out.regs n9, HE.out.ks.keep n9, hw9⟩
  generalize (v.alloc (Obj.cells zscriptA 34)).setCells v.heap.size 0 (scriptA q none 0 h []).toList = v9 at HB9 s9 hw9 HE9 ⊢
  clear HS9 HLv n9 HAg HE
  generalize hsb : v.heap.size = sb at HB9 s9 hlt ⊢
  clear hsb
  go_wp2_with fail
  go_loopw [14] (fun kv wr => ∃ (k : Nat) (pa : Option Addr) (pc : Nat), k ≤ n ∧ kv = .int .i64 k ∧ v9.grownBy wr (some sb) ∧ wr.heap[sb]? = some (.cells (scriptA q pa pc h ((List.range k).map fun j => atM zs (i + j))) 34 (0, 0)) ∧ wr.ownsRow (sb + 1) 2 1 (.slice pa k pc) k (picksC ((List.range k).map fun j => atM zs (i + j)))) (fun kv _ => n - (intOf kv).toNat)
  case atStart => exact ⟨0, none, 0, Nat.zero_le _, rfl, gb_refl _ _, HB9.out, World.ownsRow_nil _ _ _ _⟩
  case round =>
    obtain ⟨k, pa, pc, hk, rfl, hG, hBx, hO⟩ := hrel
    have HG : Hid _ := hG
    have HBx : Hid _ := hBx
    have HO : Hid _ := hO
    have hgs := hG.size
    have c21 : (scriptA q pa pc h ((List.range k).map fun j => atM zs (i + j)))[21]? = some (.slice pa k pc) := by
      show some (Value.slice pa ((List.range k).map fun j => atM zs (i + j)).length pc) = _
      simp
    have hwr : Below w.heap.size w wr := hw9.trans ⟨hG.os, hG.tape, hG.output, hG.size, fun j hj => hG.block j (by omega) (by simp; omega)⟩
    clear hG hBx hO
    by_cases hkn : k < n
    · go_upto_region 42 with fail
      obtain ⟨z, hz⟩ : ∃ z, atM zs (i + k) = z := ⟨_, rfl⟩
      have HZ : Hid _ := hz
      clear hz
      have HL1 : Hid (∀ u : World, u.heap[sb]? = some (.cells (scriptA q pa pc h ((List.range k).map fun j => atM zs (i + j))) 34 (0, 0)) → (Instr.loadAt 32 (.pointer (some ⟨sb, 21, none⟩))).run Try.prog u = .ok (.slice pa k pc) u) := fun u hu => by
        have h1 := box_cell hu 21 c21
        go_simp
      have HBo : Hid (∀ (u : World), Below (sb + 1) wr u → u.heap[sb]? = some (.cells (scriptA q pa pc h ((List.range k).map fun j => atM zs (i + j))) 34 (0, 0))) := fun u hu => (hu.block sb (by omega)).trans HBx.out
      have HEq : Hid (∀ pa' pc', scriptA q pa' pc' h ((List.range (k + 1)).map fun j => atM zs (i + j)) = (scriptA q pa pc h ((List.range k).map fun j => atM zs (i + j))).setIfInBounds 21 (.slice pa' ((List.range (k + 1)).map fun j => atM zs (i + j)).length pc')) := fun pa' pc' => rfl
      generalize scriptA q pa pc h ((List.range k).map fun j => atM zs (i + j)) = BX at HL1 HBo c21 HEq
      have hF : wr.drew.heap[sb]? = some (.cells BX 34 (0, 0)) := HBo.out wr (Below.refl _ _)
      refine wp_region_until (fun u => u.heap[sb]? = some (.cells BX 34 (0, 0))) 10 (by kernel_rfl) ?_
      refine anyU_take 0 155 (.pointer (some ⟨sb, 21, none⟩)) rfl (by kernel_rfl) (by kernel_rfl) (by kernel_rfl) (by kernel_rfl) rfl (by kernel_rfl) (fun _ _ _ h => HQp.out _ _ _ _ _ h) (by kernel_rfl) (fun u hu => by kernel_rfl) hF (by kernel_rfl) ?_
      simp only [Act.put, List.setIfInBounds_toArray, List.set_cons_succ, List.set_cons_zero]
      refine anyU_take 1 156 (.slice pa k pc) rfl (by kernel_rfl) (by kernel_rfl) (by kernel_rfl) (by kernel_rfl) rfl (by kernel_rfl) (fun _ _ _ h => HQp.out _ _ _ _ _ h) (by kernel_rfl) (fun u hu => exec_load rfl (HL1.out u hu)) hF (by kernel_rfl) ?_
      simp only [Act.put, List.setIfInBounds_toArray, List.set_cons_succ, List.set_cons_zero]
      refine anyU_take 2 157 (.slice a len cap) rfl (by kernel_rfl) (by kernel_rfl) (by kernel_rfl) (by kernel_rfl) rfl (by kernel_rfl) (fun _ _ _ h => HQp.out _ _ _ _ _ h) (by kernel_rfl) (fun u hu => by kernel_rfl) hF (by kernel_rfl) ?_
      simp only [Act.put, List.setIfInBounds_toArray, List.set_cons_succ, List.set_cons_zero]
      refine anyU_take 3 158 (.int .i64 (i : Nat)) rfl (by kernel_rfl) (by kernel_rfl) (by kernel_rfl) (by kernel_rfl) rfl (by kernel_rfl) (fun _ _ _ h => HQp.out _ _ _ _ _ h) (by kernel_rfl) (fun u hu => by kernel_rfl) hF (by kernel_rfl) ?_
      simp only [Act.put, List.setIfInBounds_toArray, List.set_cons_succ, List.set_cons_zero]
      refine anyU_take 4 159 (.int .i64 (k : Nat)) rfl (by kernel_rfl) (by kernel_rfl) (by kernel_rfl) (by kernel_rfl) rfl (by kernel_rfl) (fun _ _ _ h => HQp.out _ _ _ _ _ h) (by kernel_rfl) (fun u hu => by kernel_rfl) hF (by kernel_rfl) ?_
      simp only [Act.put, List.setIfInBounds_toArray, List.set_cons_succ, List.set_cons_zero]
      refine anyU_take 5 160 (.int .i64 ((i + k : Nat) : Int)) rfl (by kernel_rfl) (by kernel_rfl) (by kernel_rfl) (by kernel_rfl) rfl (by kernel_rfl) (fun _ _ _ h => HQp.out _ _ _ _ _ h) (by kernel_rfl) (fun u hu => (by go_simp; try exact (IntKind.wrap_i64 _).trans (by omega))) hF (by kernel_rfl) ?_
      simp only [Act.put, List.setIfInBounds_toArray, List.set_cons_succ, List.set_cons_zero]
      refine anyU_call 6 161 (by kernel_rfl) rfl (by kernel_rfl) (by kernel_rfl) (f := 19) (args := #[.slice a len cap, .int .i64 ((i + k : Nat) : Int)]) (by kernel_rfl) ?_
      refine (HAt.out (i + k) wr.drew (by omega) hwr.drew).mono ?_
      rintro e v' ⟨rfl, hv'⟩
      rw [hv', HZ.out]
      clear hv' v'
      refine ⟨_, rfl, fun _ => hF, ?_⟩
      simp only [Act.put, List.setIfInBounds_toArray, List.set_cons_succ, List.set_cons_zero]
      have m7 := (Below.refl wr.drew.heap.size wr.drew).alloc (Nat.le_refl _) (Obj.cells #[.int .i64 z] 2)
      have m67 : Below wr.heap.size wr (wr.drew.alloc (Obj.cells #[.int .i64 z] 2)) := Below.step (Below.refl _ _).drew m7 (Nat.le_refl _)
      have hs67 : sb + 1 ≤ wr.heap.size := by omega
      refine anyU_val 7 162 (.slice (some ⟨wr.drew.heap.size, 0, none⟩) 1 1) (w' := wr.drew.alloc (Obj.cells #[.int .i64 z] 2)) (by kernel_rfl) rfl (by kernel_rfl) (by kernel_rfl) (by go_simp) (fun _ => HBo.out _ (m67.mono hs67)) ?_
      simp only [Act.put, List.setIfInBounds_toArray, List.set_cons_succ, List.set_cons_zero]
      have O7 := own_below HO.out m67
      have W7 : RowC (wr.drew.alloc (Obj.cells #[.int .i64 z] 2)) (some ⟨wr.drew.heap.size, 0, none⟩) 1 1 (picksC [z]) := (OwnC.new 2 1 wr.drew (picksC [z]) 1 (by rfl) (by decide)).row
      have s7 := m67.size
      refine anyU_append 8 163 (by kernel_rfl) rfl (by kernel_rfl) (by kernel_rfl) (.tmp 156) (.tmp 162) 32 (by kernel_rfl) 2 Try.underlying32 (.int .i64 0) 1 8 Try.infoI rfl (by decide) (sb + 1) k _ (picksC ((List.range k).map fun j => atM zs (i + j))) (by kernel_rfl) O7 wr.drew.heap.size 0 1 1 (picksC [z]) (by kernel_rfl) (by omega) W7 (picksC_one _) (by omega) (by omega) (by omega) (sb + 1) _ (Below.refl _ _) (Nat.le_refl _) ?_
      intro g8 c8 v8 o8 m8
      have B8 := HBo.out v8 ((m67.mono hs67).trans m8)
      refine ⟨fun _ => B8, ?_⟩
      simp only [Act.put, List.setIfInBounds_toArray, List.set_cons_succ, List.set_cons_zero]
      refine anyU_free 9 164 (.pointer (some ⟨sb, 21, none⟩)) rfl (by kernel_rfl) (by kernel_rfl) (by kernel_rfl) (by kernel_rfl) rfl (fun _ _ _ h => HQp.out _ _ _ _ _ h) (by kernel_rfl) (fun u => by kernel_rfl) (.inr B8) (by kernel_rfl) ?_
      simp only [Act.put, List.setIfInBounds_toArray, List.set_cons_succ, List.set_cons_zero]
      have HSt : Hid ((Instr.storeAt 32 (.pointer (some ⟨sb, 21, none⟩)) (.slice (some ⟨g8, 0, none⟩) (k + 1) c8)).run Try.prog v8 = .ok () (v8.setCell ⟨sb, 21, none⟩ (.slice (some ⟨g8, 0, none⟩) (k + 1) c8))) := by
        have h1 := box_cell B8 21 c21
        have h2 := box_free B8 21
        show _ = _
        go_simp
      refine anyU_store 10 rfl (T := 32) (x := .tmp 164) (y := .tmp 163) (by kernel_rfl) (by kernel_rfl) (by kernel_rfl) (by kernel_rfl) (b := sb) (off := 21) (by kernel_rfl) (by kernel_rfl) HSt.out (.inl (by kernel_rfl)) ?_
      refine anyU_done (by kernel_rfl) ?_ _
      go_wp2_with fail
      have hg8 : sb + 1 ≤ g8 := (own_ptr o8 ⟨g8, 0, none⟩ rfl).1
      refine ⟨⟨k + 1, some ⟨g8, 0, none⟩, c8, by omega, by go_num, ?_, ?_, ?_⟩, ?_⟩
      · refine gb_set ?_ 21 _
        have hG := HG.out
        exact ⟨m8.os.trans (m67.os.trans hG.os), m8.tape.trans (m67.tape.trans hG.tape), m8.output.trans (m67.output.trans hG.output), by have := m8.size; omega, fun j hj hne => (m8.block j (by omega)).trans ((m67.block j (by omega)).trans (hG.block j hj hne))⟩
      · rw [HEq.out, show ((List.range (k + 1)).map fun j => atM zs (i + j)).length = k + 1 by simp]
        exact box_set B8 21 _
      · have := OwnC.gb o8 (gb_set (gb_refl v8 (some sb)) 21 (.slice (some ⟨g8, 0, none⟩) (k + 1) c8)) (by omega)
        have e : picksC ((List.range k).map fun j => atM zs (i + j)) ++ picksC [z] = picksC ((List.range (k + 1)).map fun j => atM zs (i + j)) := by
          rw [range_snoc, HZ.out]
          simp [picksC]
        rw [e] at this
        exact this
      · simp [intOf]
        omega
    · have hkn' : k = n := by omega
      subst hkn'
      have HEf : Hid (DecEnd w wr hb q h) := by
        have hG := HG.out
        have hE := HE9.out
        exact ⟨heap_gb hE.box hG (by omega), heap_gb hE.res hG (by omega), hE.low, box_own_set hE.mem HB9.out (by decide) hG, hE.memb, box_own_set hE.regs HB9.out (by decide) hG, hE.ks.set HB9.out (by decide) hG, hwr⟩
      go_upto_region 43 with fail
      have hS := script_size q pa pc h ((List.range k).map fun j => atM zs (i + j))
      have hR := HEf.out.res
      have HLd : Hid _ := box_whole (P := Try.prog) (T := 34) HBx.out Try.underlying34 rfl (by rw [hS]; exact scriptI)
      have HSr : Hid _ := box_put (P := Try.prog) (T := 34) (V := scriptA q pa pc h ((List.range k).map fun j => atM zs (i + j))) hR (by rw [hS]; exact scriptI) (by rw [hS, zscript_size]) (script_one _ _ _ _ _)
      have e1 := box_putH (V := scriptA q pa pc h ((List.range k).map fun j => atM zs (i + j))) hR (by rw [hS, zscript_size])
      have gR := setCells_gb w.heap.size (scriptA q pa pc h ((List.range k).map fun j => atM zs (i + j))).toList 0 wr wr (gb_refl wr _)
      have nR := bel_sets (Nat.le_refl w.heap.size) (scriptA q pa pc h ((List.range k).map fun j => atM zs (i + j))).toList 0 wr hwr
      have HOf : Hid ((wr.setCells w.heap.size 0 (scriptA q pa pc h ((List.range k).map fun j => atM zs (i + j))).toList).ownsRow (sb + 1) 2 1 (.slice pa k pc) k (picksC ((List.range k).map fun j => atM zs (i + j)))) := own_gb HO.out gR (by omega)
      have HEg : Hid _ := (HEf.out.hart HKo.out hml hrl)
      go_wp2_with (first
        | ((with_reducible refine wpl_load ?_ HLd.out ?_); (exact rfl))
        | ((with_reducible refine wpl_store ?_ ?_ HSr.out ?_); (exact rfl); (exact rfl)))
      rw [← HQ.out]
      refine ret_box (b := w.heap.size) Try.results5 rfl (box_wholeV (P := Try.prog) e1 Try.underlying34 rfl (by rw [hS]; exact scriptI)) rfl ?_
      rw [HPs.out]
      refine ⟨⟨q, pa, pc, rfl, HEg.out.1.gb gR (fun x hx => by have := HEf.out.above x hx; omega), HEg.out.2, ?_⟩, nR⟩
      have := own_low HOf.out (show w.heap.size ≤ sb + 1 by omega)
      simp only [List.length_map, List.length_range]
      exact this
/-- The specification's scripts. -/
theorem specDecode_any (a : Option Addr) (len cap : Nat) (zs : List Int) (w : World) (hB : Byt w a len zs) (hl : len ≤ 1048576) :
    Calls Try.prog 5 #[.slice a len cap] w (DecPost w (decodeHM zs) (picksM zs)) := by
  have hb := hB.2.1
  refine dec_front a len cap zs w hB hl _ ?_
  intro v hb' size n p u5 u15 u16 u17 u18 u19 u20 u21 u22 u23 u24 u25 u26 u27 u28 u29 u30 u31 u32 u33 u34 u35 u36 u37 u38 u39 u40 u41 u42 u43 u44 u45 u46 u47 u48 u49 u50 u51 u52 u53 u54 u55 u56 u57 u58 u59 u60 u61 u62 u63 u64 u65 u66 u67 u68 u69 u70 u71 u72 u73 u74 u75 u76 u77 u78 u79 u80 u81 u82 u83 u84 u85 hD har hcr hsz hn K hK
  have h3 := atM_bd hb 3
  have hsz' : 64 ≤ size ∧ size ≤ 4096 := by omega
  have hko : kOk ⟨emptyM (atM zs 0), emptyM (atM zs 1), emptyM (atM zs 2)⟩ := ⟨empty_ok _, empty_ok _, empty_ok _⟩
  have hn2 : n ≤ 20000 := by rw [hn]; unfold stepsM; omega
  refine dec_back a len cap zs w hB hl v hb' size n p u5 u15 u16 u17 u18 u19 u20 u21 u22 u23 u24 u25 u26 u27 u28 u29 u30 u31 u32 u33 u34 u35 u36 u37 u38 u39 u40 u41 u42 u43 u44 u45 u46 u47 u48 u49 u50 u51 u52 u53 u54 u55 u56 u57 u58 u59 u60 u61 u62 u63 u64 u65 u66 u67 u68 u69 u70 u71 u72 u73 u74 u75 u76 u77 u78 u79 u80 u81 u82 u83 u84 u85 _ _ _ _ _ _ _ hko hD har hcr hsz' hn2 _ ?_ K hK
  intro v9 q mem i u5 u7 u9 u10 u11 u12 u15 u16 u17 u18 u19 u20 u21 u22 u23 u24 u25 u26 u27 u28 u29 u30 u31 u32 u33 u34 u35 u36 u37 u38 u39 u40 u41 u42 u43 u44 u45 u46 u47 u48 u49 u50 u51 u52 u53 u54 u55 u56 u57 u58 u59 u60 u61 u62 u63 u64 u65 u66 u67 u68 u69 u70 u71 u72 u73 u74 u75 u76 u77 u78 u79 u80 u81 u82 u83 u84 u85 u86 u87 u88 u89 u90 u91 u92 u93 u94 u95 u96 u97 u98 u99 u100 u101 u102 u103 u104 u105 u106 u107 u108 u109 u110 u111 u112 u113 u114 u115 u116 u117 u118 u119 u120 u121 u122 u123 u124 u125 u126 u127 u128 u129 u130 u131 u132 u133 u134 u135 u136 u137 u138 u139 u140 u141 u142 u143 u144 u145 u146 u147 hE hml hi hrun K2 hK2
  have hmem : memM zs = (mem, i) := by unfold memM; rw [← hsz]; exact hrun
  have hX : decodeHM zs = ⟨mem, regsM zs, longM zs 7, modeM (atM zs 4), atM zs 4 / 4 % 2 == 1, atM zs 4 / 8 % 2 == 1, if schemeM (longM zs 23) = true then longM zs 23 else 0, longM zs 15 / 4 * 4, 0, modeM (atM zs 4), 0, 0, ⟨emptyM (atM zs 0), emptyM (atM zs 1), emptyM (atM zs 2)⟩⟩ := by
    unfold decodeHM
    rw [hmem]
  have hps : picksM zs = ((List.range n).map fun j => atM zs (i + j)) := by
    unfold picksM
    rw [hmem, ← hn]
  rw [hX, hps] at hK2 ⊢
  exact dec_end a len cap zs w hB hl v9 hb' size n i q _ u5 u7 u9 u10 u11 u12 u15 u16 u17 u18 u19 u20 u21 u22 u23 u24 u25 u26 u27 u28 u29 u30 u31 u32 u33 u34 u35 u36 u37 u38 u39 u40 u41 u42 u43 u44 u45 u46 u47 u48 u49 u50 u51 u52 u53 u54 u55 u56 u57 u58 u59 u60 u61 u62 u63 u64 u65 u66 u67 u68 u69 u70 u71 u72 u73 u74 u75 u76 u77 u78 u79 u80 u81 u82 u83 u84 u85 u86 u87 u88 u89 u90 u91 u92 u93 u94 u95 u96 u97 u98 u99 u100 u101 u102 u103 u104 u105 u106 u107 u108 u109 u110 u111 u112 u113 u114 u115 u116 u117 u118 u119 u120 u121 u122 u123 u124 u125 u126 u127 u128 u129 u130 u131 u132 u133 u134 u135 u136 u137 u138 u139 u140 u141 u142 u143 u144 u145 u146 u147 hE hn2 hi hko (by show 0 < mem.length; omega) (by show 0 < (regsM zs).length; simp [regsM]) _ rfl K2 hK2

end Go.Proofs.Ythekickjjaleaac

/- The program's scripts: setMode, picks, run. -/
namespace Go.Proofs.Ythekickjjaleaac
open Go.RowKit
set_option linter.unusedVariables false
attribute [local go_sem ↓] Go.wp_at_zero Go.wp_at_succ

set_option maxRecDepth 100000 in
theorem and4 : ∀ n : Nat, n < 256 → (bits .and .u8 (n : Int) 4 != 0) = ((n : Int) / 4 % 2 == 1) := by decide
set_option maxRecDepth 100000 in
theorem and8 : ∀ n : Nat, n < 256 → (bits .and .u8 (n : Int) 8 != 0) = ((n : Int) / 8 % 2 == 1) := by decide

theorem made_one (v : Value) (n : Nat) : (madeCells #[v] n).toList = List.replicate n v := by
  apply List.ext_getElem?
  intro j
  by_cases hj : j < n
  · simp [madeCells, hj, Nat.mod_one]
  · rw [List.getElem?_eq_none (by simp [madeCells]; omega), List.getElem?_eq_none (by simp; omega)]

theorem makeI (n : Nat) (hn : n ≤ 20000) : ∃ cs : Array Value, cs.toList = picksC (List.replicate n 0) ∧ ∀ u : World, (Instr.makeSlice 32 (.int .i64 (n : Int)) (.int .i64 (n : Int))).run Try.prog u = .ok (.slice (some ⟨u.heap.size, 0, none⟩) n n) (u.alloc (.cells cs 2)) := by
  obtain ⟨i0, hi, hz0, hz1, hz2⟩ := info_parts Try.infoI
  refine ⟨madeCells (Value.int .i64 0).cells (n * 1), ?_, fun u => ?_⟩
  · rw [Nat.mul_one]
    exact (made_one (.int .i64 0) n).trans (by simp [picksC])
  · have := run_make (P := Try.prog) u 32 2 i0 _ Try.underlying32 hi hz0 .i64 .i64 n n (by omega) (Int.le_refl _) (by rw [hz2]; omega) (by omega)
    rw [hz1] at this
    simpa using this

/-- The picks read so far, of n. -/
def pkl (zs : List Int) (p n t : Nat) : List Int := ((List.range t).map fun j => atM zs (p + j)) ++ List.replicate (n - t) 0
theorem pkl_zero (zs : List Int) (p n t : Nat) (h : t < n) : (picksC (pkl zs p n t))[t]? = some (.int .i64 0) := by
  unfold pkl picksC
  rw [List.map_append, List.getElem?_append_right (by simp)]
  obtain ⟨m, hm⟩ : ∃ m, n - t = m + 1 := ⟨n - t - 1, by omega⟩
  rw [hm, List.replicate_succ]
  simp
theorem pkl_set (zs : List Int) (p n t : Nat) (h : t < n) : (picksC (pkl zs p n t)).set t (.int .i64 (atM zs (p + t))) = picksC (pkl zs p n (t + 1)) := by
  unfold pkl picksC
  rw [List.map_append, List.set_append_right _ _ (by simp), range_snoc, List.map_append, List.map_append]
  obtain ⟨m, hm⟩ : ∃ m, n - t = m + 1 := ⟨n - t - 1, by omega⟩
  rw [hm, show n - (t + 1) = m by omega, List.replicate_succ]
  simp

set_option maxHeartbeats 1600000 in
theorem picks_any (b len cap p n : Nat) (a : Option Addr) (zs : List Int) (w : World) (h : RdAt w b a len cap zs p) (hn : n ≤ 20000) :
    Calls Try.prog 29 #[.pointer (some ⟨b, 0, none⟩), .int .i64 n] w fun e w' => (∃ g, e = .returned (.slice (some ⟨g, 0, none⟩) n n) ∧ OwnC 2 1 w' w.heap.size g n n (picksC ((List.range n).map fun j => atM zs (p + j)))) ∧ RdAt w' b a len cap zs (p + n) ∧ w.grownBy w' (some b) := by
  have HR : Hid _ := h
  have HBd : Hid (∀ i : Nat, 0 ≤ zs[i]?.getD 0 ∧ zs[i]?.getD 0 ≤ 255) := h.byt.2.1
  have hbl := h.lt
  clear h
  obtain ⟨cs, hcs, hmk⟩ := makeI n hn
  have n0 := (Below.refl w.heap.size w).alloc (Nat.le_refl _) (Obj.cells cs 2)
  have O0 : Hid (OwnC 2 1 (w.alloc (Obj.cells cs 2)) w.heap.size w.heap.size n n (picksC (pkl zs p n 0))) := by
    have := OwnC.new 2 1 w cs.toList n (by rw [hcs]; simp [picksC]) (by unfold maxLen; omega)
    rw [Array.toArray_toList, hcs] at this
    exact this
  have HR0 : Hid _ := HR.out.keep n0
  have G0 : Hid _ := bel_gb' (r := some b) n0
  clear n0 hcs
  go_enter Try.func29, Try.ntmps29
  go_wp2_with fail
  go_loopw [11] (fun iv wr => ∃ (t : Nat), t ≤ n ∧ iv = .int .i64 t ∧ RdAt wr b a len cap zs (p + t) ∧ OwnC 2 1 wr w.heap.size w.heap.size n n (picksC (pkl zs p n t)) ∧ w.grownBy wr (some b)) (fun iv _ => n - (intOf iv).toNat)
  case atStart => exact ⟨0, Nat.zero_le _, rfl, HR0.out, O0.out, G0.out⟩
  case round =>
    clear O0 HR0 G0
    obtain ⟨t, ht, rfl, hR, hO, hG⟩ := hrel
    have HRt : Hid _ := hR
    have HOt : Hid _ := hO
    have HGt : Hid _ := hG
    clear hR hO hG
    by_cases htn : t < n
    · obtain ⟨L, hL⟩ : ∃ L, atM zs (p + t) = L := ⟨_, rfl⟩
      have HL : Hid _ := hL
      have hb := HBd.out (p + t)
      rw [show zs[p + t]?.getD 0 = L from hL] at hb
      obtain ⟨hb1, hb2⟩ := hb
      clear hL
      go_wp2_with fail
      refine (next_any b len cap (p + t) a zs wr HRt.out).mono ?_
      rintro e v1 ⟨rfl, hR1, hG1⟩
      rw [HL.out]
      have O1 := OwnC.gb HOt.out hG1 (show w.heap.size ≠ b by omega)
      have c1 := own_cell O1 t (.int .i64 0) (pkl_zero zs p n t htn)
      have f1 := own_free O1 t
      have hsz : w.heap.size < v1.heap.size := (OwnC.facts O1).2.2.1
      have O2 : Hid (OwnC 2 1 (v1.setCell ⟨w.heap.size, t, none⟩ (.int .i64 L)) w.heap.size w.heap.size n n (picksC (pkl zs p n (t + 1)))) := by
        have := own_store O1 t (.int .i64 L)
        rw [← HL.out, pkl_set zs p n t htn, HL.out] at this
        exact this
      have g2 := gb_set (gb_refl v1 (some w.heap.size)) t (.int .i64 L)
      have HR2 : Hid _ := hR1.gb g2 (show b ≠ w.heap.size by omega) (HR.out.off (Nat.le_refl _))
      have HG2 : Hid (w.grownBy (v1.setCell ⟨w.heap.size, t, none⟩ (.int .i64 L)) (some b)) := by
        have h0 := gb_trans HGt.out hG1
        exact ⟨g2.os.trans h0.os, g2.tape.trans h0.tape, g2.output.trans h0.output, Nat.le_trans h0.size g2.size, fun k hk hne => (g2.block k (Nat.lt_of_lt_of_le hk h0.size) (by simp; omega)).trans (h0.block k hk hne)⟩
      clear O1 g2 hR1 hG1
      go_wp2_with fail
      refine ⟨⟨t + 1, by omega, by go_num, HR2.out, O2.out, HG2.out⟩, ?_⟩
      simp [intOf]
      omega
    · have ht' : t = n := by omega
      subst ht'
      go_wp2_with fail
      go_ret
      refine ⟨⟨_, rfl, ?_⟩, HRt.out, HGt.out⟩
      have := HOt.out
      unfold pkl at this
      rw [Nat.sub_self, List.replicate_zero, List.append_nil] at this
      exact this

set_option maxHeartbeats 1600000 in
theorem setMode_any (b len cap p hb : Nat) (a : Option Addr) (zs : List Int) (q : PtrM) (h : HartM) (w : World) (hR : RdAt w b a len cap zs p) (hB : w.heap[hb]? = some (.cells (hartA q h) 31 (0, 0))) (hne : b ≠ hb) (hna : 0 < len → ∀ x, a = some x → x.block ≠ hb) :
    Calls Try.prog 24 #[.pointer (some ⟨b, 0, none⟩), .pointer (some ⟨hb, 0, none⟩)] w fun e w' => e = .returned (.tuple #[]) ∧ w'.heap[hb]? = some (.cells (hartA q ⟨h.mem, h.regs, h.pc, modeM (atM zs p), atM zs p / 4 % 2 == 1, atM zs p / 8 % 2 == 1, h.satp, h.tvec, h.epc, modeM (atM zs p), h.cause, h.tval, h.k⟩) 31 (0, 0)) ∧ RdAt w' b a len cap zs (p + 1) ∧ Keeps w w' b hb hb := by
  have HR : Hid _ := hR
  have HB : Hid _ := hB
  have hb' := hR.byt.2.1 p
  have hbl := hR.lt
  have hhl : hb < w.heap.size := (Array.getElem?_eq_some_iff.1 hB).1
  have HNa : Hid _ := hna
  clear hR hB hna
  obtain ⟨y, hy⟩ : ∃ y, atM zs p = y := ⟨_, rfl⟩
  rw [show zs[p]?.getD 0 = y from hy] at hb'
  have HY : Hid _ := hy
  rw [hy]
  clear hy
  obtain ⟨hy1, hy2⟩ := hb'
  have HA4 : Hid ((bits .and .u8 y 4 != 0) = (y / 4 % 2 == 1)) := by
    obtain ⟨n, rfl⟩ := Int.eq_ofNat_of_zero_le hy1
    exact and4 n (by omega)
  have HA8 : Hid ((bits .and .u8 y 8 != 0) = (y / 8 % 2 == 1)) := by
    obtain ⟨n, rfl⟩ := Int.eq_ofNat_of_zero_le hy1
    exact and8 n (by omega)
  go_enter Try.func24, Try.ntmps24
  go_wp2_with fail
  refine (next_any b len cap p a zs w HR.out).mono ?_
  rintro e v1 ⟨rfl, hR1, hG1⟩
  rw [HY.out]
  have HR1 : Hid _ := hR1
  have HG1 : Hid _ := hG1
  have HB1 : Hid _ := heap_gb HB.out hG1 (Ne.symm hne)
  have hs1 := hG1.size
  clear hR1 hG1
  have c3 := box_cell HB1.out 3 (show (hartA q h)[3]? = some (.int .i64 h.mode) from rfl)
  have f3 := box_free HB1.out 3
  have hh1 : hb < v1.heap.size := by omega
  go_upto_region 2 with fail
  clear c3 f3
  have B2 : Hid ((v1.setCell ⟨hb, 3, none⟩ (.int .i64 (y % 4))).heap[hb]? = some (.cells (hartA q (⟨h.mem, h.regs, h.pc, (y % 4), h.sum, h.mxr, h.satp, h.tvec, h.epc, h.emode, h.cause, h.tval, h.k⟩ : HartM)) 31 (0, 0))) := box_set HB1.out 3 _
  have g2 := gb_set (gb_refl v1 (some hb)) 3 (.int .i64 (y % 4))
  obtain ⟨md, hmd⟩ : ∃ md, y % 4 = md := ⟨_, rfl⟩
  have HM0 : Hid _ := hmd
  have hmb : 0 ≤ md ∧ md ≤ 3 := by omega
  rw [hmd] at B2 g2 ⊢
  generalize v1.setCell ⟨hb, 3, none⟩ (.int .i64 md) = v2 at B2 g2 ⊢
  clear hmd
  have c3 := box_cell B2.out 3 (show (hartA q (⟨h.mem, h.regs, h.pc, md, h.sum, h.mxr, h.satp, h.tvec, h.epc, h.emode, h.cause, h.tval, h.k⟩ : HartM))[3]? = some (.int .i64 md) from rfl)
  have hh2 : hb < v2.heap.size := (Array.getElem?_eq_some_iff.1 B2.out).1
  have f3 := box_free B2.out 3
  go_wp2_with fail
  refine (knownMode_at md v2).mono ?_
  rintro e v' ⟨rfl, hv'⟩
  rw [hv']
  clear hv' v'
  by_cases hm3 : md = 3
  · subst hm3
    have HMd : Hid (modeM y = 1) := by show _ = _; unfold modeM; rw [HM0.out]; rfl
    go_upto_region 4 with fail
    have B3 : Hid ((v2.setCell ⟨hb, 3, none⟩ (.int .i64 1)).heap[hb]? = some (.cells (hartA q (⟨h.mem, h.regs, h.pc, 1, h.sum, h.mxr, h.satp, h.tvec, h.epc, h.emode, h.cause, h.tval, h.k⟩ : HartM)) 31 (0, 0))) := box_set B2.out 3 _
    have g3 : Hid _ := gb_trans g2 (gb_set (gb_refl v2 (some hb)) 3 (.int .i64 1))
    clear c3 f3 HM0
    generalize v2.setCell ⟨hb, 3, none⟩ (.int .i64 1) = v3 at B3 g3 ⊢
    have c3 := box_cell B3.out 3 (show (hartA q (⟨h.mem, h.regs, h.pc, 1, h.sum, h.mxr, h.satp, h.tvec, h.epc, h.emode, h.cause, h.tval, h.k⟩ : HartM))[3]? = some (.int .i64 1) from rfl)
    have c9 := box_cell B3.out 9 (show (hartA q (⟨h.mem, h.regs, h.pc, 1, h.sum, h.mxr, h.satp, h.tvec, h.epc, h.emode, h.cause, h.tval, h.k⟩ : HartM))[9]? = some (.int .i64 h.emode) from rfl)
    have c4 := box_cell B3.out 4 (show (hartA q (⟨h.mem, h.regs, h.pc, 1, h.sum, h.mxr, h.satp, h.tvec, h.epc, h.emode, h.cause, h.tval, h.k⟩ : HartM))[4]? = some (.bool h.sum) from rfl)
    have c5 := box_cell B3.out 5 (show (hartA q (⟨h.mem, h.regs, h.pc, 1, h.sum, h.mxr, h.satp, h.tvec, h.epc, h.emode, h.cause, h.tval, h.k⟩ : HartM))[5]? = some (.bool h.mxr) from rfl)
    have f9 := box_free B3.out 9
    have f4 := box_free B3.out 4
    have f5 := box_free B3.out 5
    have hh3 : hb < v3.heap.size := (Array.getElem?_eq_some_iff.1 B3.out).1
    have hA4 := HA4.out
    have hA8 := HA8.out
    have B6 : Hid ((((v3.setCell ⟨hb, 9, none⟩ (.int .i64 1)).setCell ⟨hb, 4, none⟩ (.bool (y / 4 % 2 == 1))).setCell ⟨hb, 5, none⟩ (.bool (y / 8 % 2 == 1))).heap[hb]? = some (.cells (hartA q (⟨h.mem, h.regs, h.pc, 1, (y / 4 % 2 == 1), (y / 8 % 2 == 1), h.satp, h.tvec, h.epc, 1, h.cause, h.tval, h.k⟩ : HartM)) 31 (0, 0))) := box_set (box_set (box_set B3.out 9 _) 4 _) 5 _
    have g6 : Hid (v3.grownBy (((v3.setCell ⟨hb, 9, none⟩ (.int .i64 1)).setCell ⟨hb, 4, none⟩ (.bool (y / 4 % 2 == 1))).setCell ⟨hb, 5, none⟩ (.bool (y / 8 % 2 == 1))) (some hb)) := gb_set (gb_set (gb_set (gb_refl v3 (some hb)) 9 _) 4 _) 5 _
    go_wp2_with fail
    have G6 := g6.out
    have G3 := g3.out
    go_end0
    refine ⟨rfl, ?_, (HR1.out.gb G3 hne HNa.out).gb G6 hne HNa.out, ?_⟩
    · rw [HMd.out]
      exact B6.out
    · have hG := HG1.out
      have h1 := G3.size
      exact ⟨G6.os.trans (G3.os.trans hG.os), G6.tape.trans (G3.tape.trans hG.tape), G6.output.trans (G3.output.trans hG.output), by have := G6.size; omega, fun k hk n1 n2 _ => (G6.block k (by omega) (by simpa using n2)).trans ((G3.block k (by omega) (by simpa using n2)).trans (hG.block k hk (by simpa using n1)))⟩
  · have HMd : Hid (modeM y = md) := by show _ = _; unfold modeM; rw [HM0.out, if_neg hm3]
    have hdd : decide (0 ≤ md ∧ md ≤ 2) = true := by simp; omega
    rw [hdd]
    go_upto_region 4 with fail
    have B3 := B2
    have g3 : Hid _ := g2
    clear c3 f3 HM0 hdd hm3
    generalize v2 = v3 at B3 g3 ⊢
    have c3 := box_cell B3.out 3 (show (hartA q (⟨h.mem, h.regs, h.pc, md, h.sum, h.mxr, h.satp, h.tvec, h.epc, h.emode, h.cause, h.tval, h.k⟩ : HartM))[3]? = some (.int .i64 md) from rfl)
    have c9 := box_cell B3.out 9 (show (hartA q (⟨h.mem, h.regs, h.pc, md, h.sum, h.mxr, h.satp, h.tvec, h.epc, h.emode, h.cause, h.tval, h.k⟩ : HartM))[9]? = some (.int .i64 h.emode) from rfl)
    have c4 := box_cell B3.out 4 (show (hartA q (⟨h.mem, h.regs, h.pc, md, h.sum, h.mxr, h.satp, h.tvec, h.epc, h.emode, h.cause, h.tval, h.k⟩ : HartM))[4]? = some (.bool h.sum) from rfl)
    have c5 := box_cell B3.out 5 (show (hartA q (⟨h.mem, h.regs, h.pc, md, h.sum, h.mxr, h.satp, h.tvec, h.epc, h.emode, h.cause, h.tval, h.k⟩ : HartM))[5]? = some (.bool h.mxr) from rfl)
    have f9 := box_free B3.out 9
    have f4 := box_free B3.out 4
    have f5 := box_free B3.out 5
    have hh3 : hb < v3.heap.size := (Array.getElem?_eq_some_iff.1 B3.out).1
    have hA4 := HA4.out
    have hA8 := HA8.out
    have B6 : Hid ((((v3.setCell ⟨hb, 9, none⟩ (.int .i64 md)).setCell ⟨hb, 4, none⟩ (.bool (y / 4 % 2 == 1))).setCell ⟨hb, 5, none⟩ (.bool (y / 8 % 2 == 1))).heap[hb]? = some (.cells (hartA q (⟨h.mem, h.regs, h.pc, md, (y / 4 % 2 == 1), (y / 8 % 2 == 1), h.satp, h.tvec, h.epc, md, h.cause, h.tval, h.k⟩ : HartM)) 31 (0, 0))) := box_set (box_set (box_set B3.out 9 _) 4 _) 5 _
    have g6 : Hid (v3.grownBy (((v3.setCell ⟨hb, 9, none⟩ (.int .i64 md)).setCell ⟨hb, 4, none⟩ (.bool (y / 4 % 2 == 1))).setCell ⟨hb, 5, none⟩ (.bool (y / 8 % 2 == 1))) (some hb)) := gb_set (gb_set (gb_set (gb_refl v3 (some hb)) 9 _) 4 _) 5 _
    go_wp2_with fail
    have G6 := g6.out
    have G3 := g3.out
    go_end0
    refine ⟨rfl, ?_, (HR1.out.gb G3 hne HNa.out).gb G6 hne HNa.out, ?_⟩
    · rw [HMd.out]
      exact B6.out
    · have hG := HG1.out
      have h1 := G3.size
      exact ⟨G6.os.trans (G3.os.trans hG.os), G6.tape.trans (G3.tape.trans hG.tape), G6.output.trans (G3.output.trans hG.output), by have := G6.size; omega, fun k hk n1 n2 _ => (G6.block k (by omega) (by simpa using n2)).trans ((G3.block k (by omega) (by simpa using n2)).trans (hG.block k hk (by simpa using n1)))⟩

end Go.Proofs.Ythekickjjaleaac
