import Derived.Test.YthekickjjaleaacPack09
import Derived.Test.YthekickjjaleaacPack14
import Derived.Test.YthekickjjaleaacPack05
import Derived.Test.YthekickjjaleaacPack02
/- Plain mathematics of scripts: what is decoded is a valid hart. No program, no memory. -/
namespace Go.Proofs.Ythekickjjaleaac
set_option linter.unusedVariables false

theorem empty_shape (y : Int) : ((emptyM y).sets = 1 ∨ (emptyM y).sets = 2 ∨ (emptyM y).sets = 4 ∨ (emptyM y).sets = 8) ∧ (1 ≤ (emptyM y).ways ∧ (emptyM y).ways ≤ 4) ∧ ((emptyM y).es.length : Int) = (emptyM y).sets * (emptyM y).ways ∧ (emptyM y).es.length ≤ 32 := by
  have hm : y % 4 = 0 ∨ y % 4 = 1 ∨ y % 4 = 2 ∨ y % 4 = 3 := by omega
  have hw : y / 4 % 4 = 0 ∨ y / 4 % 4 = 1 ∨ y / 4 % 4 = 2 ∨ y / 4 % 4 = 3 := by omega
  unfold emptyM
  rcases hm with h | h | h | h <;> rcases hw with k | k | k | k <;> rw [h, k] <;> simp only [List.length_replicate] <;> decide

theorem empty_ok (y : Int) : tlbOk (emptyM y) := by
  obtain ⟨h1, h2, h3, h4⟩ := empty_shape y
  refine ⟨?_, by omega, by omega, by omega⟩
  intro e he
  unfold emptyM at he
  have := (List.mem_replicate.1 he).2
  subst this
  simp [entOk, ent0]

theorem empty_valid (y : Int) (p : Bool) : validM (emptyM y) p = true := by
  obtain ⟨h1, h2, h3, h4⟩ := empty_shape y
  unfold validM
  rw [Bool.and_eq_true]
  refine ⟨by simp only [shapeM, decide_eq_true_eq]; exact ⟨h1, h2.1, h2.2, h3⟩, placesM_true _ p _ 0 (fun j x hx => ?_)⟩
  have hm : x ∈ (emptyM y).es := List.mem_of_getElem? hx
  unfold emptyM at hm
  have := (List.mem_replicate.1 hm).2
  subst this
  simp [placeM, ent0]

theorem lay_ok (b : List Int) (hb : ∀ i : Nat, 0 ≤ b[i]?.getD 0 ∧ b[i]?.getD 0 ≤ 255) : ∀ (m i a : Nat) (mem : List Int), (∀ z ∈ mem, 0 ≤ z ∧ z ≤ 255) → (layM b m i a mem).length = mem.length ∧ ∀ z ∈ layM b m i a mem, 0 ≤ z ∧ z ≤ 255
  | 0, i, a, mem, h => ⟨rfl, h⟩
  | m + 1, i, a, mem, h => by
    rw [layM]
    split
    · have := lay_ok b hb m (i + 1) (a + 1) (mem.set a (atM b i)) (fun z hz => by
        rcases List.mem_or_eq_of_mem_set hz with hz | rfl
        · exact h z hz
        · exact hb i)
      rw [List.length_set] at this
      exact this
    · exact lay_ok b hb m (i + 1) (a + 1) mem h

theorem runs_ok (b : List Int) (hb : ∀ i : Nat, 0 ≤ b[i]?.getD 0 ∧ b[i]?.getD 0 ≤ 255) : ∀ (n i : Nat) (mem : List Int), (∀ z ∈ mem, 0 ≤ z ∧ z ≤ 255) → (runsM b n i mem).1.length = mem.length ∧ ∀ z ∈ (runsM b n i mem).1, 0 ≤ z ∧ z ≤ 255
  | 0, i, mem, h => ⟨rfl, h⟩
  | n + 1, i, mem, h => by
    have h1 := lay_ok b hb (atM b (i + 2)).toNat (i + 3) (addrM b i) mem h
    have h2 := runs_ok b hb n (i + 3 + (atM b (i + 2)).toNat) _ h1.2
    rw [runsM]
    exact ⟨h2.1.trans h1.1, h2.2⟩

theorem long_bd {zs : List Int} (h : ∀ i : Nat, 0 ≤ zs[i]?.getD 0 ∧ zs[i]?.getD 0 ≤ 255) (i : Nat) : inU (longM zs i) := by
  unfold longM
  have := num_bd ((List.range 8).map fun k => atM zs (i + k)) 8 (fun z hz => by
    simp only [List.mem_map] at hz
    obtain ⟨j, _, rfl⟩ := hz
    exact h _) (by simp)
  unfold inU
  omega

/-- What is decoded is a valid hart. -/
theorem dec_hok {zs : List Int} (h : ∀ i : Nat, 0 ≤ zs[i]?.getD 0 ∧ zs[i]?.getD 0 ≤ 255) : HOk (decodeHM zs) := by
  have h3 := h 3
  have hm := runs_ok zs h (atM zs 87).toNat 88 (List.replicate (64 * (1 + (atM zs 3 % 64).toNat)) 0) (fun z hz => by rw [(List.mem_replicate.1 hz).2]; omega)
  rw [List.length_replicate] at hm
  have hmode : 0 ≤ modeM (atM zs 4) ∧ modeM (atM zs 4) ≤ 2 := by
    unfold modeM
    split <;> omega
  have hsat : schemeM (if schemeM (longM zs 23) = true then longM zs 23 else 0) = true := by
    split
    · assumption
    · rfl
  refine ⟨(valid_iff _).2 ⟨?_, ?_, ?_, hmode, hmode, hsat, ?_, ?_, ?_⟩, ?_, ?_, long_bd h 7, ?_, ?_, ?_, ?_, ⟨empty_ok _, empty_ok _, empty_ok _⟩⟩
  · show sizeM (memM zs).1.length = true
    unfold memM
    rw [hm.1]
    simp only [sizeM, decide_eq_true_eq]
    have : (atM zs 3 % 64).toNat ≤ 63 := by omega
    omega
  · simp [decodeHM, regsM]
  · rfl
  · show (longM zs 15 / 4 * 4) % 4 = 0
    omega
  · show 0 ≤ (0 : Int) ∧ (0 : Int) ≤ 63
    omega
  · show goodKM ⟨emptyM (atM zs 0), emptyM (atM zs 1), emptyM (atM zs 2)⟩ = true
    simp only [goodKM, empty_valid, Bool.and_self]
  · show bytesOk (memM zs).1
    intro i
    unfold memM
    cases hx : (runsM zs (atM zs 87).toNat 88 (List.replicate (64 * (1 + (atM zs 3 % 64).toNat)) 0)).1[i]? with
    | none => exact ⟨by simp, by simp⟩
    | some x =>
      have := hm.2 x (List.mem_of_getElem? hx)
      simpa using this
  · show numsOk (regsM zs)
    intro i
    cases hx : (regsM zs)[i]? with
    | none => exact ⟨by simp, by simp⟩
    | some x =>
      have hmem := List.mem_of_getElem? hx
      simp only [regsM, List.mem_cons, List.mem_map] at hmem
      have : inU x := by
        rcases hmem with rfl | ⟨j, _, rfl⟩
        · simp [inU]
        · exact long_bd h _
      simpa [inU] using this
  · show inU (if schemeM (longM zs 23) = true then longM zs 23 else 0)
    split
    · exact long_bd h 23
    · simp [inU]
  · show inU (longM zs 15 / 4 * 4)
    have := long_bd h 15
    unfold inU at this ⊢
    omega
  · show inU 0
    simp [inU]
  · show inU 0
    simp [inU]

end Go.Proofs.Ythekickjjaleaac

/- The program's scripts: what the reader reads. -/
namespace Go.Proofs.Ythekickjjaleaac
open Go.RowKit
set_option linter.unusedVariables false
attribute [local go_sem ↓] Go.wp_at_zero Go.wp_at_succ

set_option maxRecDepth 20000 in
set_option maxHeartbeats 1600000 in
theorem emptyTlb_any (b len cap p : Nat) (a : Option Addr) (zs : List Int) (w : World) (h : RdAt w b a len cap zs p) :
    Calls Try.prog 22 #[.pointer (some ⟨b, 0, none⟩)] w fun e w' => (∃ x, e = .returned x ∧ TlbOwn w.heap.size w' x (emptyM (atM zs p))) ∧ RdAt w' b a len cap zs (p + 1) ∧ w.grownBy w' (some b) := by
  have hb := h.byt.2.1 p
  have HR : Hid _ := h
  have hbl := h.lt
  obtain ⟨y, hy⟩ : ∃ y, atM zs p = y := ⟨_, rfl⟩
  have HY : Hid _ := hy
  rw [show zs[p]?.getD 0 = y from hy] at hb
  rw [hy]
  clear hy h
  obtain ⟨hy1, hy2⟩ := hb
  obtain ⟨m, hm1, hm2, hm3⟩ : ∃ m : Nat, 1 + y / 4 % 4 = m ∧ 1 ≤ m ∧ m ≤ 4 := ⟨(1 + y / 4 % 4).toNat, by omega, by omega, by omega⟩
  have a0 := alloc1 w #[.int .i64 0, .int .i64 0, .slice none 0 0] 27
  have HA0 : Hid _ := a0.1
  have n0 := a0.2.2
  have l0 := a0.2.1
  clear a0
  have hcs : y % 4 = 0 ∨ y % 4 = 1 ∨ y % 4 = 2 ∨ y % 4 = 3 := by omega
  go_enter Try.func22, Try.ntmps22
  go_upto_region 1 with fail
  generalize w.alloc (Obj.cells #[.int .i64 0, .int .i64 0, .slice none 0 0] 27) = v0 at HA0 n0 l0 ⊢
  go_wp2_with fail
  refine (next_any b len cap p a zs v0 (HR.out.keep n0)).mono ?_
  rintro e v1 ⟨rfl, hR1, hG1⟩
  rw [HY.out]
  have HR1 : Hid _ := hR1
  have HG1 : Hid _ := hG1
  have HA1 : Hid _ := heap_gb HA0.out hG1 (show w.heap.size ≠ b by omega)
  have hs1 := hG1.size
  clear hR1 hG1 HA0
  go_upto_region 2 with fail
  have HE : Hid (∀ s : Nat, (2 : Int) ^ (y % 4).toNat = s → emptyM y = ⟨s, m, List.replicate (s * m) ent0⟩) := by
    intro s hs
    unfold emptyM
    rw [hs, hm1]
    have : (2 : Nat) ^ (y % 4).toNat = s := by
      have h2 : ((2 : Int) ^ (y % 4).toNat) = (((2 : Nat) ^ (y % 4).toNat : Nat) : Int) := by simp
      omega
    rw [this]
    rfl
  rcases hcs with hc | hc | hc | hc
  · have HEs : Hid (emptyM y = ⟨(1 : Nat), m, List.replicate (1 * m) ent0⟩) := HE.out 1 (by rw [hc]; rfl)
    rw [Nat.one_mul] at HEs
    have hnb : m ≤ 32 := by omega
    obtain ⟨cs, hcs, hmk⟩ := makeE m (by omega)
    have n2 := (Below.refl v1.heap.size v1).alloc (Nat.le_refl _) (Obj.cells cs 91)
    have HA2 := heap_keep HA1.out n2 (by omega)
    have HS2 : Hid _ := box_put (P := Try.prog) (T := 27) (V := #[.int .i64 1, .int .i64 m, .slice (some ⟨v1.heap.size, 0, none⟩) m m]) HA2 (by kernel_rfl) rfl (by simp [Value.oneCell'])
    have HB2 : Hid _ := box_putH (V := #[.int .i64 1, .int .i64 m, .slice (some ⟨v1.heap.size, 0, none⟩) m m]) HA2 rfl
    have hcl : cs.toList.length = m * 6 := by rw [hcs, entsC_len, List.length_replicate]
    have O2 : Hid (OwnC 91 6 (v1.alloc (Obj.cells cs 91)) v1.heap.size v1.heap.size m m (entsC (List.replicate m ent0))) := by
      have := OwnC.new 91 6 v1 cs.toList m hcl (by unfold maxLen; omega)
      rw [Array.toArray_toList, hcs] at this
      exact this
    have g2 := setCells_gb w.heap.size (#[.int .i64 1, .int .i64 m, .slice (some ⟨v1.heap.size, 0, none⟩) m m] : Array Value).toList 0 _ _ (gb_refl (v1.alloc (Obj.cells cs 91)) _)
    have HO3 : Hid _ := OwnC.gb O2.out g2 (by omega)
    have HR3 : Hid _ := (HR1.out.keep n2).gb g2 (show b ≠ w.heap.size by omega) (HR.out.off (Nat.le_refl _))
    have HGw : Hid (w.grownBy ((v1.alloc (Obj.cells cs 91)).setCells w.heap.size 0 (#[.int .i64 1, .int .i64 m, .slice (some ⟨v1.heap.size, 0, none⟩) m m] : Array Value).toList) (some b)) := by
      have hG := HG1.out
      exact ⟨g2.os.trans (n2.os.trans (hG.os.trans n0.os)), g2.tape.trans (n2.tape.trans (hG.tape.trans n0.tape)), g2.output.trans (n2.output.trans (hG.output.trans n0.output)), by have := g2.size; have := n2.size; omega, fun k hk hne => (g2.block k (by have := n2.size; omega) (by simp; omega)).trans ((n2.block k (by omega)).trans ((hG.block k (by omega) hne).trans (n0.block k hk)))⟩
    clear HA2 hcl hcs
    go_wp2_with ((with_reducible refine wpl_store ?_ ?_ HS2.out ?_); (exact rfl); (exact rfl))
    have e1 := HB2.out
    refine ret_box (b := w.heap.size) Try.results22 rfl (box_wholeV (P := Try.prog) e1 Try.underlying27 rfl (by kernel_rfl)) rfl ?_
    refine ⟨⟨_, rfl, ?_⟩, HR3.out, HGw.out⟩
    rw [HEs.out]
    refine ⟨v1.heap.size, m, by simp, ?_⟩
    simp only [List.length_replicate]
    exact own_low HO3.out (by omega)
  · have HEs : Hid (emptyM y = ⟨(2 : Nat), m, List.replicate (2 * m) ent0⟩) := HE.out 2 (by rw [hc]; rfl)
    obtain ⟨n, hn, hnm⟩ : ∃ n : Nat, 2 * m = n ∧ (2 : Int) * (m : Int) = (n : Int) := ⟨2 * m, rfl, by omega⟩
    have hnb : n ≤ 32 := by omega
    rw [hn] at HEs
    clear hn
    obtain ⟨cs, hcs, hmk⟩ := makeE n (by omega)
    have n2 := (Below.refl v1.heap.size v1).alloc (Nat.le_refl _) (Obj.cells cs 91)
    have HA2 := heap_keep HA1.out n2 (by omega)
    have HS2 : Hid _ := box_put (P := Try.prog) (T := 27) (V := #[.int .i64 2, .int .i64 m, .slice (some ⟨v1.heap.size, 0, none⟩) n n]) HA2 (by kernel_rfl) rfl (by simp [Value.oneCell'])
    have HB2 : Hid _ := box_putH (V := #[.int .i64 2, .int .i64 m, .slice (some ⟨v1.heap.size, 0, none⟩) n n]) HA2 rfl
    have hcl : cs.toList.length = n * 6 := by rw [hcs, entsC_len, List.length_replicate]
    have O2 : Hid (OwnC 91 6 (v1.alloc (Obj.cells cs 91)) v1.heap.size v1.heap.size n n (entsC (List.replicate n ent0))) := by
      have := OwnC.new 91 6 v1 cs.toList n hcl (by unfold maxLen; omega)
      rw [Array.toArray_toList, hcs] at this
      exact this
    have g2 := setCells_gb w.heap.size (#[.int .i64 2, .int .i64 m, .slice (some ⟨v1.heap.size, 0, none⟩) n n] : Array Value).toList 0 _ _ (gb_refl (v1.alloc (Obj.cells cs 91)) _)
    have HO3 : Hid _ := OwnC.gb O2.out g2 (by omega)
    have HR3 : Hid _ := (HR1.out.keep n2).gb g2 (show b ≠ w.heap.size by omega) (HR.out.off (Nat.le_refl _))
    have HGw : Hid (w.grownBy ((v1.alloc (Obj.cells cs 91)).setCells w.heap.size 0 (#[.int .i64 2, .int .i64 m, .slice (some ⟨v1.heap.size, 0, none⟩) n n] : Array Value).toList) (some b)) := by
      have hG := HG1.out
      exact ⟨g2.os.trans (n2.os.trans (hG.os.trans n0.os)), g2.tape.trans (n2.tape.trans (hG.tape.trans n0.tape)), g2.output.trans (n2.output.trans (hG.output.trans n0.output)), by have := g2.size; have := n2.size; omega, fun k hk hne => (g2.block k (by have := n2.size; omega) (by simp; omega)).trans ((n2.block k (by omega)).trans ((hG.block k (by omega) hne).trans (n0.block k hk)))⟩
    clear HA2 hcl hcs
    go_wp2_with ((with_reducible refine wpl_store ?_ ?_ HS2.out ?_); (exact rfl); (exact rfl))
    have e1 := HB2.out
    refine ret_box (b := w.heap.size) Try.results22 rfl (box_wholeV (P := Try.prog) e1 Try.underlying27 rfl (by kernel_rfl)) rfl ?_
    refine ⟨⟨_, rfl, ?_⟩, HR3.out, HGw.out⟩
    rw [HEs.out]
    refine ⟨v1.heap.size, n, by simp, ?_⟩
    simp only [List.length_replicate]
    exact own_low HO3.out (by omega)
  · have HEs : Hid (emptyM y = ⟨(4 : Nat), m, List.replicate (4 * m) ent0⟩) := HE.out 4 (by rw [hc]; rfl)
    obtain ⟨n, hn, hnm⟩ : ∃ n : Nat, 4 * m = n ∧ (4 : Int) * (m : Int) = (n : Int) := ⟨4 * m, rfl, by omega⟩
    have hnb : n ≤ 32 := by omega
    rw [hn] at HEs
    clear hn
    obtain ⟨cs, hcs, hmk⟩ := makeE n (by omega)
    have n2 := (Below.refl v1.heap.size v1).alloc (Nat.le_refl _) (Obj.cells cs 91)
    have HA2 := heap_keep HA1.out n2 (by omega)
    have HS2 : Hid _ := box_put (P := Try.prog) (T := 27) (V := #[.int .i64 4, .int .i64 m, .slice (some ⟨v1.heap.size, 0, none⟩) n n]) HA2 (by kernel_rfl) rfl (by simp [Value.oneCell'])
    have HB2 : Hid _ := box_putH (V := #[.int .i64 4, .int .i64 m, .slice (some ⟨v1.heap.size, 0, none⟩) n n]) HA2 rfl
    have hcl : cs.toList.length = n * 6 := by rw [hcs, entsC_len, List.length_replicate]
    have O2 : Hid (OwnC 91 6 (v1.alloc (Obj.cells cs 91)) v1.heap.size v1.heap.size n n (entsC (List.replicate n ent0))) := by
      have := OwnC.new 91 6 v1 cs.toList n hcl (by unfold maxLen; omega)
      rw [Array.toArray_toList, hcs] at this
      exact this
    have g2 := setCells_gb w.heap.size (#[.int .i64 4, .int .i64 m, .slice (some ⟨v1.heap.size, 0, none⟩) n n] : Array Value).toList 0 _ _ (gb_refl (v1.alloc (Obj.cells cs 91)) _)
    have HO3 : Hid _ := OwnC.gb O2.out g2 (by omega)
    have HR3 : Hid _ := (HR1.out.keep n2).gb g2 (show b ≠ w.heap.size by omega) (HR.out.off (Nat.le_refl _))
    have HGw : Hid (w.grownBy ((v1.alloc (Obj.cells cs 91)).setCells w.heap.size 0 (#[.int .i64 4, .int .i64 m, .slice (some ⟨v1.heap.size, 0, none⟩) n n] : Array Value).toList) (some b)) := by
      have hG := HG1.out
      exact ⟨g2.os.trans (n2.os.trans (hG.os.trans n0.os)), g2.tape.trans (n2.tape.trans (hG.tape.trans n0.tape)), g2.output.trans (n2.output.trans (hG.output.trans n0.output)), by have := g2.size; have := n2.size; omega, fun k hk hne => (g2.block k (by have := n2.size; omega) (by simp; omega)).trans ((n2.block k (by omega)).trans ((hG.block k (by omega) hne).trans (n0.block k hk)))⟩
    clear HA2 hcl hcs
    go_wp2_with ((with_reducible refine wpl_store ?_ ?_ HS2.out ?_); (exact rfl); (exact rfl))
    have e1 := HB2.out
    refine ret_box (b := w.heap.size) Try.results22 rfl (box_wholeV (P := Try.prog) e1 Try.underlying27 rfl (by kernel_rfl)) rfl ?_
    refine ⟨⟨_, rfl, ?_⟩, HR3.out, HGw.out⟩
    rw [HEs.out]
    refine ⟨v1.heap.size, n, by simp, ?_⟩
    simp only [List.length_replicate]
    exact own_low HO3.out (by omega)
  · have HEs : Hid (emptyM y = ⟨(8 : Nat), m, List.replicate (8 * m) ent0⟩) := HE.out 8 (by rw [hc]; rfl)
    obtain ⟨n, hn, hnm⟩ : ∃ n : Nat, 8 * m = n ∧ (8 : Int) * (m : Int) = (n : Int) := ⟨8 * m, rfl, by omega⟩
    have hnb : n ≤ 32 := by omega
    rw [hn] at HEs
    clear hn
    obtain ⟨cs, hcs, hmk⟩ := makeE n (by omega)
    have n2 := (Below.refl v1.heap.size v1).alloc (Nat.le_refl _) (Obj.cells cs 91)
    have HA2 := heap_keep HA1.out n2 (by omega)
    have HS2 : Hid _ := box_put (P := Try.prog) (T := 27) (V := #[.int .i64 8, .int .i64 m, .slice (some ⟨v1.heap.size, 0, none⟩) n n]) HA2 (by kernel_rfl) rfl (by simp [Value.oneCell'])
    have HB2 : Hid _ := box_putH (V := #[.int .i64 8, .int .i64 m, .slice (some ⟨v1.heap.size, 0, none⟩) n n]) HA2 rfl
    have hcl : cs.toList.length = n * 6 := by rw [hcs, entsC_len, List.length_replicate]
    have O2 : Hid (OwnC 91 6 (v1.alloc (Obj.cells cs 91)) v1.heap.size v1.heap.size n n (entsC (List.replicate n ent0))) := by
      have := OwnC.new 91 6 v1 cs.toList n hcl (by unfold maxLen; omega)
      rw [Array.toArray_toList, hcs] at this
      exact this
    have g2 := setCells_gb w.heap.size (#[.int .i64 8, .int .i64 m, .slice (some ⟨v1.heap.size, 0, none⟩) n n] : Array Value).toList 0 _ _ (gb_refl (v1.alloc (Obj.cells cs 91)) _)
    have HO3 : Hid _ := OwnC.gb O2.out g2 (by omega)
    have HR3 : Hid _ := (HR1.out.keep n2).gb g2 (show b ≠ w.heap.size by omega) (HR.out.off (Nat.le_refl _))
    have HGw : Hid (w.grownBy ((v1.alloc (Obj.cells cs 91)).setCells w.heap.size 0 (#[.int .i64 8, .int .i64 m, .slice (some ⟨v1.heap.size, 0, none⟩) n n] : Array Value).toList) (some b)) := by
      have hG := HG1.out
      exact ⟨g2.os.trans (n2.os.trans (hG.os.trans n0.os)), g2.tape.trans (n2.tape.trans (hG.tape.trans n0.tape)), g2.output.trans (n2.output.trans (hG.output.trans n0.output)), by have := g2.size; have := n2.size; omega, fun k hk hne => (g2.block k (by have := n2.size; omega) (by simp; omega)).trans ((n2.block k (by omega)).trans ((hG.block k (by omega) hne).trans (n0.block k hk)))⟩
    clear HA2 hcl hcs
    go_wp2_with ((with_reducible refine wpl_store ?_ ?_ HS2.out ?_); (exact rfl); (exact rfl))
    have e1 := HB2.out
    refine ret_box (b := w.heap.size) Try.results22 rfl (box_wholeV (P := Try.prog) e1 Try.underlying27 rfl (by kernel_rfl)) rfl ?_
    refine ⟨⟨_, rfl, ?_⟩, HR3.out, HGw.out⟩
    rw [HEs.out]
    refine ⟨v1.heap.size, n, by simp, ?_⟩
    simp only [List.length_replicate]
    exact own_low HO3.out (by omega)

theorem knownMode_at (m : Int) (w : World) : Calls Try.prog 48 #[.int .i64 m] w fun e w' => e = .returned (.bool (decide (0 ≤ m ∧ m ≤ 2))) ∧ w' = w := by
  by_cases h1 : 0 ≤ m
  · by_cases h2 : m ≤ 2
    · go_enter Try.func48, Try.ntmps48
      go_wp2_with fail
      go_ret
      exact ⟨ret_bool (by simp [h1, h2]), rfl⟩
    · go_enter Try.func48, Try.ntmps48
      go_wp2_with fail
      go_ret
      exact ⟨ret_bool (by simp [h2]), rfl⟩
  · go_enter Try.func48, Try.ntmps48
    go_wp2_with fail
    go_ret
    exact ⟨ret_bool (by simp; omega), rfl⟩

theorem knownScheme_at (x : Int) (w : World) (h0 : 0 ≤ x) (h1 : x ≤ 18446744073709551615) : Calls Try.prog 49 #[.int .u64 x] w fun e w' => e = .returned (.bool (schemeM x)) ∧ w' = w := by
  have HS : Hid (schemeM x = (x / 1152921504606846976 == 0 || x / 1152921504606846976 == 8)) := by
    show _ = _
    unfold schemeM
    rw [show x / 1152921504606846976 % 16 = x / 1152921504606846976 by omega]
  have hq : 0 ≤ x / 1152921504606846976 ∧ x / 1152921504606846976 ≤ 15 := by omega
  rw [HS.out]
  clear HS
  by_cases hz : x / 1152921504606846976 = 0
  · go_enter Try.func49, Try.ntmps49
    go_wp2_with fail
    go_ret
    exact ⟨ret_bool (by simp [hz]), rfl⟩
  · have hz' : (x / 1152921504606846976 == 0) = false := by simpa using hz
    go_enter Try.func49, Try.ntmps49
    go_wp2_with fail
    go_ret
    exact ⟨ret_bool (by simp [hz]), rfl⟩

theorem satp_any (b len cap p : Nat) (a : Option Addr) (zs : List Int) (w : World) (h : RdAt w b a len cap zs p) :
    Calls Try.prog 26 #[.pointer (some ⟨b, 0, none⟩)] w fun e w' => e = .returned (.int .u64 (if schemeM (longM zs p) = true then longM zs p else 0)) ∧ RdAt w' b a len cap zs (p + 8) ∧ w.grownBy w' (some b) := by
  have hbd := long_bd h.byt.2.1 p
  have HR : Hid _ := h
  clear h
  obtain ⟨x, hx⟩ : ∃ x, longM zs p = x := ⟨_, rfl⟩
  have HX : Hid (numM zs p 8 = x) := hx
  rw [hx] at hbd ⊢
  obtain ⟨sc, hsc⟩ : ∃ sc, schemeM x = sc := ⟨_, rfl⟩
  have HSc : Hid _ := hsc
  rw [hsc]
  clear hx hsc
  go_enter Try.func26, Try.ntmps26
  go_wp2_with fail
  refine (number_any b len cap p 8 a zs w HR.out (by omega)).mono ?_
  rintro e v1 ⟨rfl, hR1, hG1⟩
  rw [HX.out]
  have HR1 : Hid _ := hR1
  have HG1 : Hid _ := hG1
  clear hR1 hG1
  go_wp2_with fail
  refine (knownScheme_at x v1 hbd.1 hbd.2).mono ?_
  rintro e v2 ⟨rfl, hv⟩
  rw [hv, HSc.out]
  clear hv v2
  cases sc
  · go_wp2_with fail
    go_ret
    exact ⟨rfl, HR1.out, HG1.out⟩
  · go_wp2_with fail
    go_ret
    exact ⟨rfl, HR1.out, HG1.out⟩

theorem bel_gb' {v v1 : World} {r : Option Nat} (h : Below v.heap.size v v1) : v.grownBy v1 r := ⟨h.os, h.tape, h.output, h.size, fun k hk _ => h.block k hk⟩

/-- The registers read so far, of eight. -/
def rgl (zs : List Int) (p t : Nat) : List Int := (0 :: (List.range t).map fun j => longM zs (p + 8 * j)) ++ List.replicate (7 - t) 0
theorem rgl_len (zs : List Int) (p t : Nat) : (rgl zs p t).length = t + 1 + (7 - t) := by
  simp [rgl]
  omega
theorem rgl_zero (zs : List Int) (p t : Nat) (h : t < 7) : (rgl zs p t)[t + 1]?.getD 0 = 0 := by
  unfold rgl
  rw [List.getElem?_append_right (by simp)]
  simp
  cases h7 : 7 - t with
  | zero => omega
  | succ n => simp
theorem rgl_set (zs : List Int) (p t : Nat) (h : t < 7) : (rgl zs p t).set (t + 1) (longM zs (p + 8 * t)) = rgl zs p (t + 1) := by
  unfold rgl
  rw [List.set_append_right _ _ (by simp), range_snoc]
  obtain ⟨m, hm⟩ : ∃ m, 7 - t = m + 1 := ⟨6 - t, by omega⟩
  rw [hm, show 7 - (t + 1) = m by omega, List.replicate_succ]
  simp

theorem makeU : ∀ u : World, (Instr.makeSlice 23 (.int .i64 8) (.int .i64 8)).run Try.prog u = .ok (.slice (some ⟨u.heap.size, 0, none⟩) 8 8) (u.alloc (.cells (numsC (List.replicate 8 0)).toArray 24)) := by
  intro u
  kernel_rfl

set_option maxHeartbeats 1600000 in
theorem regs_any (b len cap p : Nat) (a : Option Addr) (zs : List Int) (w : World) (h : RdAt w b a len cap zs p) :
    Calls Try.prog 27 #[.pointer (some ⟨b, 0, none⟩)] w fun e w' => (∃ g, e = .returned (.slice (some ⟨g, 0, none⟩) 8 8) ∧ OwnC 24 1 w' w.heap.size g 8 8 (numsC (0 :: (List.range 7).map fun j => longM zs (p + 8 * j)))) ∧ RdAt w' b a len cap zs (p + 56) ∧ w.grownBy w' (some b) := by
  have HR : Hid _ := h
  have hbl := h.lt
  clear h
  have hmk := makeU
  have n0 := (Below.refl w.heap.size w).alloc (Nat.le_refl _) (Obj.cells (numsC (List.replicate 8 0)).toArray 24)
  have O0 : Hid (OwnC 24 1 (w.alloc (Obj.cells (numsC (List.replicate 8 0)).toArray 24)) w.heap.size w.heap.size 8 8 (numsC (rgl zs p 0))) := OwnC.new 24 1 w (numsC (List.replicate 8 0)) 8 rfl (by decide)
  have HR0 : Hid _ := HR.out.keep n0
  have G0 : Hid _ := bel_gb' (r := some b) n0
  clear n0
  go_enter Try.func27, Try.ntmps27
  go_wp2_with fail
  go_loopw [4] (fun iv wr => ∃ (t : Nat), t ≤ 7 ∧ iv = .int .i64 ((t + 1 : Nat) : Int) ∧ RdAt wr b a len cap zs (p + 8 * t) ∧ OwnC 24 1 wr w.heap.size w.heap.size 8 8 (numsC (rgl zs p t)) ∧ w.grownBy wr (some b)) (fun iv _ => 9 - (intOf iv).toNat)
  case atStart => exact ⟨0, Nat.zero_le _, rfl, HR0.out, O0.out, G0.out⟩
  case round =>
    clear O0 HR0 G0
    obtain ⟨t, ht, rfl, hR, hO, hG⟩ := hrel
    have HRt : Hid _ := hR
    have HOt : Hid _ := hO
    have HGt : Hid _ := hG
    clear hR hO hG
    by_cases ht7 : t < 7
    · obtain ⟨L, hL⟩ : ∃ L, longM zs (p + 8 * t) = L := ⟨_, rfl⟩
      have HL : Hid (numM zs (p + 8 * t) 8 = L) := hL
      have HL2 : Hid _ := hL
      clear hL
      go_wp2_with fail
      refine (number_any b len cap (p + 8 * t) 8 a zs wr HRt.out (by omega)).mono ?_
      rintro e v1 ⟨rfl, hR1, hG1⟩
      rw [HL.out]
      have O1 := OwnC.gb HOt.out hG1 (show w.heap.size ≠ b by omega)
      have c1 := own_cell O1 (t + 1) (.int .u64 0) (by rw [numsC_at _ _ (by rw [rgl_len]; omega), rgl_zero zs p t (by omega)])
      have f1 := own_free O1 (t + 1)
      have hsz : w.heap.size < v1.heap.size := (OwnC.facts O1).2.2.1
      have O2 : Hid (OwnC 24 1 (v1.setCell ⟨w.heap.size, t + 1, none⟩ (.int .u64 L)) w.heap.size w.heap.size 8 8 (numsC (rgl zs p (t + 1)))) := by
        have := own_store O1 (t + 1) (.int .u64 L)
        rw [numsC_set, ← HL2.out, rgl_set zs p t ht7, HL2.out] at this
        exact this
      have g2 := gb_set (gb_refl v1 (some w.heap.size)) (t + 1) (.int .u64 L)
      have HR2 : Hid _ := hR1.gb g2 (show b ≠ w.heap.size by omega) (HR.out.off (Nat.le_refl _))
      have HG2 : Hid (w.grownBy (v1.setCell ⟨w.heap.size, t + 1, none⟩ (.int .u64 L)) (some b)) := by
        have h0 := gb_trans HGt.out hG1
        exact ⟨g2.os.trans h0.os, g2.tape.trans h0.tape, g2.output.trans h0.output, Nat.le_trans h0.size g2.size, fun k hk hne => (g2.block k (Nat.lt_of_lt_of_le hk h0.size) (by simp; omega)).trans (h0.block k hk hne)⟩
      clear O1 g2 hR1 hG1
      go_wp2_with fail
      refine ⟨⟨t + 1, by omega, by go_num, HR2.out, O2.out, HG2.out⟩, ?_⟩
      simp [intOf]
      omega
    · have ht' : t = 7 := by omega
      subst ht'
      go_wp2_with fail
      go_ret
      exact ⟨⟨_, rfl, HOt.out⟩, HRt.out, HGt.out⟩

end Go.Proofs.Ythekickjjaleaac

/- A row of empty slots that is made, and a block beside it. No program is named here. -/
namespace Go.Proofs.Ythekickjjaleaac
open Go.RowKit
set_option linter.unusedVariables false

theorem made_rep (z : EntM) (n : Nat) : (madeCells (slotC z).toArray (n * 6)).toList = slotsC (List.replicate n z) := by
  apply List.ext_getElem?
  intro j
  by_cases hj : j < n * 6
  · have hq : j / 6 < (List.replicate n z).length := by simp; omega
    have := slotsC_at (List.replicate n z) (j / 6) (j % 6) hq (by omega)
    rw [show j / 6 * 6 + j % 6 = j by omega] at this
    rw [this]
    have h6 : j % 6 < (slotC z).length := by simp [slotC]; omega
    simp only [madeCells, List.getElem_replicate]
    rw [List.getElem?_eq_getElem h6]
    simp [hj, slotC]
    rw [List.getElem?_eq_getElem (by simpa [slotC] using h6)]
    rfl
  · rw [List.getElem?_eq_none (by simp [madeCells]; omega), List.getElem?_eq_none (by rw [slotsC_len]; simp; omega)]

theorem two_new1 (v : World) (T E : TypeId) (xs cs : Array Value) (ss : List Value) (n : Nat) (hcs : cs.toList = ss) (hn : ss.length = n * 6) (hm : n ≤ maxLen) :
    ((v.alloc (.cells cs E)).alloc (.cells xs T)).drew.heap[v.heap.size + 1]? = some (.cells xs T (0, 0)) ∧ ((v.alloc (.cells cs E)).alloc (.cells xs T)).drew.ownsRow v.heap.size E 6 (.slice (some ⟨v.heap.size, 0, none⟩) n n) n ss ∧
      Below v.heap.size v ((v.alloc (.cells cs E)).alloc (.cells xs T)).drew ∧ v.heap.size + 1 < ((v.alloc (.cells cs E)).alloc (.cells xs T)).drew.heap.size := by
  have hs : cs.size = n * 6 := by rw [← hn, ← hcs]; simp
  have h1 := World.ownsRow_lit (e := E) (size := 6) v cs n (Nat.le_refl v.heap.size) hm hs
  rw [hcs] at h1
  refine ⟨?_, own_below h1 (((Below.refl _ _).alloc (Nat.le_refl _) _).drew), (((Below.refl v.heap.size v).alloc (Nat.le_refl _) _).alloc (by simp) _).drew, ?_⟩
  · have := heap_alloc_new (v.alloc (.cells cs E)) (.cells xs T)
    simp only [World.size_alloc] at this
    exact this
  · show _ < ((v.alloc (.cells cs E)).alloc (.cells xs T)).heap.size
    simp

theorem two_new2 (v : World) (T E : TypeId) (xs cs : Array Value) (ss : List Value) (n : Nat) (hcs : cs.toList = ss) (hn : ss.length = n * 6) (hm : n ≤ maxLen) :
    ((v.alloc (.cells xs T)).alloc (.cells cs E)).drew.heap[v.heap.size]? = some (.cells xs T (0, 0)) ∧ ((v.alloc (.cells xs T)).alloc (.cells cs E)).drew.ownsRow v.heap.size E 6 (.slice (some ⟨v.heap.size + 1, 0, none⟩) n n) n ss ∧
      Below v.heap.size v ((v.alloc (.cells xs T)).alloc (.cells cs E)).drew ∧ v.heap.size < ((v.alloc (.cells xs T)).alloc (.cells cs E)).drew.heap.size := by
  have hs : cs.size = n * 6 := by rw [← hn, ← hcs]; simp
  have h1 := World.ownsRow_lit (e := E) (size := 6) (v.alloc (.cells xs T)) cs n (base := v.heap.size) (by simp) hm hs
  rw [hcs] at h1
  simp only [World.size_alloc] at h1
  refine ⟨?_, h1, (((Below.refl v.heap.size v).alloc (Nat.le_refl _) _).alloc (by simp) _).drew, ?_⟩
  · show ((v.alloc (.cells xs T)).alloc (.cells cs E)).heap[v.heap.size]? = _
    rw [heap_alloc_old _ _ (by simp)]
    exact heap_alloc_new v _
  · show _ < ((v.alloc (.cells xs T)).alloc (.cells cs E)).heap.size
    simp
    omega

end Go.Proofs.Ythekickjjaleaac

/- The program's three caches in memory, and worlds that keep all but their rows. -/
namespace Go.Proofs.Ythekickjjaleaac
open Go.RowKit
set_option linter.unusedVariables false

/-- All but three blocks is as it was. -/
def Keeps (w w' : World) (x y z : Nat) : Prop :=
  w'.os = w.os ∧ w'.tape = w.tape ∧ w'.output = w.output ∧ w.heap.size ≤ w'.heap.size ∧ ∀ i, i < w.heap.size → i ≠ x → i ≠ y → i ≠ z → w'.heap[i]? = w.heap[i]?

theorem Keeps.refl (w : World) (x y z : Nat) : Keeps w w x y z := ⟨rfl, rfl, rfl, Nat.le_refl _, fun _ _ _ _ _ => rfl⟩

theorem Keeps.of_below {w w' : World} (x y z : Nat) (h : Below w.heap.size w w') : Keeps w w' x y z := ⟨h.os, h.tape, h.output, h.size, fun i hi _ _ _ => h.block i hi⟩

theorem Keeps.of_gb {w w' : World} {r : Nat} (x y z : Nat) (h : w.grownBy w' (some r)) (hr : r = x ∨ r = y ∨ r = z) : Keeps w w' x y z :=
  ⟨h.os, h.tape, h.output, h.size, fun i hi h1 h2 h3 => h.block i hi (by
    simp only [ne_eq, Option.some.injEq]
    rcases hr with rfl | rfl | rfl <;> (intro e; subst e; contradiction))⟩

theorem Keeps.trans {a b c : World} {x y z : Nat} (h : Keeps a b x y z) (k : Keeps b c x y z) : Keeps a c x y z :=
  ⟨k.1.trans h.1, k.2.1.trans h.2.1, k.2.2.1.trans h.2.2.1, Nat.le_trans h.2.2.2.1 k.2.2.2.1, fun i hi h1 h2 h3 => (k.2.2.2.2 i (Nat.lt_of_lt_of_le hi h.2.2.2.1) h1 h2 h3).trans (h.2.2.2.2 i hi h1 h2 h3)⟩

theorem Keeps.heap {w w' : World} {x y z i : Nat} {o : Obj} (h : Keeps w w' x y z) (hi : w.heap[i]? = some o) (h1 : i ≠ x) (h2 : i ≠ y) (h3 : i ≠ z) : w'.heap[i]? = some o :=
  (h.2.2.2.2 i (Array.getElem?_eq_some_iff.1 hi).1 h1 h2 h3).trans hi

theorem Keeps.below {w w' a : World} {B x y z : Nat} (hb : Below B a w) (h : Keeps w w' x y z) (hB : B ≤ w.heap.size) (h1 : B ≤ x) (h2 : B ≤ y) (h3 : B ≤ z) : Below B a w' :=
  hb.trans ⟨h.1, h.2.1, h.2.2.1, h.2.2.2.1, fun k hk => h.2.2.2.2 k (by omega) (by omega) (by omega) (by omega)⟩

def setC (k : KM) (gi gd gp : Nat) : Array Value :=
  #[.int .i64 k.i.sets, .int .i64 k.i.ways, .slice (some ⟨gi, 0, none⟩) k.i.es.length k.i.es.length, .int .i64 k.d.sets, .int .i64 k.d.ways, .slice (some ⟨gd, 0, none⟩) k.d.es.length k.d.es.length, .int .i64 k.p.sets, .int .i64 k.p.ways, .slice (some ⟨gp, 0, none⟩) k.p.es.length k.p.es.length]

/-- The three rows of slots. -/
def RowsAt (w : World) (base gi gd gp : Nat) (k : KM) : Prop :=
  w.ownsRow base 120 6 (.slice (some ⟨gi, 0, none⟩) k.i.es.length k.i.es.length) k.i.es.length (slotsC k.i.es) ∧
  w.ownsRow base 120 6 (.slice (some ⟨gd, 0, none⟩) k.d.es.length k.d.es.length) k.d.es.length (slotsC k.d.es) ∧
  w.ownsRow base 125 6 (.slice (some ⟨gp, 0, none⟩) k.p.es.length k.p.es.length) k.p.es.length (slotsC k.p.es) ∧ gi ≠ gd ∧ gi ≠ gp ∧ gd ≠ gp

theorem RowsAt.keep {w w' : World} {base gi gd gp : Nat} {k : KM} (h : RowsAt w base gi gd gp k) (hb : Below w.heap.size w w') : RowsAt w' base gi gd gp k :=
  ⟨own_below h.1 hb, own_below h.2.1 hb, own_below h.2.2.1 hb, h.2.2.2⟩

/-- The three caches: the block of their shapes, their rows. -/
def SetAt (w : World) (b base gi gd gp : Nat) (k : KM) : Prop :=
  w.heap[b]? = some (.cells (setC k gi gd gp) 84 (0, 0)) ∧ RowsAt w base gi gd gp k ∧ b ≠ gi ∧ b ≠ gd ∧ b ≠ gp

theorem SetAt.keep {w w' : World} {b base gi gd gp : Nat} {k : KM} (h : SetAt w b base gi gd gp k) (hb : Below w.heap.size w w') : SetAt w' b base gi gd gp k :=
  ⟨heap_keep h.1 hb (Array.getElem?_eq_some_iff.1 h.1).1, h.2.1.keep hb, h.2.2⟩

theorem SetAt.lt {w : World} {b base gi gd gp : Nat} {k : KM} (h : SetAt w b base gi gd gp k) : b < w.heap.size := (Array.getElem?_eq_some_iff.1 h.1).1

end Go.Proofs.Ythekickjjaleaac
