/- The specification's writing: l1Bytes, l1Put, spec.WriteMem. -/
import Derived.Test.YthekickjjaleaabSpec1
namespace Go.Proofs.Ythekickjjaleaab
open Go.RowKit
set_option linter.unusedVariables false

theorem l1Bytes_any (n : Nat) : ∀ (x : Int) (w : World), n ≤ 8 → 0 ≤ x → x ≤ 18446744073709551615 →
    Calls Try.prog 65 #[.int .u64 x, .int .i64 n] w fun e w' =>
      ∃ g cap, e = .returned (.slice (some ⟨g, 0, none⟩) n cap) ∧ OwnB 5 w' w.heap.size g n cap (byts x n) ∧ Below w.heap.size w w' := by
  induction n with
  | zero =>
    intro x w hn h0 h1
    go_enter Try.func65, Try.ntmps65
    go_wp2_with fail
    go_ret
    exact ⟨_, _, rfl, OwnB.new _ _ [] 0 rfl (by decide), (Below.refl _ _).alloc (Nat.le_refl _) _⟩
  | succ n ih =>
    intro x w hn h0 h1
    have hp : (((n + 1 : Nat) : Int) == 0) = false := by simp; omega
    have IH : Hid (∀ (x : Int) (w : World), n ≤ 8 → 0 ≤ x → x ≤ 18446744073709551615 →
      Calls Try.prog 65 #[.int .u64 x, .int .i64 n] w fun e w' =>
        ∃ g cap, e = .returned (.slice (some ⟨g, 0, none⟩) n cap) ∧ OwnB 5 w' w.heap.size g n cap (byts x n) ∧ Below w.heap.size w w') := ih
    clear ih
    go_enter Try.func65, Try.ntmps65
    go_wp2_with fail
    have o1 := OwnB.new 5 w [x % 256] 1 rfl (by decide)
    have n1 : Below w.heap.size w (w.alloc (Obj.cells #[Value.int IntKind.u8 (x % 256)] 5)) := (Below.refl _ _).alloc (Nat.le_refl _) _
    simp only [List.map_cons, List.map_nil] at o1
    generalize w.alloc (Obj.cells #[Value.int IntKind.u8 (x % 256)] 5) = v1 at o1 n1 ⊢
    refine (IH.out (x / 256) v1 (by omega) (by omega) (by omega)).mono ?_
    rintro e v2 ⟨g, cap, rfl, o2, n2⟩
    have o3 := o1.keep n2 o1.facts.2.2.1
    have f2 := o2.facts
    have n3 := Below.step n1 n2 (Nat.le_refl _)
    have hlt := o3.facts.2.2.1
    have b2 := o2.byt (bd_of_mem (byts_bd n _))
    clear o1 n1 n2 IH
    go_wp2_with (at_builtin; refine append_b _ rfl (.tmp 11) (.tmp 16) 22 rfl 5 Try.underlying22 Try.infoB w.heap.size _ _ _ _ rfl o3 g 0 n cap (byts (x / 256) n) rfl b2 (by omega) _ _ n3 (Nat.le_refl _) ?_; intro g' cap' v4 o4 n4)
    go_ret
    rw [Nat.add_comm 1 n] at o4
    exact ⟨g', cap', ret_sl (Nat.add_comm 1 n), o4, n4⟩

set_option maxHeartbeats 800000 in
theorem l1Put_any (b off len cap k g o n capb : Nat) (zs ys : List Int) (w : World) (hz : Byt w (some ⟨b, off, none⟩) len zs) (hy : Byt w (some ⟨g, o, none⟩) n ys) (hl : len ≤ 1048576) (hk : k + n ≤ len) (hc : len ≤ cap) (hm : cap ≤ 9223372036854775807) :
    Calls Try.prog 64 #[.slice (some ⟨b, off, none⟩) len cap, .int .i64 k, .slice (some ⟨g, o, none⟩) n capb] w fun e w' =>
      ∃ g' cap', e = .returned (.slice (some ⟨g', 0, none⟩) len cap') ∧ OwnB 5 w' w.heap.size g' len cap' (zs.take k ++ ys ++ zs.drop (k + n)) ∧ Below w.heap.size w w' := by
  have hzl := hz.1
  have hyl := hy.1
  have o1 := OwnB.new 5 w [] 0 rfl (by decide)
  have n1 : Below w.heap.size w (w.alloc (Obj.cells #[] 5)) := (Below.refl _ _).alloc (Nat.le_refl _) _
  simp only [List.map_nil] at o1
  have x1 : Byt (w.alloc (Obj.cells #[] 5)) (some ⟨b, off, none⟩) k (zs.take k) := (hz.take k (by omega)).keep n1
  have fin : ∀ (a : Option Addr), (k + n < len → a = some ⟨b, off + (k + n), none⟩) → ∀ v : World, Below w.heap.size w v → Byt v a (len - (k + n)) (zs.drop (k + n)) := fun a ha v hv =>
    (hz.drop (k + n) (len - (k + n)) hk rfl a ha).keep hv
  have FIN : Hid _ := fin
  have hlen : k + n + (len - (k + n)) = len := by omega
  have HL : Hid (k + n + (len - (k + n)) = len) := hlen
  clear fin hlen
  by_cases hcc : cap = k + n
  · subst hcc
    go_enter Try.func64, Try.ntmps64
    go_wp2_with (first
      | (at_builtin; refine append_b _ rfl (.tmp 8) (.tmp 11) 22 rfl 5 Try.underlying22 Try.infoB w.heap.size _ _ _ _ rfl o1 b off k _ (zs.take k) rfl x1 (by omega) _ _ n1 (Nat.le_refl _) ?_; intro g2 cap2 v2 o2 n2; rw [Nat.zero_add] at o2 ⊢; have y2 := hy.keep n2; clear o1 n1 x1)
      | (at_builtin; refine append_b _ rfl (.tmp 13) (.tmp 14) 22 rfl 5 Try.underlying22 Try.infoB w.heap.size _ _ _ _ rfl o2 g o n _ ys rfl y2 (by omega) _ _ n2 (Nat.le_refl _) ?_; intro g3 cap3 v3 o3 n3; clear o2 n2 y2 hz hy)
      | (at_builtin; refine append_b _ rfl (.tmp 16) (.tmp 22) 22 rfl 5 Try.underlying22 Try.infoB w.heap.size _ _ _ _ rfl o3 b (off) (len - (k + n)) _ (zs.drop (k + n)) rfl (FIN.out _ (fun h => by omega) _ n3) (by omega) _ _ n3 (Nat.le_refl _) ?_; intro g4 cap4 v4 o4 n4; clear o3 n3))
    go_ret
    rw [HL.out] at o4
    exact ⟨g4, cap4, ret_sl (by omega), o4, n4⟩
  · have hcl : k + n < cap := by omega
    clear hcc
    go_enter Try.func64, Try.ntmps64
    go_wp2_with (first
      | (at_builtin; refine append_b _ rfl (.tmp 8) (.tmp 11) 22 rfl 5 Try.underlying22 Try.infoB w.heap.size _ _ _ _ rfl o1 b off k _ (zs.take k) rfl x1 (by omega) _ _ n1 (Nat.le_refl _) ?_; intro g2 cap2 v2 o2 n2; rw [Nat.zero_add] at o2 ⊢; have y2 := hy.keep n2; clear o1 n1 x1)
      | (at_builtin; refine append_b _ rfl (.tmp 13) (.tmp 14) 22 rfl 5 Try.underlying22 Try.infoB w.heap.size _ _ _ _ rfl o2 g o n _ ys rfl y2 (by omega) _ _ n2 (Nat.le_refl _) ?_; intro g3 cap3 v3 o3 n3; clear o2 n2 y2 hz hy)
      | (at_builtin; refine append_b _ rfl (.tmp 16) (.tmp 22) 22 rfl 5 Try.underlying22 Try.infoB w.heap.size _ _ _ _ rfl o3 b (off + (k + n)) (len - (k + n)) _ (zs.drop (k + n)) rfl (FIN.out _ (fun _ => rfl) _ n3) (by omega) _ _ n3 (Nat.le_refl _) ?_; intro g4 cap4 v4 o4 n4; clear o3 n3))
    go_ret
    rw [HL.out] at o4
    exact ⟨g4, cap4, ret_sl (by omega), o4, n4⟩

set_option maxHeartbeats 800000 in
theorem specWrite_any (b off len cap : Nat) (zs : List Int) (addr n val : Int) (w : World) (h : Byt w (some ⟨b, off, none⟩) len zs) (hl : len ≤ 1048576) (hc : len ≤ cap) (hm : cap ≤ 9223372036854775807)
    (h0 : 0 ≤ addr) (h1 : addr ≤ 18446744073709551615) (h3 : n ≤ 9223372036854775807) (hv0 : 0 ≤ val) (hv1 : val ≤ 18446744073709551615) :
    Calls Try.prog 20 #[.slice (some ⟨b, off, none⟩) len cap, .int .u64 addr, .int .i64 n, .int .u64 val] w fun e w' =>
      ∃ g' cap', e = .returned (.slice (some ⟨g', 0, none⟩) len cap') ∧ OwnB 5 w' w.heap.size g' len cap' (wrL zs addr n val) ∧ Below w.heap.size w w' := by
  have hz := h.1
  cases hg : goodB len addr n
  · have hw : wrL zs addr n val = zs := by simp [wrL, hz, hg]
    rw [hw]
    have HG : Hid (goodB len addr n = false) := hg
    have o1 := OwnB.new 5 w [] 0 rfl (by decide)
    have n1 : Below w.heap.size w (w.alloc (Obj.cells #[] 5)) := (Below.refl _ _).alloc (Nat.le_refl _) _
    simp only [List.map_nil] at o1
    have x1 := h.keep n1
    clear hg hw h
    go_enter Try.func20, Try.ntmps20
    go_wp2_with (first
      | (go_at_call 57; refine (l1Good_any _ _ _ _ _ _ hl h0 h1 h3).mono ?_; rintro e w' ⟨rfl, rfl⟩; rw [HG.out])
      | (at_builtin; refine append_b _ rfl (.tmp 14) (.tmp 15) 22 rfl 5 Try.underlying22 Try.infoB _ _ _ _ _ rfl o1 b off len _ zs rfl x1 (by omega) _ _ n1 (Nat.le_refl _) ?_; intro g2 cap2 v2 o2 n2; rw [Nat.zero_add] at o2 ⊢; clear o1 n1 x1))
    go_ret
    exact ⟨g2, cap2, rfl, o2, n2⟩
  · have hw : wrL zs addr n val = zs.take addr.toNat ++ byts val n.toNat ++ zs.drop (addr.toNat + n.toNat) := by simp [wrL, hz, hg]
    rw [hw]
    have hg' := hg
    simp only [goodB, decide_eq_true_eq] at hg'
    obtain ⟨hn, hn1, hn2⟩ := hg'
    obtain ⟨k, rfl⟩ := Int.eq_ofNat_of_zero_le h0
    obtain ⟨m, rfl⟩ := Int.eq_ofNat_of_zero_le (show 0 ≤ n by omega)
    have hm8 : m ≤ 8 := by omega
    have hm0 : 0 < m := by omega
    have hkm : k + m ≤ len := by omega
    simp only [Int.toNat_natCast]
    have HG : Hid (goodB len k m = true) := hg
    clear hg hn hw
    go_enter Try.func20, Try.ntmps20
    go_wp2_with (go_at_call 57; refine (l1Good_any _ _ _ _ _ _ hl h0 h1 h3).mono ?_; rintro e w' ⟨rfl, rfl⟩; rw [HG.out])
    refine (l1Bytes_any m val _ hm8 hv0 hv1).mono ?_
    rintro e v1 ⟨g1, cap1, rfl, o1, n1⟩
    go_wp2_with fail
    refine (l1Put_any b off len cap k g1 0 m cap1 zs (byts val m) v1 (h.keep n1) (o1.byt (bd_of_mem (byts_bd m _))) hl hkm hc hm).mono ?_
    rintro e v2 ⟨g2, cap2, rfl, o2, n2⟩
    have n12 := Below.step n1 n2 (Nat.le_refl _)
    have o3 := o2.low n1.size
    clear o1 n1 n2 o2
    go_wp2_with fail
    go_ret
    exact ⟨g2, cap2, rfl, o3, n12⟩

end Go.Proofs.Ythekickjjaleaab
