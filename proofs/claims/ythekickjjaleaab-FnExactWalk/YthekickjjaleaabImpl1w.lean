/- The program's writing: copied, write1 .. write8, impl.WriteMem. -/
import Derived.Test.YthekickjjaleaabImpl1
namespace Go.Proofs.Ythekickjjaleaab
open Go.RowKit
set_option linter.unusedVariables false

theorem Try.sizeB : (Try.prog.info? 5).map (fun i => i.size) = some 1 := by kernel_rfl

set_option maxHeartbeats 400000 in
theorem copied_any (a : Option Addr) (len cap : Nat) (zs : List Int) (w : World) (h : Byt w a len zs) (hl : len ≤ 1048576) :
    Calls Try.prog 66 #[.slice a len cap] w fun e w' =>
      e = .returned (.slice (some ⟨w.heap.size, 0, none⟩) len len) ∧ Blk 5 w' w.heap.size zs ∧ Below w.heap.size w w' := by
  obtain ⟨i0, hi, hz0, hz1, hz2⟩ := info_parts Try.infoB
  have hz := h.1
  go_enter Try.func66, Try.ntmps66
  go_wp2_with (at_make; refine wpList_make_full _ rfl _ _ 86 rfl w.heap.size 5 i0 (.int .u8 0) 1 Try.underlying86 hi hz0 hz1 _ _ _ _ len rfl rfl rfl rfl ?b2 ?b3 (Nat.le_refl _) ?_)
  case b2 => rw [hz2]; omega
  case b3 => unfold maxLen; omega
  intro w0 hown0 hgrow0
  rw [made_u8] at hown0
  have hb0 : Blk 5 w0 w.heap.size (List.replicate len 0) := Blk.of_own hown0 rfl
  have hn0 : Below w.heap.size w w0 := (Below.refl _ _).grown hgrow0 (Nat.le_refl _) (fun k h => by cases h)
  have h0 := h.keep hn0
  clear hown0 hgrow0 h
  go_wp2_with (refine wpList_copy_splice rfl (.tmp 7) (.tmp 8) 86 86 rfl 5 Try.underlying86 Try.sizeB _ _ _ _ _ _ rfl rfl w.heap.size 0 ((List.replicate len (0 : Int)).map (Value.int .u8)) 5 hb0 (zs.map (Value.int .u8)) (by simp [hz]) (fun hp => ⟨rfl, src_any h0 (by simpa [hz] using hp)⟩) (by simp [hz]) (one_u8 _) w.heap.size w hn0 (Nat.le_refl _) ?_; intro w1 hb1 hn1)
  go_ret
  have hb2 := hb1.out
  rw [splice_all _ _ (by simp [hz])] at hb2
  exact ⟨rfl, hb2, hn1⟩

theorem write1_any (g len cap k : Nat) (zs : List Int) (val : Int) (w : World) (h : Blk 5 w g zs) (hz : zs.length = len) (hk : k < len) (hl : len ≤ 1048576) (hv0 : 0 ≤ val) (hv1 : val ≤ 18446744073709551615) :
    Calls Try.prog 67 #[.slice (some ⟨g, 0, none⟩) len cap, .int .u64 k, .int .u64 val] w fun e w' => e = .returned (.tuple #[]) ∧ Blk 5 w' g (put zs k (byts val 1)) ∧ Below g w w' := by
  have g2 := h.cell k (by omega)
  have g3 := h.free k
  have e : put zs k (byts val 1) = zs.set k (val % 256) := by rw [put_one zs k _ (by omega)]; rfl
  rw [e]
  have hb := h.store k (val % 256)
  clear e
  go_enter Try.func67, Try.ntmps67
  go_wp2_with fail
  go_end0
  exact ⟨rfl, hb, (Below.refl g w).setCell (p := ⟨g, k, none⟩) (Nat.le_refl g) _⟩

theorem write2_any (g len cap k : Nat) (zs : List Int) (val : Int) (w : World) (h : Blk 5 w g zs) (hz : zs.length = len) (hk : k + 2 ≤ len) (hl : len ≤ 1048576) (hv0 : 0 ≤ val) (hv1 : val ≤ 18446744073709551615) :
    Calls Try.prog 68 #[.slice (some ⟨g, 0, none⟩) len cap, .int .u64 k, .int .u64 val] w fun e w' => e = .returned (.tuple #[]) ∧ Blk 5 w' g (put zs k (byts val 2)) ∧ Below g w w' := by
  have hl1 : (put zs k (byts val 1)).length = len := by rw [put_len _ _ _ (by rw [byts_len]; omega), hz]
  have hj := put_byts zs k 1 1 val (by omega)
  have HJ : Hid (put (put zs k (byts val 1)) (k + 1) (byts (val / 256) 1) = put zs k (byts val 2)) := hj
  clear hj
  go_enter Try.func68, Try.ntmps68
  go_wp2_with fail
  refine (write1_any g len cap k zs val w h hz (by omega) hl hv0 hv1).mono ?_
  rintro e v1 ⟨rfl, h1, n1⟩
  go_wp2_with fail
  rw [show ((k : Int) + 1) = ((k + 1 : Nat) : Int) by omega]
  refine (write1_any g len cap (k + 1) _ (val / 256) v1 h1 hl1 (by omega) hl (by omega) (by omega)).mono ?_
  rintro e v2 ⟨rfl, h2, n2⟩
  rw [HJ.out] at h2
  go_wp2_with fail
  go_end0
  exact ⟨rfl, h2, n1.trans n2⟩

theorem write4_any (g len cap k : Nat) (zs : List Int) (val : Int) (w : World) (h : Blk 5 w g zs) (hz : zs.length = len) (hk : k + 4 ≤ len) (hl : len ≤ 1048576) (hv0 : 0 ≤ val) (hv1 : val ≤ 18446744073709551615) :
    Calls Try.prog 69 #[.slice (some ⟨g, 0, none⟩) len cap, .int .u64 k, .int .u64 val] w fun e w' => e = .returned (.tuple #[]) ∧ Blk 5 w' g (put zs k (byts val 4)) ∧ Below g w w' := by
  have hl1 : (put zs k (byts val 2)).length = len := by rw [put_len _ _ _ (by rw [byts_len]; omega), hz]
  have hj := put_byts zs k 2 2 val (by omega)
  have HJ : Hid (put (put zs k (byts val 2)) (k + 2) (byts (val / 65536) 2) = put zs k (byts val 4)) := hj
  clear hj
  go_enter Try.func69, Try.ntmps69
  go_wp2_with fail
  refine (write2_any g len cap k zs val w h hz (by omega) hl hv0 hv1).mono ?_
  rintro e v1 ⟨rfl, h1, n1⟩
  go_wp2_with fail
  rw [show ((k : Int) + 2) = ((k + 2 : Nat) : Int) by omega]
  refine (write2_any g len cap (k + 2) _ (val / 65536) v1 h1 hl1 (by omega) hl (by omega) (by omega)).mono ?_
  rintro e v2 ⟨rfl, h2, n2⟩
  rw [HJ.out] at h2
  go_wp2_with fail
  go_end0
  exact ⟨rfl, h2, n1.trans n2⟩

theorem write8_any (g len cap k : Nat) (zs : List Int) (val : Int) (w : World) (h : Blk 5 w g zs) (hz : zs.length = len) (hk : k + 8 ≤ len) (hl : len ≤ 1048576) (hv0 : 0 ≤ val) (hv1 : val ≤ 18446744073709551615) :
    Calls Try.prog 70 #[.slice (some ⟨g, 0, none⟩) len cap, .int .u64 k, .int .u64 val] w fun e w' => e = .returned (.tuple #[]) ∧ Blk 5 w' g (put zs k (byts val 8)) ∧ Below g w w' := by
  have hl1 : (put zs k (byts val 4)).length = len := by rw [put_len _ _ _ (by rw [byts_len]; omega), hz]
  have hj := put_byts zs k 4 4 val (by omega)
  have HJ : Hid (put (put zs k (byts val 4)) (k + 4) (byts (val / 4294967296) 4) = put zs k (byts val 8)) := hj
  clear hj
  go_enter Try.func70, Try.ntmps70
  go_wp2_with fail
  refine (write4_any g len cap k zs val w h hz (by omega) hl hv0 hv1).mono ?_
  rintro e v1 ⟨rfl, h1, n1⟩
  go_wp2_with fail
  rw [show ((k : Int) + 4) = ((k + 4 : Nat) : Int) by omega]
  refine (write4_any g len cap (k + 4) _ (val / 4294967296) v1 h1 hl1 (by omega) hl (by omega) (by omega)).mono ?_
  rintro e v2 ⟨rfl, h2, n2⟩
  rw [HJ.out] at h2
  go_wp2_with fail
  go_end0
  exact ⟨rfl, h2, n1.trans n2⟩

set_option maxHeartbeats 1600000 in
theorem implWrite_any (a : Option Addr) (len cap : Nat) (zs : List Int) (addr n val : Int) (w : World) (h : Byt w a len zs) (hl : len ≤ 1048576)
    (h0 : 0 ≤ addr) (h1 : addr ≤ 18446744073709551615) (h3 : n ≤ 9223372036854775807) (hv0 : 0 ≤ val) (hv1 : val ≤ 18446744073709551615) :
    Calls Try.prog 21 #[.slice a len cap, .int .u64 addr, .int .i64 n, .int .u64 val] w fun e w' =>
      e = .returned (.slice (some ⟨w.heap.size, 0, none⟩) len len) ∧ Blk 5 w' w.heap.size (wrL zs addr n val) ∧ Below w.heap.size w w' := by
  have hz := h.1
  cases hg : goodB len addr n
  · have hw : wrL zs addr n val = zs := by simp [wrL, hz, hg]
    rw [hw]
    have HG : Hid (goodB len addr n = false) := hg
    clear hg hw
    go_enter Try.func21, Try.ntmps21
    go_wp2_with (first
      | (go_at_call 66; refine (copied_any _ _ _ zs _ h hl).mono ?_; rintro e v1 ⟨rfl, k1, n1⟩)
      | (go_at_call 59; refine (holds_any _ _ _ _ _ _ hl h0 h1 h3).mono ?_; rintro e w' ⟨rfl, rfl⟩; rw [HG.out]))
    go_ret
    exact ⟨rfl, k1, n1⟩
  · have hw : wrL zs addr n val = zs.take addr.toNat ++ byts val n.toNat ++ zs.drop (addr.toNat + n.toNat) := by simp [wrL, hz, hg]
    have hg' := hg
    simp only [goodB, decide_eq_true_eq] at hg'
    obtain ⟨hn, hn1, hn2⟩ := hg'
    obtain ⟨k, rfl⟩ := Int.eq_ofNat_of_zero_le h0
    have hw' : put zs k (byts val n.toNat) = wrL zs k n val := by rw [hw, put, byts_len, Int.toNat_natCast]
    have HG : Hid (goodB len k n = true) := hg
    have HW : Hid (put zs k (byts val n.toNat) = wrL zs k n val) := hw'
    clear hg hw hw'
    rcases hn with rfl | rfl | rfl | rfl
    · rw [show Int.toNat 1 = 1 from rfl] at HW
      go_enter Try.func21, Try.ntmps21
      go_wp2_with (first
        | (go_at_call 66; refine (copied_any _ _ _ zs _ h hl).mono ?_; rintro e v1 ⟨rfl, k1, n1⟩)
        | (go_at_call 59; refine (holds_any _ _ _ _ _ _ hl h0 h1 h3).mono ?_; rintro e w' ⟨rfl, rfl⟩; rw [HG.out])
        | (go_at_call 67; refine (write1_any _ len len k zs val _ k1 hz (by omega) hl hv0 hv1).mono ?_; rintro e v3 ⟨rfl, k3, n3⟩))
      go_ret
      exact ⟨rfl, HW.out ▸ k3, n1.trans n3⟩
    · rw [show Int.toNat 2 = 2 from rfl] at HW
      go_enter Try.func21, Try.ntmps21
      go_wp2_with (first
        | (go_at_call 66; refine (copied_any _ _ _ zs _ h hl).mono ?_; rintro e v1 ⟨rfl, k1, n1⟩)
        | (go_at_call 59; refine (holds_any _ _ _ _ _ _ hl h0 h1 h3).mono ?_; rintro e w' ⟨rfl, rfl⟩; rw [HG.out])
        | (go_at_call 68; refine (write2_any _ len len k zs val _ k1 hz (by omega) hl hv0 hv1).mono ?_; rintro e v3 ⟨rfl, k3, n3⟩))
      go_ret
      exact ⟨rfl, HW.out ▸ k3, n1.trans n3⟩
    · rw [show Int.toNat 4 = 4 from rfl] at HW
      go_enter Try.func21, Try.ntmps21
      go_wp2_with (first
        | (go_at_call 66; refine (copied_any _ _ _ zs _ h hl).mono ?_; rintro e v1 ⟨rfl, k1, n1⟩)
        | (go_at_call 59; refine (holds_any _ _ _ _ _ _ hl h0 h1 h3).mono ?_; rintro e w' ⟨rfl, rfl⟩; rw [HG.out])
        | (go_at_call 69; refine (write4_any _ len len k zs val _ k1 hz (by omega) hl hv0 hv1).mono ?_; rintro e v3 ⟨rfl, k3, n3⟩))
      go_ret
      exact ⟨rfl, HW.out ▸ k3, n1.trans n3⟩
    · rw [show Int.toNat 8 = 8 from rfl] at HW
      go_enter Try.func21, Try.ntmps21
      go_wp2_with (first
        | (go_at_call 66; refine (copied_any _ _ _ zs _ h hl).mono ?_; rintro e v1 ⟨rfl, k1, n1⟩)
        | (go_at_call 59; refine (holds_any _ _ _ _ _ _ hl h0 h1 h3).mono ?_; rintro e w' ⟨rfl, rfl⟩; rw [HG.out])
        | (go_at_call 70; refine (write8_any _ len len k zs val _ k1 hz (by omega) hl hv0 hv1).mono ?_; rintro e v3 ⟨rfl, k3, n3⟩))
      go_ret
      exact ⟨rfl, HW.out ▸ k3, n1.trans n3⟩

end Go.Proofs.Ythekickjjaleaab
