/- The walks over slices of bytes: toByteS, eqByteS. -/
import Derived.Test.YthekickjjaleaabRows
import Derived.Test.YthekickjjaleaabRows1
namespace Go.Proofs.Ythekickjjaleaab
open Go.RowKit
set_option linter.unusedVariables false

theorem Try.infoB : (Try.prog.info? 5).map (fun i => (i.zero, i.size, i.bytes)) = some (some (.int .u8 0), 1, 1) := by kernel_rfl

set_option maxHeartbeats 400000 in
theorem toByteS_any (a : Option Addr) (len cap : Nat) (zs : List Int) (w : World) (h : Byt w a len zs) (hl : len ≤ 1048576) :
    Calls Try.prog 16 #[.slice a len cap] w fun e w' =>
      e = .returned (.slice (some ⟨w.heap.size, 0, none⟩) len len) ∧ Blk 5 w' w.heap.size zs ∧ Below w.heap.size w w' := by
  obtain ⟨i0, hi, hz0, hz1, hz2⟩ := info_parts Try.infoB
  obtain ⟨h1, h2, h3⟩ := h
  go_enter Try.func16, Try.ntmps16
  go_wp2_with (at_make; refine wpList_make_full _ rfl _ _ 22 rfl w.heap.size 5 i0 (.int .u8 0) 1 Try.underlying22 hi hz0 hz1 _ _ _ _ len rfl rfl rfl rfl ?b2 ?b3 (Nat.le_refl _) ?_)
  case b2 => rw [hz2]; omega
  case b3 => unfold maxLen; omega
  intro w0 hown0 hgrow0
  rw [made_u8] at hown0
  have hb0 : Blk 5 w0 w.heap.size (List.replicate len 0) := Blk.of_own hown0 rfl
  have hn0 : Below w.heap.size w w0 := (Below.refl _ _).grown hgrow0 (Nat.le_refl _) (fun k h => by cases h)
  clear hown0 hgrow0
  go_wp2
  go_loopw [4] (fun i wr => ∃ (k : Nat) (ys : List Int), k ≤ len ∧ i = .int .i64 k ∧ ys.length = len ∧ (∀ j, j < k → ys[j]? = zs[j]?) ∧ Blk 5 wr w.heap.size ys ∧ Below w.heap.size w wr) (fun i _ => len - (intOf i).toNat)
  case atStart => exact ⟨0, _, Nat.zero_le _, rfl, by simp, fun j hj => absurd hj (by omega), hb0, hn0⟩
  case round =>
    obtain ⟨k, ys, hk, rfl, hy, hyz, hb, hn⟩ := hrel
    by_cases hlt : k < len
    · rcases h3 with h3 | ⟨b, off, rfl, hbw, hc⟩
      · omega
      have g1 : wr.cell? ⟨b, off + k, none⟩ = some (.int .u8 (zs[k]?.getD 0)) := (hn.cell (by exact hbw)).trans (hc k hlt)
      have g2 := hb.cell k (by omega)
      have g3 := hb.free k
      have g4 := h2 k
      have HZ : Hid (∀ j, j < k → ys[j]? = zs[j]?) := hyz
      clear hc hb0 hn0 hyz
      go_wp2
      go_roundw
      case rel => exact ⟨k + 1, _, by omega, by go_num, by simp [hy], copy_step k ys zs (by omega) (by omega) HZ.out, hb.store k _, hn.setCell (Nat.le_refl _) _⟩
      case measure => simp [intOf]; omega
    · have hyy : ys = zs := by
        apply List.ext_getElem?
        intro j
        by_cases hj : j < len
        · exact hyz j (by omega)
        · rw [List.getElem?_eq_none (by omega), List.getElem?_eq_none (by omega)]
      subst hyy
      clear hyz hb0 hn0 h3
      go_wp2
      go_ret
      exact ⟨rfl, hb, hn⟩

set_option maxHeartbeats 400000 in
theorem eqByteS_same (a b : Option Addr) (len ca cb : Nat) (zs : List Int) (w : World) (h : Byt w a len zs) (h' : Byt w b len zs) (hl : len ≤ 1048576) :
    Calls Try.prog 19 #[.slice a len ca, .slice b len cb] w fun e w' => e = .returned (.bool true) ∧ Below w.heap.size w w' := by
  obtain ⟨h1, h2, h3⟩ := h
  obtain ⟨_, _, k3⟩ := h'
  go_enter Try.func19, Try.ntmps19
  go_wp2
  go_loopw [5] (fun i wr => ∃ (k : Nat), k ≤ len ∧ i = .int .i64 k ∧ ∃ n, wr = w.drewN n) (fun i _ => len - (intOf i).toNat)
  case atStart => exact ⟨0, Nat.zero_le _, rfl, 0, rfl⟩
  case round =>
    obtain ⟨k, hk, rfl, n, rfl⟩ := hrel
    by_cases hlt : k < len
    · rcases h3 with h3 | ⟨b1, o1, rfl, hb1, hc1⟩
      · omega
      rcases k3 with k3 | ⟨b2, o2, rfl, hb2, hc2⟩
      · omega
      have g1 := hc1 k hlt
      have g2 := hc2 k hlt
      clear hc1 hc2
      go_wp2
      go_quiet (fail)
      go_wp2
      go_roundw
      case rel => exact ⟨k + 1, by omega, by go_num, n + nq, rfl⟩
      case measure => simp [intOf]; omega
    · clear h3 k3
      go_wp2
      go_ret
      exact ⟨rfl, below_drewN (Below.refl _ _) _⟩

set_option maxHeartbeats 400000 in
theorem eqReadRes_same (o : Bool) (v : Int) (w : World) :
    Calls Try.prog 18 #[.agg #[.bool o, .int .u64 v], .agg #[.bool o, .int .u64 v]] w fun e w' => e = .returned (.bool true) ∧ Below w.heap.size w w' := by
  go_enter Try.func18, Try.ntmps18
  go_wp2
  go_ret
  exact ⟨rfl, ((Below.refl _ _).alloc (Nat.le_refl _) _).alloc (by simp) _⟩

end Go.Proofs.Ythekickjjaleaab
