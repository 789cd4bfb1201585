import Derived.Test.YthekickjjaleaacPack02
import Derived.Test.YthekickjjaleaacPack07
import Derived.Test.YthekickjjaleaacPack01
import Derived.Test.YthekickjjaleaacPack05
import Derived.Test.YthekickjjaleaacPack06
/- The laws' marks over rows of numbers: markByteS, markUint64S, markInt64S, and held... Written by mkscr.py. -/
namespace Go.Proofs.Ythekickjjaleaac
open Go.RowKit
set_option linter.unusedVariables false
attribute [local go_sem ↓] Go.wp_at_zero Go.wp_at_succ

def mkF (f : Nat → Value) (m : Nat) : List Value := (List.range m).map f
theorem mkF_at (f : Nat → Value) (m t : Nat) (h : t < m) : (mkF f m)[t]? = some (f t) := by
  simp [mkF, h]
theorem mkF_len (f : Nat → Value) (m : Nat) : (mkF f m).length = m := by simp [mkF]
theorem mkF_step (f : Nat → Value) (m j : Nat) (ys : List Value) (hy : ys.length = m) (hj : j < m) (h : ∀ t, t < j → ys[t]? = some (f t)) : ∀ t, t < j + 1 → (ys.set j (f j))[t]? = some (f t) := by
  intro t ht
  by_cases h0 : t = j
  · subst h0
    rw [List.getElem?_set_self (by omega)]
  · rw [List.getElem?_set_ne (by omega)]
    exact h t (by omega)
theorem mkF_end (f : Nat → Value) (m : Nat) (ys : List Value) (hy : ys.length = m) (h : ∀ t, t < m → ys[t]? = some (f t)) : ys = mkF f m := by
  apply List.ext_getElem?
  intro t
  by_cases ht : t < m
  · rw [mkF_at f m t ht]; exact h t ht
  · rw [List.getElem?_eq_none (by omega), List.getElem?_eq_none (by rw [mkF_len]; omega)]

def mkByteS (k0 : Int) (j : Nat) : Value := .int .u8 ((k0 + j) % 256)

set_option maxRecDepth 20000 in
set_option maxHeartbeats 800000 in
theorem markByteS_own (base n : Nat) (s : Value) (cs : List Value) (k0 : Int) (w : World) (h : w.ownsRow base 5 1 s n cs) (hl : n ≤ 1048576) (hk0 : 0 ≤ k0) (hk1 : k0 ≤ 1073741824) :
    Calls Try.prog 10 #[s, .int .i64 k0] w fun e w' => e = .returned (.int .i64 (k0 + n)) ∧ w'.ownsRow base 5 1 s n (mkF (mkByteS k0) n) ∧ w.grownBy w' s.ownBlock := by
  rcases own_cases h with ⟨rfl, rfl, rfl⟩ | ⟨g, cap, rfl⟩
  · go_enter Try.func10, Try.ntmps10
    go_wp2
    go_loopw [1, 5] (fun kk i wr => kk = .int .i64 k0 ∧ i = .int .i64 0 ∧ wr = w) (fun _ i _ => 0)
    case atStart => exact ⟨rfl, rfl, rfl⟩
    case round =>
      obtain ⟨rfl, rfl, rfl⟩ := hrel
      go_wp2
      go_ret
      exact ⟨by simp, h, gb_refl _ _⟩
  · have HI : Hid _ := h
    have hlen := h.1
    clear h
    go_enter Try.func10, Try.ntmps10
    go_wp2
    go_loopw [1, 5] (fun kk i wr => ∃ (j : Nat) (ys : List Value), j ≤ n ∧ kk = .int .i64 (k0 + j) ∧ i = .int .i64 j ∧ ys.length = n ∧ (∀ t, t < j → ys[t]? = some (mkByteS k0 t)) ∧ wr.ownsRow base 5 1 (.slice (some ⟨g, 0, none⟩) n cap) n ys ∧ w.grownBy wr (some g)) (fun _ i _ => n - (intOf i).toNat)
    case atStart => exact ⟨0, cs, Nat.zero_le _, by simp, rfl, by omega, fun t ht => absurd ht (by omega), HI.out, gb_refl _ _⟩
    case round =>
      clear HI
      obtain ⟨j, ys, hj, rfl, rfl, hy, hyz, hb, hn⟩ := hrel
      by_cases hlt : j < n
      · have y0 := own_cell hb j _ (List.getElem?_eq_getElem (by omega))
        generalize ys[j]'_ = z0 at y0
        have r0 := own_free hb j
        have HZ : Hid (∀ t, t < j → ys[t]? = some (mkByteS k0 t)) := hyz
        have HB : Hid (wr.ownsRow base 5 1 (.slice (some ⟨g, 0, none⟩) n cap) n ys) := hb
        clear hyz hb
        go_wp2
        go_roundw
        case rel => exact ⟨j + 1, _, by omega, by go_num, by go_num, by rw [List.length_set]; exact hy, mkF_step (mkByteS k0) n j ys hy hlt HZ.out, own_store HB.out _ _, gb_set hn _ _⟩
        case measure => simp [intOf]; omega
      · have hjl : j = n := by omega
        subst hjl
        have hyy : ys = mkF (mkByteS k0) j := mkF_end _ j ys hy hyz
        subst hyy
        have HB : Hid _ := hb
        clear hyz hb hy
        go_wp2
        go_ret
        exact ⟨rfl, HB.out, hn⟩

set_option maxRecDepth 20000 in
set_option maxHeartbeats 800000 in
theorem heldByteS_own (base n : Nat) (s : Value) (k0 : Int) (w : World) (h : w.ownsRow base 5 1 s n (mkF (mkByteS k0) n)) (hl : n ≤ 1048576) (hk0 : 0 ≤ k0) (hk1 : k0 ≤ 1073741824) :
    Calls Try.prog 54 #[s, .int .i64 k0] w fun e w' => e = .returned (.int .i64 (k0 + n)) ∧ w' = w := by
  rcases own_cases h with ⟨rfl, rfl, _⟩ | ⟨g, cap, rfl⟩
  · clear h
    go_enter Try.func54, Try.ntmps54
    go_wp2
    go_loop [1, 5] (fun kk i => kk = .int .i64 k0 ∧ i = .int .i64 0) (fun _ i => 0)
    case atStart => exact ⟨rfl, rfl⟩
    case round =>
      obtain ⟨rfl, rfl⟩ := hrel
      go_wp2
      go_ret
      exact ⟨by simp, rfl⟩
  · go_enter Try.func54, Try.ntmps54
    go_wp2
    go_loop [1, 5] (fun kk i => ∃ (j : Nat), j ≤ n ∧ kk = .int .i64 (k0 + j) ∧ i = .int .i64 j) (fun _ i => n - (intOf i).toNat)
    case atStart => exact ⟨0, Nat.zero_le _, by simp, rfl⟩
    case round =>
      obtain ⟨j, hj, rfl, rfl⟩ := hrel
      by_cases hlt : j < n
      · have g2 := own_cell h j _ (mkF_at (mkByteS k0) n j hlt)
        have g3 : w.cell? ⟨g, j, none⟩ = some (.int .u8 ((k0 + j) % 256)) := g2
        clear g2 h
        go_wp2
        go_round
        case rel => exact ⟨j + 1, by omega, by go_num, by go_num⟩
        case measure => simp [intOf]; omega
      · have hjl : j = n := by omega
        subst hjl
        clear h
        go_wp2
        go_ret
        exact ⟨rfl, rfl⟩

def mkUint64S (k0 : Int) (j : Nat) : Value := .int .u64 (k0 + j)

set_option maxRecDepth 20000 in
set_option maxHeartbeats 800000 in
theorem markUint64S_own (base n : Nat) (s : Value) (cs : List Value) (k0 : Int) (w : World) (h : w.ownsRow base 24 1 s n cs) (hl : n ≤ 1048576) (hk0 : 0 ≤ k0) (hk1 : k0 ≤ 1073741824) :
    Calls Try.prog 52 #[s, .int .i64 k0] w fun e w' => e = .returned (.int .i64 (k0 + n)) ∧ w'.ownsRow base 24 1 s n (mkF (mkUint64S k0) n) ∧ w.grownBy w' s.ownBlock := by
  rcases own_cases h with ⟨rfl, rfl, rfl⟩ | ⟨g, cap, rfl⟩
  · go_enter Try.func52, Try.ntmps52
    go_wp2
    go_loopw [1, 5] (fun kk i wr => kk = .int .i64 k0 ∧ i = .int .i64 0 ∧ wr = w) (fun _ i _ => 0)
    case atStart => exact ⟨rfl, rfl, rfl⟩
    case round =>
      obtain ⟨rfl, rfl, rfl⟩ := hrel
      go_wp2
      go_ret
      exact ⟨by simp, h, gb_refl _ _⟩
  · have HI : Hid _ := h
    have hlen := h.1
    clear h
    go_enter Try.func52, Try.ntmps52
    go_wp2
    go_loopw [1, 5] (fun kk i wr => ∃ (j : Nat) (ys : List Value), j ≤ n ∧ kk = .int .i64 (k0 + j) ∧ i = .int .i64 j ∧ ys.length = n ∧ (∀ t, t < j → ys[t]? = some (mkUint64S k0 t)) ∧ wr.ownsRow base 24 1 (.slice (some ⟨g, 0, none⟩) n cap) n ys ∧ w.grownBy wr (some g)) (fun _ i _ => n - (intOf i).toNat)
    case atStart => exact ⟨0, cs, Nat.zero_le _, by simp, rfl, by omega, fun t ht => absurd ht (by omega), HI.out, gb_refl _ _⟩
    case round =>
      clear HI
      obtain ⟨j, ys, hj, rfl, rfl, hy, hyz, hb, hn⟩ := hrel
      by_cases hlt : j < n
      · have y0 := own_cell hb j _ (List.getElem?_eq_getElem (by omega))
        generalize ys[j]'_ = z0 at y0
        have r0 := own_free hb j
        have HZ : Hid (∀ t, t < j → ys[t]? = some (mkUint64S k0 t)) := hyz
        have HB : Hid (wr.ownsRow base 24 1 (.slice (some ⟨g, 0, none⟩) n cap) n ys) := hb
        clear hyz hb
        go_wp2
        go_roundw
        case rel => exact ⟨j + 1, _, by omega, by go_num, by go_num, by rw [List.length_set]; exact hy, mkF_step (mkUint64S k0) n j ys hy hlt HZ.out, own_store HB.out _ _, gb_set hn _ _⟩
        case measure => simp [intOf]; omega
      · have hjl : j = n := by omega
        subst hjl
        have hyy : ys = mkF (mkUint64S k0) j := mkF_end _ j ys hy hyz
        subst hyy
        have HB : Hid _ := hb
        clear hyz hb hy
        go_wp2
        go_ret
        exact ⟨rfl, HB.out, hn⟩

set_option maxRecDepth 20000 in
set_option maxHeartbeats 800000 in
theorem heldUint64S_own (base n : Nat) (s : Value) (k0 : Int) (w : World) (h : w.ownsRow base 24 1 s n (mkF (mkUint64S k0) n)) (hl : n ≤ 1048576) (hk0 : 0 ≤ k0) (hk1 : k0 ≤ 1073741824) :
    Calls Try.prog 55 #[s, .int .i64 k0] w fun e w' => e = .returned (.int .i64 (k0 + n)) ∧ w' = w := by
  rcases own_cases h with ⟨rfl, rfl, _⟩ | ⟨g, cap, rfl⟩
  · clear h
    go_enter Try.func55, Try.ntmps55
    go_wp2
    go_loop [1, 5] (fun kk i => kk = .int .i64 k0 ∧ i = .int .i64 0) (fun _ i => 0)
    case atStart => exact ⟨rfl, rfl⟩
    case round =>
      obtain ⟨rfl, rfl⟩ := hrel
      go_wp2
      go_ret
      exact ⟨by simp, rfl⟩
  · go_enter Try.func55, Try.ntmps55
    go_wp2
    go_loop [1, 5] (fun kk i => ∃ (j : Nat), j ≤ n ∧ kk = .int .i64 (k0 + j) ∧ i = .int .i64 j) (fun _ i => n - (intOf i).toNat)
    case atStart => exact ⟨0, Nat.zero_le _, by simp, rfl⟩
    case round =>
      obtain ⟨j, hj, rfl, rfl⟩ := hrel
      by_cases hlt : j < n
      · have g2 := own_cell h j _ (mkF_at (mkUint64S k0) n j hlt)
        have g3 : w.cell? ⟨g, j, none⟩ = some (.int .u64 (k0 + j)) := g2
        clear g2 h
        go_wp2
        go_round
        case rel => exact ⟨j + 1, by omega, by go_num, by go_num⟩
        case measure => simp [intOf]; omega
      · have hjl : j = n := by omega
        subst hjl
        clear h
        go_wp2
        go_ret
        exact ⟨rfl, rfl⟩

def mkInt64S (k0 : Int) (j : Nat) : Value := .int .i64 (k0 + j)

set_option maxRecDepth 20000 in
set_option maxHeartbeats 800000 in
theorem markInt64S_own (base n : Nat) (s : Value) (cs : List Value) (k0 : Int) (w : World) (h : w.ownsRow base 2 1 s n cs) (hl : n ≤ 1048576) (hk0 : 0 ≤ k0) (hk1 : k0 ≤ 1073741824) :
    Calls Try.prog 32 #[s, .int .i64 k0] w fun e w' => e = .returned (.int .i64 (k0 + n)) ∧ w'.ownsRow base 2 1 s n (mkF (mkInt64S k0) n) ∧ w.grownBy w' s.ownBlock := by
  rcases own_cases h with ⟨rfl, rfl, rfl⟩ | ⟨g, cap, rfl⟩
  · go_enter Try.func32, Try.ntmps32
    go_wp2
    go_loopw [1, 5] (fun kk i wr => kk = .int .i64 k0 ∧ i = .int .i64 0 ∧ wr = w) (fun _ i _ => 0)
    case atStart => exact ⟨rfl, rfl, rfl⟩
    case round =>
      obtain ⟨rfl, rfl, rfl⟩ := hrel
      go_wp2
      go_ret
      exact ⟨by simp, h, gb_refl _ _⟩
  · have HI : Hid _ := h
    have hlen := h.1
    clear h
    go_enter Try.func32, Try.ntmps32
    go_wp2
    go_loopw [1, 5] (fun kk i wr => ∃ (j : Nat) (ys : List Value), j ≤ n ∧ kk = .int .i64 (k0 + j) ∧ i = .int .i64 j ∧ ys.length = n ∧ (∀ t, t < j → ys[t]? = some (mkInt64S k0 t)) ∧ wr.ownsRow base 2 1 (.slice (some ⟨g, 0, none⟩) n cap) n ys ∧ w.grownBy wr (some g)) (fun _ i _ => n - (intOf i).toNat)
    case atStart => exact ⟨0, cs, Nat.zero_le _, by simp, rfl, by omega, fun t ht => absurd ht (by omega), HI.out, gb_refl _ _⟩
    case round =>
      clear HI
      obtain ⟨j, ys, hj, rfl, rfl, hy, hyz, hb, hn⟩ := hrel
      by_cases hlt : j < n
      · have y0 := own_cell hb j _ (List.getElem?_eq_getElem (by omega))
        generalize ys[j]'_ = z0 at y0
        have r0 := own_free hb j
        have HZ : Hid (∀ t, t < j → ys[t]? = some (mkInt64S k0 t)) := hyz
        have HB : Hid (wr.ownsRow base 2 1 (.slice (some ⟨g, 0, none⟩) n cap) n ys) := hb
        clear hyz hb
        go_wp2
        go_roundw
        case rel => exact ⟨j + 1, _, by omega, by go_num, by go_num, by rw [List.length_set]; exact hy, mkF_step (mkInt64S k0) n j ys hy hlt HZ.out, own_store HB.out _ _, gb_set hn _ _⟩
        case measure => simp [intOf]; omega
      · have hjl : j = n := by omega
        subst hjl
        have hyy : ys = mkF (mkInt64S k0) j := mkF_end _ j ys hy hyz
        subst hyy
        have HB : Hid _ := hb
        clear hyz hb hy
        go_wp2
        go_ret
        exact ⟨rfl, HB.out, hn⟩

set_option maxRecDepth 20000 in
set_option maxHeartbeats 800000 in
theorem heldInt64S_own (base n : Nat) (s : Value) (k0 : Int) (w : World) (h : w.ownsRow base 2 1 s n (mkF (mkInt64S k0) n)) (hl : n ≤ 1048576) (hk0 : 0 ≤ k0) (hk1 : k0 ≤ 1073741824) :
    Calls Try.prog 34 #[s, .int .i64 k0] w fun e w' => e = .returned (.int .i64 (k0 + n)) ∧ w' = w := by
  rcases own_cases h with ⟨rfl, rfl, _⟩ | ⟨g, cap, rfl⟩
  · clear h
    go_enter Try.func34, Try.ntmps34
    go_wp2
    go_loop [1, 5] (fun kk i => kk = .int .i64 k0 ∧ i = .int .i64 0) (fun _ i => 0)
    case atStart => exact ⟨rfl, rfl⟩
    case round =>
      obtain ⟨rfl, rfl⟩ := hrel
      go_wp2
      go_ret
      exact ⟨by simp, rfl⟩
  · go_enter Try.func34, Try.ntmps34
    go_wp2
    go_loop [1, 5] (fun kk i => ∃ (j : Nat), j ≤ n ∧ kk = .int .i64 (k0 + j) ∧ i = .int .i64 j) (fun _ i => n - (intOf i).toNat)
    case atStart => exact ⟨0, Nat.zero_le _, by simp, rfl⟩
    case round =>
      obtain ⟨j, hj, rfl, rfl⟩ := hrel
      by_cases hlt : j < n
      · have g2 := own_cell h j _ (mkF_at (mkInt64S k0) n j hlt)
        have g3 : w.cell? ⟨g, j, none⟩ = some (.int .i64 (k0 + j)) := g2
        clear g2 h
        go_wp2
        go_round
        case rel => exact ⟨j + 1, by omega, by go_num, by go_num⟩
        case measure => simp [intOf]; omega
      · have hjl : j = n := by omega
        subst hjl
        clear h
        go_wp2
        go_ret
        exact ⟨rfl, rfl⟩

end Go.Proofs.Ythekickjjaleaac

/- The program's reading of a memory: holds, read1 .. read8, impl.ReadMem. -/
namespace Go.Proofs.Ythekickjjaleaac
open Go.RowKit
set_option linter.unusedVariables false

theorem has_any (a : Option Addr) (len cap : Nat) (addr n : Int) (w : World) (hl : len ≤ 1048576) (h0 : 0 ≤ addr) (h1 : addr ≤ 18446744073709551615) (h2 : 0 ≤ n) (h3 : n ≤ 18446744073709551615) :
    Calls Try.prog 50 #[.slice a len cap, .int .u64 addr, .int .u64 n] w fun e w' => e = .returned (.bool (insB len addr n)) ∧ w' = w := by
  by_cases hh : n ≤ (len : Int)
  all_goals
    go_enter Try.func50, Try.ntmps50
    go_wp2
    all_goals
      go_ret
      exact ⟨by simp [insB]; try omega, rfl⟩

end Go.Proofs.Ythekickjjaleaac

/- The draws of chapter 1: a cursor over bytes. Only what the laws need: each draw returns a number in its range. -/
namespace Go.Proofs.Ythekickjjaleaac
open Go.RowKit
set_option linter.unusedVariables false

/-- A cursor in block p over a slice of bytes that lies below it. -/
def Cur (T : TypeId) (w : World) (p : Nat) (a : Option Addr) (len cap : Nat) (code : List Int) : Prop :=
  ∃ (i : Nat) (h : Int), i ≤ len ∧ w.heap[p]? = some (.cells #[.slice a len cap, .int .i64 i, .int .i64 h] T (0, 0)) ∧ Byt w a len code ∧ (0 < len → ∀ x, a = some x → x.block < p) ∧ len ≤ 1048576

theorem Cur.lt {T : TypeId} {w : World} {p : Nat} {a : Option Addr} {len cap : Nat} {code : List Int} (h : Cur T w p a len cap code) : p < w.heap.size := by
  obtain ⟨_, _, _, hh, _⟩ := h
  exact (Array.getElem?_eq_some_iff.1 hh).1

theorem Cur.step {T : TypeId} {w v : World} {p : Nat} {a : Option Addr} {len cap : Nat} {code : List Int} {i i' : Nat} {h h' : Int}
    (hh : w.heap[p]? = some (.cells #[.slice a len cap, .int .i64 i, .int .i64 h] T (0, 0))) (hb : Byt w a len code) (hlt : 0 < len → ∀ x, a = some x → x.block < p) (hl : len ≤ 1048576) (hi : i' ≤ len)
    (hv : v.heap[p]? = some (.cells #[.slice a len cap, .int .i64 i', .int .i64 h'] T (0, 0))) (hg : w.grownBy v (some p)) : Cur T v p a len cap code := by
  refine ⟨i', h', hi, hv, ?_, hlt, hl⟩
  obtain ⟨h1, h2, h3⟩ := hb
  refine ⟨h1, h2, ?_⟩
  by_cases h0 : len = 0
  · exact .inl h0
  rcases h3 with h3 | ⟨b, off, rfl, hbw, hc⟩
  · exact .inl h3
  · have hbp : b < p := hlt (by omega) ⟨b, off, none⟩ rfl
    exact .inr ⟨b, off, rfl, Nat.lt_of_lt_of_le hbw hg.size, fun j hj => (World.cell?_of_block (hg.block b hbw (by simp; omega))).trans (hc j hj)⟩

theorem gb_drewN {w v : World} {r : Option Nat} (h : w.grownBy v r) (n : Nat) : w.grownBy (v.drewN n) r := ⟨h.os, h.tape, h.output, h.size, h.block⟩

theorem gb_trans_d {w v u : World} {r : Option Nat} (h : w.grownBy v r) (k : v.grownBy u r) : w.grownBy u r :=
  ⟨k.os.trans h.os, k.tape.trans h.tape, k.output.trans h.output, Nat.le_trans h.size k.size, fun i hi hn => (k.block i (Nat.lt_of_lt_of_le hi h.size) hn).trans (h.block i hi hn)⟩

/-- What a draw of a number leaves. -/
def Drew (T : TypeId) (w : World) (p : Nat) (a : Option Addr) (len cap : Nat) (code : List Int) (w' : World) : Prop := Cur T w' p a len cap code ∧ w.grownBy w' (some p)

theorem Drew.trans {T : TypeId} {w v u : World} {p : Nat} {a : Option Addr} {len cap : Nat} {code : List Int} (h : Drew T w p a len cap code v) (k : Drew T v p a len cap code u) : Drew T w p a len cap code u := ⟨k.1, gb_trans_d h.2 k.2⟩

theorem Cur.below {T : TypeId} {B : Nat} {w v : World} {p : Nat} {a : Option Addr} {len cap : Nat} {code : List Int} (h : Cur T w p a len cap code) (hb : Below B w v) (hp : p < B) : Cur T v p a len cap code := by
  obtain ⟨i, hh, hi, hv, ⟨h1, h2, h3⟩, hlt, hl⟩ := h
  refine ⟨i, hh, hi, by rw [hb.block p hp]; exact hv, ⟨h1, h2, ?_⟩, hlt, hl⟩
  by_cases h0 : len = 0
  · exact .inl h0
  rcases h3 with h3 | ⟨b, off, rfl, hbw, hc⟩
  · exact .inl h3
  · have hbp : b < p := hlt (by omega) ⟨b, off, none⟩ rfl
    exact .inr ⟨b, off, rfl, Nat.lt_of_lt_of_le hbw hb.size, fun j hj => (hb.cell (p := ⟨b, off + j, none⟩) (Nat.lt_trans hbp hp)).trans (hc j hj)⟩

theorem Drew.below {T : TypeId} {w v u : World} {p : Nat} {a : Option Addr} {len cap : Nat} {code : List Int} (h : Drew T w p a len cap code v) (hb : Below w.heap.size v u) (hp : p < w.heap.size) : Drew T w p a len cap code u := by
  refine ⟨h.1.below hb hp, ⟨hb.os.trans h.2.os, hb.tape.trans h.2.tape, hb.output.trans h.2.output, Nat.le_trans h.2.size hb.size, fun i hi hn => (hb.block i hi).trans (h.2.block i hi hn)⟩⟩

theorem OwnB.gb {e : TypeId} {w w' : World} {base g n cap r : Nat} {zs : List Int} (h : OwnB e w base g n cap zs) (hg : w.grownBy w' (some r)) (hne : g ≠ r) : OwnB e w' base g n cap zs := by
  obtain ⟨h1, h2⟩ := h
  refine ⟨h1, ?_⟩
  rcases h2 with ⟨h2, _⟩ | ⟨g', cap', cur, h2, hb', hh, r'⟩
  · simp at h2
  · have hh' := h2
    simp at hh'
    obtain ⟨rfl, rfl⟩ := hh'
    exact .inr ⟨_, _, cur, h2, hb', by rw [hg.block _ (Array.getElem?_eq_some_iff.1 hh).1 (by simpa using hne)]; exact hh, r'⟩

theorem one_byt (w : World) (e : TypeId) (z : Int) (hz : 0 ≤ z ∧ z ≤ 255) : Byt (w.alloc (.cells #[.int .u8 z] e)) (some ⟨w.heap.size, 0, none⟩) 1 [z] :=
  (OwnB.new e w [z] 1 rfl (by decide)).byt (fun i => by cases i <;> simp [hz])

end Go.Proofs.Ythekickjjaleaac

/- Plain mathematics of chapter 5: the machine. No program, no memory. -/
namespace Go.Proofs.Ythekickjjaleaac
set_option linter.unusedVariables false

/-- A hart. -/
structure HartM where
  mem : List Int
  regs : List Int
  pc : Int
  mode : Int
  sum : Bool
  mxr : Bool
  satp : Int
  tvec : Int
  epc : Int
  emode : Int
  cause : Int
  tval : Int
  k : KM

/-- A step on its way. -/
structure RunM where
  h : HartM
  cause : Int
  tval : Int
  looks : List (Int × Int)
  fenced : Bool
  fence : FenceM

def schemeM (satp : Int) : Bool := satp / 1152921504606846976 % 16 == 0 || satp / 1152921504606846976 % 16 == 8

def sizeM (n : Nat) : Bool := decide (n % 64 = 0 ∧ 64 ≤ n ∧ n ≤ 4096)
def plainHM (h : HartM) : Bool :=
  decide (h.regs.length = 8) && (h.regs[0]?.getD 0 == 0) && decide (0 ≤ h.mode ∧ h.mode ≤ 2) && decide (0 ≤ h.emode ∧ h.emode ≤ 2) && schemeM h.satp && (h.tvec % 4 == 0) && decide (0 ≤ h.cause ∧ h.cause ≤ 63)
def validHM (h : HartM) : Bool := sizeM h.mem.length && plainHM h && goodKM h.k

/-- One translation: cause and address, and the caches after it. -/
def transM (plain : Bool) (pick : Int) (h : HartM) (kind va : Int) : (Int × Int) × KM :=
  if plain = true then (plainM h.mem h.mode h.sum h.mxr h.satp kind va, h.k) else tlbTransM h.mem h.mode h.sum h.mxr h.satp h.k kind va pick

def withK (h : HartM) (k : KM) : HartM := ⟨h.mem, h.regs, h.pc, h.mode, h.sum, h.mxr, h.satp, h.tvec, h.epc, h.emode, h.cause, h.tval, k⟩
def withMem (h : HartM) (mem : List Int) : HartM := ⟨mem, h.regs, h.pc, h.mode, h.sum, h.mxr, h.satp, h.tvec, h.epc, h.emode, h.cause, h.tval, h.k⟩
def trapM (r : RunM) (cause tval : Int) : RunM := ⟨r.h, cause, tval, r.looks, r.fenced, r.fence⟩
/-- The run behind a translation. -/
def lookM (plain : Bool) (pick : Int) (r : RunM) (kind va : Int) : RunM :=
  ⟨withK r.h (transM plain pick r.h kind va).2, r.cause, r.tval, r.looks ++ [(kind, va)], r.fenced, r.fence⟩

/-- A part: where it begins, how long it is, where it lies. -/
abbrev PartM := Int × Int × Int

/-- The parts translated in their order, up to the first cause. -/
def transPartsM (plain : Bool) (pick kind : Int) : RunM → List PartM → RunM × List PartM
  | r, [] => (r, [])
  | r, p :: ps =>
    if (transM plain pick r.h kind p.1).1.1 = 0 then
      ((transPartsM plain pick kind (lookM plain pick r kind p.1) ps).1, (p.1, p.2.1, (transM plain pick r.h kind p.1).1.2) :: (transPartsM plain pick kind (lookM plain pick r kind p.1) ps).2)
    else (trapM (lookM plain pick r kind p.1) (transM plain pick r.h kind p.1).1.1 p.1, p :: ps)

-- scripts

def atM (b : List Int) (i : Nat) : Int := b[i]?.getD 0
def longM (b : List Int) (i : Nat) : Int := num ((List.range 8).map fun k => atM b (i + k))
def emptyM (y : Int) : TlbM := ⟨2 ^ (y % 4).toNat, 1 + y / 4 % 4, List.replicate (2 ^ (y % 4).toNat * (1 + y / 4 % 4).toNat) ent0⟩
/-- The bytes of one run from number i on, m of them, to the address a on. -/
def layM (b : List Int) : Nat → Nat → Nat → List Int → List Int
  | 0, _, _, mem => mem
  | m + 1, i, a, mem => layM b m (i + 1) (a + 1) (if a < mem.length then mem.set a (atM b i) else mem)
def addrM (b : List Int) (i : Nat) : Nat := (atM b i + 256 * atM b (i + 1)).toNat
def runsM (b : List Int) : Nat → Nat → List Int → List Int × Nat
  | 0, i, mem => (mem, i)
  | n + 1, i, mem => runsM b n (i + 3 + (atM b (i + 2)).toNat) (layM b (atM b (i + 2)).toNat (i + 3) (addrM b i) mem)
def modeM (y : Int) : Int := if y % 4 = 3 then 1 else y % 4
def stepsM (b : List Int) : Nat := min (atM b 5 + 256 * atM b 6).toNat 20000
def memM (b : List Int) : List Int × Nat := runsM b (atM b 87).toNat 88 (List.replicate (64 * (1 + (atM b 3 % 64).toNat)) 0)
def regsM (b : List Int) : List Int := 0 :: (List.range 7).map fun r => longM b (31 + 8 * r)
def decodeHM (b : List Int) : HartM :=
  ⟨(memM b).1, regsM b, longM b 7, modeM (atM b 4), atM b 4 / 4 % 2 == 1, atM b 4 / 8 % 2 == 1, if schemeM (longM b 23) = true then longM b 23 else 0, longM b 15 / 4 * 4, 0, modeM (atM b 4), 0, 0, ⟨emptyM (atM b 0), emptyM (atM b 1), emptyM (atM b 2)⟩⟩
def picksM (b : List Int) : List Int := (List.range (stepsM b)).map fun k => atM b ((memM b).2 + k)

end Go.Proofs.Ythekickjjaleaac

/- Plain mathematics of chapter 5.6: ghost records, discipline, and that a disciplined run cannot see the caches. No program, no memory. -/
namespace Go.Proofs.Ythekickjjaleaac
set_option linter.unusedVariables false

/-- A ghost record: tag, asid, global, and the record of the walk (level, address, value). -/
abbrev GhostM := Int × Int × Bool × RecM

def ghostOf (va satp : Int) (r : RecM) : GhostM := (tagM va r.1, asidM satp, bitB r.2.2 32, r)
-- what the caches hold is a ghost

def sameG (g : GhostM) (e : EntM) : Prop := g.1 = e.tag ∧ g.2.1 = e.asid ∧ g.2.2.1 = e.glob ∧ g.2.2.2.1 = e.level ∧ g.2.2.2.2.2 = e.pte
def CovT (t : TlbM) (gs : List GhostM) : Prop := ∀ e ∈ t.es, e.valid = true → ∃ g ∈ gs, sameG g e
def CovK (k : KM) (gs : List GhostM) : Prop := CovT k.i gs ∧ CovT k.d gs ∧ CovT k.p gs

theorem CovT.mono {t : TlbM} {gs gs' : List GhostM} (h : CovT t gs) (hs : ∀ g ∈ gs, g ∈ gs') : CovT t gs' := fun e he hv => by
  obtain ⟨g, hg, hs'⟩ := h e he hv
  exact ⟨g, hs g hg, hs'⟩

theorem CovK.mono {k : KM} {gs gs' : List GhostM} (h : CovK k gs) (hs : ∀ g ∈ gs, g ∈ gs') : CovK k gs' := ⟨h.1.mono hs, h.2.1.mono hs, h.2.2.mono hs⟩

theorem CovT.insert {t : TlbM} {gs : List GhostM} {e : EntM} {pick : Int} (h : CovT t gs) (he : ∃ g ∈ gs, sameG g e) : CovT (insertM t e pick) gs := by
  unfold insertM
  split
  · intro x hx hv
    rcases List.mem_or_eq_of_mem_set hx with hx | rfl
    · exact h x hx hv
    · exact he
  · exact h

theorem ghost_same (va satp : Int) (r : RecM) : sameG (ghostOf va satp r) (entM r.1 va satp r.2.2) := ⟨rfl, rfl, rfl, rfl, rfl⟩

theorem CovT.ptrs {gs : List GhostM} {va satp pick : Int} : ∀ (rs : List RecM) (p : TlbM), CovT p gs → (∀ r ∈ rs, kindM r.2.2 r.1 = 1 → ghostOf va satp r ∈ gs) → CovT (ptrsM va satp pick rs p) gs
  | [], p, h, _ => h
  | r :: rs, p, h, hr => by
    rw [ptrsM]
    refine CovT.ptrs rs _ ?_ (fun x hx => hr x (List.mem_cons_of_mem _ hx))
    split
    · rename_i hk
      exact h.insert ⟨_, hr r (List.mem_cons_self ..) hk, ghost_same va satp r⟩
    · exact h

-- a hit is an entry that fits

-- the records of a walk

-- what a look adds

end Go.Proofs.Ythekickjjaleaac

/- Bits of unsigned numbers as plain mathematics: single bits, several bits, replacing the lowest bits. -/
namespace Go.Proofs.Ythekickjjaleaac
set_option linter.unusedVariables false

theorem nat_and_pow (a k : Nat) : (a &&& 2 ^ k != 0) = (a / 2 ^ k % 2 == 1) := by
  have e : (a / 2 ^ k % 2 == 1) = a.testBit k := by rw [Nat.testBit_eq_decide_div_mod_eq]; rfl
  rw [e]
  cases h : a.testBit k
  · have : a &&& 2 ^ k = 0 := by
      apply Nat.eq_of_testBit_eq
      intro i
      rw [Nat.testBit_and, Nat.testBit_two_pow, Nat.zero_testBit]
      by_cases hi : k = i
      · subst hi; simp [h]
      · simp [hi]
    simp [this]
  · have : a &&& 2 ^ k ≠ 0 := by
      intro h0
      have := congrArg (fun n => n.testBit k) h0
      simp [Nat.testBit_and, h] at this
    simpa using this

theorem nat_and_or (a m n : Nat) : (a &&& (m ||| n) != 0) = ((a &&& m != 0) || (a &&& n != 0)) := by
  rw [Nat.and_or_distrib_left]
  cases h : (a &&& m != 0) <;> cases h' : (a &&& n != 0) <;> simp_all [Nat.or_eq_zero_iff]

/-- Some bit of x is among those of m. -/
def anyB (x m : Int) : Bool := bits .and .u64 x m != 0

theorem anyB_nat (a m : Nat) (ha : a < 18446744073709551616) (hm : m < 18446744073709551616) : anyB a m = (a &&& m != 0) := by
  rw [anyB, u64_and_nat a m ha hm]
  cases h : (a &&& m != 0)
  · simp at h; simp [h]
  · simp at h; simp; omega

theorem anyB_bit (k : Nat) (x p : Int) (hp : p = 2 ^ k) (hk : p < 18446744073709551616) (h0 : 0 ≤ x) (h1 : x ≤ 18446744073709551615) : anyB x p = bitB x p := by
  obtain ⟨a, rfl⟩ := Int.eq_ofNat_of_zero_le h0
  have e : p = ((2 ^ k : Nat) : Int) := by rw [hp]; push_cast; rfl
  rw [e] at hk ⊢
  rw [anyB_nat a (2 ^ k) (by omega) (by omega), nat_and_pow, bitB]
  rw [show ((a : Int) / ((2 ^ k : Nat) : Int) % 2) = ((a / 2 ^ k % 2 : Nat) : Int) by omega]
  generalize a / 2 ^ k % 2 = t
  rw [Bool.eq_iff_iff]
  simp only [beq_iff_eq]
  omega

theorem anyB_rwx (x : Int) (h0 : 0 ≤ x) (h1 : x ≤ 18446744073709551615) : anyB x 14 = (bitB x 2 || bitB x 4 || bitB x 8) := by
  rw [← anyB_bit 1 x 2 rfl (by omega) h0 h1, ← anyB_bit 2 x 4 rfl (by omega) h0 h1, ← anyB_bit 3 x 8 rfl (by omega) h0 h1]
  obtain ⟨a, rfl⟩ := Int.eq_ofNat_of_zero_le h0
  rw [show (14 : Int) = ((14 : Nat) : Int) from rfl, show (2 : Int) = ((2 : Nat) : Int) from rfl, show (4 : Int) = ((4 : Nat) : Int) from rfl, show (8 : Int) = ((8 : Nat) : Int) from rfl]
  rw [anyB_nat a 14 (by omega) (by omega), anyB_nat a 2 (by omega) (by omega), anyB_nat a 4 (by omega) (by omega), anyB_nat a 8 (by omega) (by omega)]
  rw [← nat_and_or, ← nat_and_or]
  rfl

theorem anyB_uad (x : Int) (h0 : 0 ≤ x) (h1 : x ≤ 18446744073709551615) : anyB x 208 = (bitB x 16 || bitB x 64 || bitB x 128) := by
  rw [← anyB_bit 4 x 16 rfl (by omega) h0 h1, ← anyB_bit 6 x 64 rfl (by omega) h0 h1, ← anyB_bit 7 x 128 rfl (by omega) h0 h1]
  obtain ⟨a, rfl⟩ := Int.eq_ofNat_of_zero_le h0
  rw [show (208 : Int) = ((208 : Nat) : Int) from rfl, show (16 : Int) = ((16 : Nat) : Int) from rfl, show (64 : Int) = ((64 : Nat) : Int) from rfl, show (128 : Int) = ((128 : Nat) : Int) from rfl]
  rw [anyB_nat a 208 (by omega) (by omega), anyB_nat a 16 (by omega) (by omega), anyB_nat a 64 (by omega) (by omega), anyB_nat a 128 (by omega) (by omega)]
  rw [← nat_and_or, ← nat_and_or]
  rfl

/-- The lowest k bits cleared. -/
theorem clear_u64 (k : Nat) (x m P : Int) (hP : P = 2 ^ k) (hm : m = P - 1) (hk : m < 18446744073709551616) (h0 : 0 ≤ x) (h1 : x ≤ 18446744073709551615) : bits .andNot .u64 x m = x / P * P := by
  obtain ⟨a, rfl⟩ := Int.eq_ofNat_of_zero_le h0
  have hp : 1 ≤ (2 ^ k : Nat) := Nat.one_le_two_pow
  have eP : P = ((2 ^ k : Nat) : Int) := by rw [hP]; push_cast; rfl
  have e : m = ((2 ^ k - 1 : Nat) : Int) := by rw [hm, eP]; omega
  rw [e] at hk ⊢
  rw [eP, u64_andNot_nat a (2 ^ k - 1) (by omega) (by omega)]
  rw [show ((a : Int) / ((2 ^ k : Nat) : Int) * ((2 ^ k : Nat) : Int)) = ((a / 2 ^ k * 2 ^ k : Nat) : Int) by push_cast; rfl]
  congr 1
  apply Nat.eq_of_testBit_eq
  intro i
  have hk64 : k ≤ 64 := by
    rcases Nat.lt_or_ge 64 k with h | h
    · have : 2 ^ 65 ≤ 2 ^ k := Nat.pow_le_pow_right (by omega) h
      omega
    · exact h
  rw [Nat.testBit_and, Nat.testBit_mul_two_pow, Nat.testBit_div_two_pow]
  by_cases hi : k ≤ i
  · by_cases hi' : i < 64
    · have : (18446744073709551615 - (2 ^ k - 1)).testBit i = true := by
        rw [show 18446744073709551615 - (2 ^ k - 1) = 2 ^ 64 - (2 ^ k - 1 + 1) by omega, Nat.testBit_two_pow_sub_succ (by omega), Nat.testBit_two_pow_sub_one]
        simp
        omega
      rw [this]
      simp [hi, show i - k + k = i by omega]
    · have : a.testBit i = false := Nat.testBit_lt_two_pow (Nat.lt_of_lt_of_le (by omega : a < 2 ^ 64) (Nat.pow_le_pow_right (by omega) (by omega)))
      simp [this, show i - k + k = i by omega]
  · have : (18446744073709551615 - (2 ^ k - 1)).testBit i = false := by
      rw [show 18446744073709551615 - (2 ^ k - 1) = 2 ^ 64 - (2 ^ k - 1 + 1) by omega, Nat.testBit_two_pow_sub_succ (by omega), Nat.testBit_two_pow_sub_one]
      simp
      omega
    simp [this, hi]

end Go.Proofs.Ythekickjjaleaac
