/- The draws of chapter 1: a cursor over bytes. Only what the laws need: each draw returns a number in its range. -/
import Derived.Test.YthekickjjaleaaaImpl1w
namespace Go.Proofs.Ythekickjjaleaaa
open Go.RowKit
set_option linter.unusedVariables false

/-- A cursor in block p over a slice of bytes that lies below it. -/
def Cur (T : TypeId) (w : World) (p : Nat) (a : Option Addr) (len cap : Nat) (code : List Int) : Prop :=
  ∃ (i : Nat) (h : Int), i ≤ len ∧ w.heap[p]? = some (.cells #[.slice a len cap, .int .i64 i, .int .i64 h] T (0, 0)) ∧ Byt w a len code ∧ (0 < len → ∀ x, a = some x → x.block < p) ∧ len ≤ 1048576

theorem Cur.lt {T : TypeId} {w : World} {p : Nat} {a : Option Addr} {len cap : Nat} {code : List Int} (h : Cur T w p a len cap code) : p < w.heap.size := by
  obtain ⟨_, _, _, hh, _⟩ := h
  exact (Array.getElem?_eq_some_iff.1 hh).1

/-- A mask keeps a number within the mask. -/
theorem and_i64 (x m : Int) (h0 : 0 ≤ m) (hm : m < 9223372036854775808) : 0 ≤ bits .and .i64 x m ∧ bits .and .i64 x m ≤ m := by
  obtain ⟨m, rfl⟩ := Int.eq_ofNat_of_zero_le h0
  have e : bits .and .i64 x m = IntKind.i64.wrap (((BitVec.ofInt 64 x).toNat &&& m : Nat) : Int) := by
    unfold bits
    show IntKind.i64.wrap ((BitVec.ofInt 64 x &&& BitVec.ofInt 64 (m : Int)).toNat : Int) = _
    rw [BitVec.toNat_and, BitVec.ofInt_natCast, BitVec.toNat_ofNat, Nat.mod_eq_of_lt (by omega)]
  have hle : (BitVec.ofInt 64 x).toNat &&& m ≤ m := Nat.and_le_right
  rw [e]
  generalize (BitVec.ofInt 64 x).toNat &&& m = t at hle
  simp only [IntKind.wrap, IntKind.signed, IntKind.bits]
  simp
  omega

theorem Cur.step {T : TypeId} {w v : World} {p : Nat} {a : Option Addr} {len cap : Nat} {code : List Int} {i i' : Nat} {h h' : Int}
    (hh : w.heap[p]? = some (.cells #[.slice a len cap, .int .i64 i, .int .i64 h] T (0, 0))) (hb : Byt w a len code) (hlt : 0 < len → ∀ x, a = some x → x.block < p) (hl : len ≤ 1048576) (hi : i' ≤ len)
    (hv : v.heap[p]? = some (.cells #[.slice a len cap, .int .i64 i', .int .i64 h'] T (0, 0))) (hg : w.grownBy v (some p)) : Cur T v p a len cap code := by
  refine ⟨i', h', hi, hv, ?_, hlt, hl⟩
  obtain ⟨h1, h2, h3⟩ := hb
  refine ⟨h1, h2, ?_⟩
  by_cases h0 : len = 0
  · exact .inl h0
  rcases h3 with h3 | ⟨b, off, rfl, hbw, hc⟩
  · exact .inl h3
  · have hbp : b < p := hlt (by omega) ⟨b, off, none⟩ rfl
    exact .inr ⟨b, off, rfl, Nat.lt_of_lt_of_le hbw hg.size, fun j hj => (World.cell?_of_block (hg.block b hbw (by simp; omega))).trans (hc j hj)⟩

theorem gb_drewN {w v : World} {r : Option Nat} (h : w.grownBy v r) (n : Nat) : w.grownBy (v.drewN n) r := ⟨h.os, h.tape, h.output, h.size, h.block⟩

theorem set1 {v : World} {p : Nat} {T : TypeId} {a b c u : Value} (h : v.heap[p]? = some (.cells #[a, b, c] T (0, 0))) : (v.setCell ⟨p, 1, none⟩ u).heap[p]? = some (.cells #[a, u, c] T (0, 0)) := by
  simp [World.setCell, Array.getElem?_modify, h]
theorem set2 {v : World} {p : Nat} {T : TypeId} {a b c u : Value} (h : v.heap[p]? = some (.cells #[a, b, c] T (0, 0))) : (v.setCell ⟨p, 2, none⟩ u).heap[p]? = some (.cells #[a, b, u] T (0, 0)) := by
  simp [World.setCell, Array.getElem?_modify, h]

set_option maxHeartbeats 800000 in
theorem l1Byte_any (p len cap : Nat) (a : Option Addr) (code : List Int) (w : World) (h : Cur 47 w p a len cap code) :
    Calls Try.prog 26 #[.pointer (some ⟨p, 0, none⟩)] w fun e w' =>
      ∃ x : Int, (0 ≤ x ∧ x ≤ 255) ∧ e = .returned (.int .i64 x) ∧ Cur 47 w' p a len cap code ∧ w.grownBy w' (some p) := by
  obtain ⟨i, h, hi, hh, hb, hlt, hl⟩ := h
  have c0 : w.cell? ⟨p, 0, none⟩ = some (.slice a len cap) := by simp [World.cell?, hh]
  have c1 : w.cell? ⟨p, 1, none⟩ = some (.int .i64 i) := by simp [World.cell?, hh]
  have c2 : w.cell? ⟨p, 2, none⟩ = some (.int .i64 h) := by simp [World.cell?, hh]
  have f1 : w.frozen? ⟨p, 1, none⟩ = false := by simp [World.frozen?, hh]
  have f2 : w.frozen? ⟨p, 2, none⟩ = false := by simp [World.frozen?, hh]
  have HS : Hid (∀ (v : World) (i' : Nat) (h' : Int), i' ≤ len → v.heap[p]? = some (.cells #[.slice a len cap, .int .i64 i', .int .i64 h'] 47 (0, 0)) → w.grownBy v (some p) → Cur 47 v p a len cap code) :=
    fun v i' h' hi' hv hg => Cur.step hh hb hlt hl hi' hv hg
  have HH : Hid _ := hh
  by_cases hil : i < len
  · rcases hb.2.2 with h3 | ⟨b, off, rfl, hbw, hc⟩
    · omega
    have g1 := hc i hil
    have g2 := hb.2.1 i
    have hbp : b < p := hlt (by omega) ⟨b, off, none⟩ rfl
    obtain ⟨z, hz⟩ : ∃ z, z = code[i]?.getD 0 := ⟨_, rfl⟩
    rw [← hz] at g1 g2
    have hbp' : b ≠ p := by omega
    clear hc hz hlt hb hh
    go_enter Try.func26, Try.ntmps26
    go_wp2_with fail
    generalize wrap64 (wrap64 (h * 6364136223846793005) + 1442695040888963407) = h'
    go_quiet (fail)
    rename Nat => nq'
    have hx := and_i64 (bits BinOp.xor IntKind.i64 (h' / 8589934592) (h' / 35184372088832)) 255 (by omega) (by omega)
    generalize bits BinOp.and IntKind.i64 (bits BinOp.xor IntKind.i64 (h' / 8589934592) (h' / 35184372088832)) 255 = x0 at hx ⊢
    generalize bits BinOp.xor IntKind.i64 (h' / 8589934592) (h' / 35184372088832) = y0
    go_wp2_with fail
    go_quiet (fail)
    rename Nat => nq''
    go_wp2_with fail
    go_quiet (fail)
    have hy := and_i64 (x0 + z) 255 (by omega) (by omega)
    generalize bits BinOp.and IntKind.i64 (x0 + z) 255 = x1 at hy ⊢
    go_wp2_with fail
    go_ret
    have hg := gb_set (gb_drewN (gb_set (gb_refl w (some p)) 2 (.int .i64 h')) (nq' + nq'' + nq)) 1 (.int .i64 ((i : Int) + 1))
    exact ⟨x1, hy, rfl, HS.out _ (i + 1) h' (by omega) (set1 (v := (w.setCell ⟨p, 2, none⟩ (.int .i64 h')).drewN (nq' + nq'' + nq)) (set2 HH.out)) hg, hg⟩
  · clear hlt hb hh
    go_enter Try.func26, Try.ntmps26
    go_wp2_with fail
    generalize wrap64 (wrap64 (h * 6364136223846793005) + 1442695040888963407) = h'
    go_quiet (fail)
    rename Nat => nq'
    have hx := and_i64 (bits BinOp.xor IntKind.i64 (h' / 8589934592) (h' / 35184372088832)) 255 (by omega) (by omega)
    generalize bits BinOp.and IntKind.i64 (bits BinOp.xor IntKind.i64 (h' / 8589934592) (h' / 35184372088832)) 255 = x0 at hx ⊢
    generalize bits BinOp.xor IntKind.i64 (h' / 8589934592) (h' / 35184372088832) = y0
    go_wp2_with fail
    go_quiet (fail)
    go_wp2_with fail
    go_ret
    have hg := gb_drewN (gb_drewN (gb_set (gb_refl w (some p)) 2 (.int .i64 h')) nq') nq
    exact ⟨x0, hx, rfl, HS.out _ i h' (by omega) (set2 HH.out) hg, hg⟩

theorem gb_trans {w v u : World} {r : Option Nat} (h : w.grownBy v r) (k : v.grownBy u r) : w.grownBy u r :=
  ⟨k.os.trans h.os, k.tape.trans h.tape, k.output.trans h.output, Nat.le_trans h.size k.size, fun i hi hn => (k.block i (Nat.lt_of_lt_of_le hi h.size) hn).trans (h.block i hi hn)⟩

theorem wrap_u64_bd (n : Int) : 0 ≤ IntKind.u64.wrap n ∧ IntKind.u64.wrap n ≤ 18446744073709551615 := by
  simp only [IntKind.wrap, IntKind.signed, IntKind.bits]
  simp
  omega

/-- What a draw of a number leaves. -/
def Drew (T : TypeId) (w : World) (p : Nat) (a : Option Addr) (len cap : Nat) (code : List Int) (w' : World) : Prop := Cur T w' p a len cap code ∧ w.grownBy w' (some p)

theorem Drew.trans {T : TypeId} {w v u : World} {p : Nat} {a : Option Addr} {len cap : Nat} {code : List Int} (h : Drew T w p a len cap code v) (k : Drew T v p a len cap code u) : Drew T w p a len cap code u := ⟨k.1, gb_trans h.2 k.2⟩

theorem l1Below_any (p len cap : Nat) (a : Option Addr) (code : List Int) (n : Int) (w : World) (h : Cur 47 w p a len cap code) (hn : 1 ≤ n) (hn' : n ≤ 16777216) :
    Calls Try.prog 9 #[.pointer (some ⟨p, 0, none⟩), .int .i64 n] w fun e w' =>
      ∃ x : Int, (0 ≤ x ∧ x < n) ∧ e = .returned (.int .i64 x) ∧ Drew 47 w p a len cap code w' := by
  by_cases hs : n ≤ 256
  · go_enter Try.func9, Try.ntmps9
    go_wp2_with fail
    refine (l1Byte_any p len cap a code w h).mono ?_
    rintro e v1 ⟨x, hx, rfl, k1, g1⟩
    go_wp2_with fail
    go_ret
    exact ⟨x % n, ⟨Int.emod_nonneg _ (by omega), Int.emod_lt_of_pos _ (by omega)⟩, rfl, k1, g1⟩
  · go_enter Try.func9, Try.ntmps9
    go_wp2_with fail
    refine (l1Byte_any p len cap a code w h).mono ?_
    rintro e v1 ⟨x, hx, rfl, k1, g1⟩
    go_wp2_with fail
    refine (l1Byte_any p len cap a code v1 k1).mono ?_
    rintro e v2 ⟨y, hy, rfl, k2, g2⟩
    have g12 := gb_trans g1 g2
    clear g1 g2 k1
    go_wp2_with fail
    refine (l1Byte_any p len cap a code v2 k2).mono ?_
    rintro e v3 ⟨z, hz, rfl, k3, g3⟩
    have g13 := gb_trans g12 g3
    clear g12 g3 k2
    go_wp2_with fail
    go_ret
    exact ⟨(x * 65536 + y * 256 + z) % n, ⟨Int.emod_nonneg _ (by omega), Int.emod_lt_of_pos _ (by omega)⟩, rfl, k3, g13⟩

theorem l1Once_any (p len cap : Nat) (a : Option Addr) (code : List Int) (n : Int) (w : World) (h : Cur 47 w p a len cap code) (hn : 1 ≤ n) (hn' : n ≤ 16777216) :
    Calls Try.prog 27 #[.pointer (some ⟨p, 0, none⟩), .int .i64 n] w fun e w' =>
      ∃ x : Bool, e = .returned (.bool x) ∧ Drew 47 w p a len cap code w' := by
  go_enter Try.func27, Try.ntmps27
  go_wp2_with fail
  refine (l1Below_any p len cap a code n w h hn hn').mono ?_
  rintro e v1 ⟨x, hx, rfl, k1⟩
  go_wp2_with fail
  go_ret
  exact ⟨_, rfl, k1⟩

theorem l1Word_any (p len cap : Nat) (a : Option Addr) (code : List Int) (w : World) (h : Cur 47 w p a len cap code) :
    Calls Try.prog 13 #[.pointer (some ⟨p, 0, none⟩)] w fun e w' =>
      ∃ x : Int, (0 ≤ x ∧ x ≤ 18446744073709551615) ∧ e = .returned (.int .u64 x) ∧ Drew 47 w p a len cap code w' := by
  go_enter Try.func13, Try.ntmps13
  go_wp2_with fail
  go_loopw [3, 4] (fun xx kk wr => ∃ (x : Int) (k : Nat), (0 ≤ x ∧ x ≤ 18446744073709551615) ∧ k ≤ 8 ∧ xx = .int .u64 x ∧ kk = .int .i64 k ∧ Drew 47 w p a len cap code wr) (fun _ kk _ => 8 - (intOf kk).toNat)
  case atStart => exact ⟨0, 0, by omega, by omega, rfl, rfl, h, gb_refl _ _⟩
  case round =>
    obtain ⟨x, k, hx, hk, rfl, rfl, hd⟩ := hrel
    by_cases hlt : k < 8
    · go_wp2_with fail
      refine (l1Byte_any p len cap a code wr hd.1).mono ?_
      rintro e v1 ⟨y, hy, rfl, k1, g1⟩
      have hd1 := hd.trans ⟨k1, g1⟩
      clear hd k1 g1
      go_wp2_with fail
      have hw := wrap_u64_bd (IntKind.u64.wrap (x * 256) + y)
      go_roundw
      case rel => exact ⟨_, k + 1, hw, by omega, rfl, by go_num, hd1⟩
      case measure => simp [intOf]; omega
    · go_wp2_with fail
      go_ret
      exact ⟨x, hx, rfl, hd⟩

theorem Cur.below {T : TypeId} {B : Nat} {w v : World} {p : Nat} {a : Option Addr} {len cap : Nat} {code : List Int} (h : Cur T w p a len cap code) (hb : Below B w v) (hp : p < B) : Cur T v p a len cap code := by
  obtain ⟨i, hh, hi, hv, ⟨h1, h2, h3⟩, hlt, hl⟩ := h
  refine ⟨i, hh, hi, by rw [hb.block p hp]; exact hv, ⟨h1, h2, ?_⟩, hlt, hl⟩
  by_cases h0 : len = 0
  · exact .inl h0
  rcases h3 with h3 | ⟨b, off, rfl, hbw, hc⟩
  · exact .inl h3
  · have hbp : b < p := hlt (by omega) ⟨b, off, none⟩ rfl
    exact .inr ⟨b, off, rfl, Nat.lt_of_lt_of_le hbw hb.size, fun j hj => (hb.cell (p := ⟨b, off + j, none⟩) (Nat.lt_trans hbp hp)).trans (hc j hj)⟩

theorem Drew.below {T : TypeId} {w v u : World} {p : Nat} {a : Option Addr} {len cap : Nat} {code : List Int} (h : Drew T w p a len cap code v) (hb : Below w.heap.size v u) (hp : p < w.heap.size) : Drew T w p a len cap code u := by
  refine ⟨h.1.below hb hp, ⟨hb.os.trans h.2.os, hb.tape.trans h.2.tape, hb.output.trans h.2.output, Nat.le_trans h.2.size hb.size, fun i hi hn => (hb.block i hi).trans (h.2.block i hi hn)⟩⟩

theorem OwnB.gb {e : TypeId} {w w' : World} {base g n cap r : Nat} {zs : List Int} (h : OwnB e w base g n cap zs) (hg : w.grownBy w' (some r)) (hne : g ≠ r) : OwnB e w' base g n cap zs := by
  obtain ⟨h1, h2⟩ := h
  refine ⟨h1, ?_⟩
  rcases h2 with ⟨h2, _⟩ | ⟨g', cap', cur, h2, hb', hh, r'⟩
  · simp at h2
  · have hh' := h2
    simp at hh'
    obtain ⟨rfl, rfl⟩ := hh'
    exact .inr ⟨_, _, cur, h2, hb', by rw [hg.block _ (Array.getElem?_eq_some_iff.1 hh).1 (by simpa using hne)]; exact hh, r'⟩

theorem one_byt (w : World) (e : TypeId) (z : Int) (hz : 0 ≤ z ∧ z ≤ 255) : Byt (w.alloc (.cells #[.int .u8 z] e)) (some ⟨w.heap.size, 0, none⟩) 1 [z] :=
  (OwnB.new e w [z] 1 rfl (by decide)).byt (fun i => by cases i <;> simp [hz])

theorem snoc_bd {zs : List Int} {z : Int} (h : ∀ i : Nat, 0 ≤ zs[i]?.getD 0 ∧ zs[i]?.getD 0 ≤ 255) (hz : 0 ≤ z ∧ z ≤ 255) : ∀ i : Nat, 0 ≤ (zs ++ [z])[i]?.getD 0 ∧ (zs ++ [z])[i]?.getD 0 ≤ 255 := by
  refine bd_of_mem (fun y hy => ?_)
  simp at hy
  rcases hy with hy | rfl
  · exact mem_of_bd h y hy
  · exact hz

set_option maxHeartbeats 800000 in
theorem l1Mem_any (p len cap : Nat) (a : Option Addr) (code : List Int) (n : Nat) (w : World) (h : Cur 47 w p a len cap code) (hn : n ≤ 1048576) :
    Calls Try.prog 10 #[.pointer (some ⟨p, 0, none⟩), .int .i64 n] w fun e w' =>
      ∃ (g cp : Nat) (zs : List Int), e = .returned (.slice (some ⟨g, 0, none⟩) n cp) ∧ OwnB 5 w' w.heap.size g n cp zs ∧ (∀ i : Nat, 0 ≤ zs[i]?.getD 0 ∧ zs[i]?.getD 0 ≤ 255) ∧ Drew 47 w p a len cap code w' := by
  have hp := h.lt
  have o1 := OwnB.new 5 w [] 0 rfl (by decide)
  have n1 : Below w.heap.size w (w.alloc (Obj.cells #[] 5)) := (Below.refl _ _).alloc (Nat.le_refl _) _
  have d1 : Drew 47 w p a len cap code (w.alloc (Obj.cells #[] 5)) := Drew.below ⟨h, gb_refl _ _⟩ n1 hp
  simp only [List.map_nil] at o1
  clear n1
  go_enter Try.func10, Try.ntmps10
  go_wp2_with fail
  go_loopw [5, 6] (fun vv kk wr => ∃ (g cp k : Nat) (zs : List Int), k ≤ n ∧ vv = .slice (some ⟨g, 0, none⟩) k cp ∧ kk = .int .i64 k ∧ OwnB 5 wr w.heap.size g k cp zs ∧ (∀ i : Nat, 0 ≤ zs[i]?.getD 0 ∧ zs[i]?.getD 0 ≤ 255) ∧ Drew 47 w p a len cap code wr) (fun _ kk _ => n - (intOf kk).toNat)
  case atStart => exact ⟨_, _, 0, [], Nat.zero_le _, rfl, rfl, o1, fun i => by simp, d1⟩
  case round =>
    obtain ⟨g, cp, k, zs, hk, rfl, rfl, ho, hz, hd⟩ := hrel
    have f := ho.facts
    clear o1 d1
    by_cases hlt : k < n
    · have HZ : Hid (∀ i : Nat, 0 ≤ zs[i]?.getD 0 ∧ zs[i]?.getD 0 ≤ 255) := hz
      clear hz
      go_wp2_with fail
      refine (l1Byte_any p len cap a code wr hd.1).mono ?_
      rintro e v1 ⟨y, hy, rfl, k1, g1⟩
      have hd1 := hd.trans ⟨k1, g1⟩
      have o2 := ho.gb g1 (by omega)
      have n2 : Below w.heap.size v1 (v1.alloc (Obj.cells #[Value.int .u8 y] 5)) := (Below.refl _ _).alloc hd1.2.size _
      have o3 := o2.keep ((Below.refl v1.heap.size v1).alloc (Nat.le_refl _) (Obj.cells #[Value.int .u8 y] 5)) o2.facts.2.2.1
      have y3 := one_byt v1 5 y hy
      clear hd k1 g1 ho o2
      go_wp2_with (at_builtin; refine append_b _ rfl (.tmp 16) (.tmp 19) 22 rfl 5 Try.underlying22 Try.infoB w.heap.size _ _ _ _ rfl o3 v1.heap.size 0 1 1 [y] rfl y3 (by omega) _ _ n2 (Nat.le_refl _) ?_; intro g4 cp4 v4 o4 n4; clear o3 y3 n2)
      have hd4 := hd1.below n4 hp
      go_roundw
      case rel => exact ⟨g4, cp4, k + 1, zs ++ [y], by omega, rfl, by go_num, o4, snoc_bd HZ.out hy, hd4⟩
      case measure => simp [intOf]; omega
    · have hkn : k = n := by omega
      subst hkn
      go_wp2_with fail
      go_ret
      exact ⟨g, cp, zs, rfl, ho, hz, hd⟩

theorem l1Addr_any (p len cap : Nat) (a : Option Addr) (code : List Int) (n : Int) (w : World) (h : Cur 47 w p a len cap code) (hn : 0 ≤ n) (hn' : n ≤ 1048576) :
    Calls Try.prog 11 #[.pointer (some ⟨p, 0, none⟩), .int .i64 n] w fun e w' =>
      ∃ x : Int, (0 ≤ x ∧ x ≤ 18446744073709551615) ∧ e = .returned (.int .u64 x) ∧ Drew 47 w p a len cap code w' := by
  go_enter Try.func11, Try.ntmps11
  go_wp2_with fail
  refine (l1Below_any p len cap a code 12 w h (by omega) (by omega)).mono ?_
  rintro e v1 ⟨k, hk, rfl, d1⟩
  go_wp2_with fail
  refine (l1Below_any p len cap a code 9 v1 d1.1 (by omega) (by omega)).mono ?_
  rintro e v2 ⟨x, hx, rfl, d2⟩
  have d12 := d1.trans d2
  clear d1 d2
  by_cases k0 : k = 0
  · subst k0
    go_wp2_with fail
    go_ret
    exact ⟨_, wrap_u64_bd _, rfl, d12⟩
  by_cases k1 : k = 1
  · subst k1
    go_wp2_with fail
    refine (l1Word_any p len cap a code v2 d12.1).mono ?_
    rintro e v3 ⟨y, hy, rfl, d3⟩
    have d13 := d12.trans d3
    clear d12 d3
    go_wp2_with fail
    go_ret
    exact ⟨y, hy, rfl, d13⟩
  have k0' : (k == 0) = false := by simp; omega
  have k1' : (k == 1) = false := by simp; omega
  clear k0 k1
  by_cases k5 : k < 5
  · go_wp2_with fail
    go_ret
    exact ⟨_, wrap_u64_bd _, rfl, d12⟩
  · go_wp2_with fail
    refine (l1Below_any p len cap a code (n + 2) v2 d12.1 (by omega) (by omega)).mono ?_
    rintro e v3 ⟨y, hy, rfl, d3⟩
    have d13 := d12.trans d3
    clear d12 d3
    go_wp2_with fail
    go_ret
    exact ⟨y, by omega, rfl, d13⟩

theorem l1Width_any (p len cap : Nat) (a : Option Addr) (code : List Int) (w : World) (h : Cur 47 w p a len cap code) :
    Calls Try.prog 12 #[.pointer (some ⟨p, 0, none⟩)] w fun e w' =>
      ∃ x : Int, (-1 ≤ x ∧ x ≤ 9) ∧ e = .returned (.int .i64 x) ∧ Drew 47 w p a len cap code w' := by
  go_enter Try.func12, Try.ntmps12
  go_wp2_with fail
  refine (l1Once_any p len cap a code 14 w h (by omega) (by omega)).mono ?_
  rintro e v1 ⟨b, rfl, d1⟩
  cases b
  · go_wp2_with fail
    refine (l1Below_any p len cap a code 4 v1 d1.1 (by omega) (by omega)).mono ?_
    rintro e v2 ⟨x, hx, rfl, d2⟩
    have d12 := d1.trans d2
    clear d1 d2
    rcases (show x = 0 ∨ x = 1 ∨ x = 2 ∨ x = 3 by omega) with rfl | rfl | rfl | rfl
    all_goals
      go_wp2_with fail
      go_ret
      exact ⟨_, by omega, rfl, d12⟩
  · go_wp2_with fail
    refine (l1Below_any p len cap a code 11 v1 d1.1 (by omega) (by omega)).mono ?_
    rintro e v2 ⟨x, hx, rfl, d2⟩
    have d12 := d1.trans d2
    clear d1 d2
    go_wp2_with fail
    go_ret
    exact ⟨_, by omega, rfl, d12⟩

set_option maxHeartbeats 400000 in
theorem l1New_any (a : Option Addr) (len cap : Nat) (zs : List Int) (w : World) (h : Byt w a len zs) (hl : len ≤ 1048576) :
    Calls Try.prog 8 #[.slice a len cap] w fun e w' =>
      e = .returned (.pointer (some ⟨w.heap.size, 0, none⟩)) ∧ Cur 47 w' w.heap.size a len cap zs ∧ Below w.heap.size w w' := by
  have HB : Hid (Byt w a len zs) := h
  obtain ⟨h1, h2, h3⟩ := h
  go_enter Try.func8, Try.ntmps8
  go_wp2_with fail
  go_loop [3, 4] (fun hh i => ∃ (x : Int) (k : Nat), k ≤ len ∧ hh = .int .i64 x ∧ i = .int .i64 k) (fun _ i => len - (intOf i).toNat)
  case atStart => exact ⟨_, 0, Nat.zero_le _, rfl, rfl⟩
  case round =>
    obtain ⟨x, k, hk, rfl, rfl⟩ := hrel
    by_cases hlt : k < len
    · rcases h3 with h3 | ⟨b, off, rfl, hbw, hc⟩
      · omega
      have g1 := hc k hlt
      have g4 := h2 k
      clear hc h2
      go_wp2
      go_round
      case rel => exact ⟨_, k + 1, by omega, rfl, by go_num⟩
      case measure => simp [intOf]; omega
    · have HA : Hid (0 < len → ∀ x, a = some x → x.block < w.heap.size) := by
        intro hp y hy
        rcases h3 with h3 | ⟨b, off, rfl, hbw, hc⟩
        · omega
        · cases hy; exact hbw
      clear h2 h3
      go_wp2
      go_ret
      have n1 := (Below.refl w.heap.size w).alloc (Nat.le_refl _) (Obj.cells #[Value.slice a len cap, Value.int IntKind.i64 0, Value.int IntKind.i64 x] 47)
      exact ⟨rfl, ⟨0, x, Nat.zero_le _, heap_alloc_new _ _, HB.out.keep n1, HA.out, hl⟩, n1⟩

set_option maxHeartbeats 400000 in
theorem DrawWriteMem_any (a : Option Addr) (len cap : Nat) (zs : List Int) (w : World) (h : Byt w a len zs) (hl : len ≤ 1048576) :
    Calls Try.prog 4 #[.slice a len cap] w fun e w' =>
      ∃ (g n cp : Nat) (ys : List Int) (ad wd x : Int), e = .returned (.tuple #[.slice (some ⟨g, 0, none⟩) n cp, .int .u64 ad, .int .i64 wd, .int .u64 x]) ∧ n ≤ 80 ∧ n ≤ cp ∧ cp ≤ 9223372036854775807 ∧
        Byt w' (some ⟨g, 0, none⟩) n ys ∧ (0 ≤ ad ∧ ad ≤ 18446744073709551615) ∧ (-1 ≤ wd ∧ wd ≤ 9) ∧ (0 ≤ x ∧ x ≤ 18446744073709551615) ∧ Below w.heap.size w w' := by
  go_enter Try.func4, Try.ntmps4
  go_wp2_with fail
  refine (l1New_any a len cap zs w h hl).mono ?_
  rintro e v1 ⟨rfl, c1, n1⟩
  go_wp2_with fail
  refine (l1Below_any w.heap.size len cap a zs 80 v1 c1 (by omega) (by omega)).mono ?_
  rintro e v2 ⟨n, hn, rfl, d2⟩
  obtain ⟨m, rfl⟩ := Int.eq_ofNat_of_zero_le hn.1
  go_wp2_with fail
  refine (l1Mem_any w.heap.size len cap a zs m v2 d2.1 (by omega)).mono ?_
  rintro e v3 ⟨g, cp, ys, rfl, o3, hy, d3⟩
  have d13 := d2.trans d3
  have f3 := o3.facts
  have l2 := d2.1.lt
  clear d2 d3 c1
  have HY : Hid _ := hy
  clear hy
  go_wp2_with fail
  refine (l1Addr_any w.heap.size len cap a zs m v3 d13.1 (by omega) (by omega)).mono ?_
  rintro e v4 ⟨ad, had, rfl, d4⟩
  have o4 := o3.gb d4.2 (by omega)
  have d14 := d13.trans d4
  clear d13 d4 o3
  go_wp2_with fail
  refine (l1Width_any w.heap.size len cap a zs v4 d14.1).mono ?_
  rintro e v5 ⟨wd, hwd, rfl, d5⟩
  have o5 := o4.gb d5.2 (by omega)
  have d15 := d14.trans d5
  clear d14 d5 o4
  go_wp2_with fail
  refine (l1Word_any w.heap.size len cap a zs v5 d15.1).mono ?_
  rintro e v6 ⟨x, hx, rfl, d6⟩
  have o6 := o5.gb d6.2 (by omega)
  have d16 := d15.trans d6
  clear d15 d6 o5
  go_wp2_with fail
  have b6 := o6.byt HY.out
  have n6 : Below w.heap.size w v6 := n1.grown d16.2 n1.size (fun k hk => by cases hk; exact Nat.le_refl _)
  refine bodyPost_ret (v := .tuple #[.slice (some ⟨g, 0, none⟩) m cp, .int .u64 ad, .int .i64 wd, .int .u64 x]) (by simp [results, Try.results4]) rfl ?_
  exact ⟨g, m, cp, ys, ad, wd, x, rfl, by omega, f3.2.2.2.1, f3.2.2.2.2, b6, had, hwd, hx, n6⟩

end Go.Proofs.Ythekickjjaleaaa
