import Derived.Test.YthekickjjaleaacGreatPack16
import Derived.Test.YthekickjjaleaacGreatPack04
import Derived.Test.YthekickjjaleaacGreatPack05
import Derived.Test.YthekickjjaleaacGreatPack08
/- The program's reading of a memory: holds, read1 .. read8, impl.ReadMem. -/
namespace Go.Proofs.YthekickjjaleaacGreat
open Go.RowKit
set_option linter.unusedVariables false

theorem run_rr0 (w : World) (b : Bool) (v : Int) : (Instr.field 187 (.agg #[.bool b, .int .u64 v]) 0).run Tryz.prog w = .ok (.bool b) w := by
  simp [Instr.field, go_sem, part, asAgg]

theorem has_any (a : Option Addr) (len cap : Nat) (addr n : Int) (w : World) (hl : len ≤ 1048576) (h0 : 0 ≤ addr) (h1 : addr ≤ 18446744073709551615) (h2 : 0 ≤ n) (h3 : n ≤ 18446744073709551615) :
    Calls Tryz.prog 183 #[.slice a len cap, .int .u64 addr, .int .u64 n] w fun e w' => e = .returned (.bool (insB len addr n)) ∧ w' = w := by
  by_cases hh : n ≤ (len : Int)
  all_goals
    go_enter Tryz.func183, Tryz.ntmps183
    go_wp2
    all_goals
      go_ret
      exact ⟨by simp [insB]; try omega, rfl⟩

theorem holds_any (a : Option Addr) (len cap : Nat) (addr n : Int) (w : World) (hl : len ≤ 1048576) (h0 : 0 ≤ addr) (h1 : addr ≤ 18446744073709551615) (h3 : n ≤ 9223372036854775807) :
    Calls Tryz.prog 239 #[.slice a len cap, .int .u64 addr, .int .i64 n] w fun e w' => e = .returned (.bool (goodB len addr n)) ∧ w' = w := by
  by_cases hn : n = 1 ∨ n = 2 ∨ n = 4 ∨ n = 8
  · rw [← goodB_ins len addr n hn]
    rcases hn with rfl | rfl | rfl | rfl
    all_goals
      go_enter Tryz.func239, Tryz.ntmps239
      go_wp2_with (go_at_call 183; refine (has_any _ _ _ _ _ _ hl h0 h1 (by omega) (by omega)).mono ?_; rintro e w' ⟨rfl, rfl⟩)
      go_ret
      exact ⟨rfl, rfl⟩
  · have n1 : (n == 1) = false := by simp; omega
    have n2 : (n == 2) = false := by simp; omega
    have n4 : (n == 4) = false := by simp; omega
    have n8 : (n == 8) = false := by simp; omega
    have hg : goodB len addr n = false := by simp [goodB]; omega
    rw [hg]
    clear hn hg
    go_enter Tryz.func239, Tryz.ntmps239
    go_wp2_with fail
    go_ret
    exact ⟨rfl, rfl⟩

theorem read1_any (b off len cap k : Nat) (zs : List Int) (w : World) (h : Cel w b off len zs) (hk : k < len) (hl : len ≤ 1048576) :
    Calls Tryz.prog 209 #[.slice (some ⟨b, off, none⟩) len cap, .int .u64 k] w fun e w' => e = .returned (.int .u64 (zs[k]?.getD 0)) ∧ w' = w := by
  have hcell := h.2.2 k hk
  have hb := h.2.1 k
  obtain ⟨z, hz'⟩ : ∃ z, z = zs[k]?.getD 0 := ⟨_, rfl⟩
  rw [← hz'] at hcell hb ⊢
  clear hz' h
  go_enter Tryz.func209, Tryz.ntmps209
  go_wp2_with fail
  go_ret
  exact ⟨rfl, rfl⟩

theorem read2_any (b off len cap k : Nat) (zs : List Int) (w : World) (h : Cel w b off len zs) (hk : k + 2 ≤ len) (hl : len ≤ 1048576) :
    Calls Tryz.prog 242 #[.slice (some ⟨b, off, none⟩) len cap, .int .u64 k] w fun e w' => e = .returned (.int .u64 (num ((zs.drop k).take 2))) ∧ w' = w := by
  have hb1 := h.2.1 k
  have hb2 := h.2.1 (k + 1)
  have HF : Hid (bits .or .u64 (zs[k]?.getD 0) (zs[k + 1]?.getD 0 * 256) = num ((zs.drop k).take 2)) := by
    rw [num_two zs k (by have := h.1; omega)]
    exact or_shift 8 256 _ _ rfl hb1.1 (by omega) hb2.1 (by omega) (by omega)
  go_enter Tryz.func242, Tryz.ntmps242
  go_wp2_with fail
  refine (read1_any b off len cap k zs w h (by omega) hl).mono ?_
  rintro e w' ⟨rfl, rfl⟩
  go_wp2_with fail
  rw [show ((k : Int) + 1) = ((k + 1 : Nat) : Int) by omega]
  refine (read1_any b off len cap (k + 1) zs _ h (by omega) hl).mono ?_
  rintro e w' ⟨rfl, rfl⟩
  go_wp2_with fail
  go_ret
  exact ⟨ret_u64 HF.out, rfl⟩

theorem read4_any (b off len cap k : Nat) (zs : List Int) (w : World) (h : Cel w b off len zs) (hk : k + 4 ≤ len) (hl : len ≤ 1048576) :
    Calls Tryz.prog 241 #[.slice (some ⟨b, off, none⟩) len cap, .int .u64 k] w fun e w' => e = .returned (.int .u64 (num ((zs.drop k).take 4))) ∧ w' = w := by
  have hb1 := num_sub_bd zs k 2 h.2.1
  have hb2 := num_sub_bd zs (k + 2) 2 h.2.1
  simp at hb1 hb2
  have HF : Hid (bits .or .u64 (num ((zs.drop k).take 2)) (num ((zs.drop (k + 2)).take 2) * 65536) = num ((zs.drop k).take 4)) := by
    rw [num_join zs k 2 (by have := h.1; omega)]
    exact or_shift 16 65536 _ _ rfl hb1.1 (by omega) hb2.1 (by omega) (by omega)
  go_enter Tryz.func241, Tryz.ntmps241
  go_wp2_with fail
  refine (read2_any b off len cap k zs w h (by omega) hl).mono ?_
  rintro e w' ⟨rfl, rfl⟩
  go_wp2_with fail
  rw [show ((k : Int) + 2) = ((k + 2 : Nat) : Int) by omega]
  refine (read2_any b off len cap (k + 2) zs _ h (by omega) hl).mono ?_
  rintro e w' ⟨rfl, rfl⟩
  go_wp2_with fail
  go_ret
  exact ⟨ret_u64 HF.out, rfl⟩

theorem read8_any (b off len cap k : Nat) (zs : List Int) (w : World) (h : Cel w b off len zs) (hk : k + 8 ≤ len) (hl : len ≤ 1048576) :
    Calls Tryz.prog 240 #[.slice (some ⟨b, off, none⟩) len cap, .int .u64 k] w fun e w' => e = .returned (.int .u64 (num ((zs.drop k).take 8))) ∧ w' = w := by
  have hb1 := num_sub_bd zs k 4 h.2.1
  have hb2 := num_sub_bd zs (k + 4) 4 h.2.1
  simp at hb1 hb2
  have HF : Hid (bits .or .u64 (num ((zs.drop k).take 4)) (num ((zs.drop (k + 4)).take 4) * 4294967296) = num ((zs.drop k).take 8)) := by
    rw [num_join zs k 4 (by have := h.1; omega)]
    exact or_shift 32 4294967296 _ _ rfl hb1.1 (by omega) hb2.1 (by omega) (by omega)
  go_enter Tryz.func240, Tryz.ntmps240
  go_wp2_with fail
  refine (read4_any b off len cap k zs w h (by omega) hl).mono ?_
  rintro e w' ⟨rfl, rfl⟩
  go_wp2_with fail
  rw [show ((k : Int) + 4) = ((k + 4 : Nat) : Int) by omega]
  refine (read4_any b off len cap (k + 4) zs _ h (by omega) hl).mono ?_
  rintro e w' ⟨rfl, rfl⟩
  go_wp2_with fail
  go_ret
  exact ⟨ret_u64 HF.out, rfl⟩


end Go.Proofs.YthekickjjaleaacGreat

/- The program's walk: entryAddr, entryAt, the codes of faults. -/
namespace Go.Proofs.YthekickjjaleaacGreat
open Go.RowKit
set_option linter.unusedVariables false

theorem entryAddr_at (n level va : Int) (w : World) (hv0 : 0 ≤ va) (hv1 : va ≤ 18446744073709551615) (hl : level = 0 ∨ level = 1 ∨ level = 2) (hn0 : 0 ≤ n) (hn1 : n < 17592186044416) :
    Calls Tryz.prog 214 #[.int .u64 n, .int .i64 level, .int .u64 va] w fun e w' => e = .returned (.int .u64 (64 * n + 8 * idxM va level)) ∧ ∃ q, w' = w.drewN q := by
  obtain ⟨ix, hix⟩ : ∃ ix, idxM va level = ix := ⟨_, rfl⟩
  have hib := idxM_bd va level
  have HI : Hid (idxM va level = ix) := hix
  have HE : Hid (n * 64 + ix * 8 = 64 * n + 8 * ix) := show _ = _ by omega
  rw [hix] at hib ⊢
  clear hix
  go_enter Tryz.func214, Tryz.ntmps214
  go_wp2_with fail
  refine (index_at va level w hv0 hv1 hl).mono ?_
  rintro e w' ⟨rfl, nq, rfl⟩
  rw [HI.out]
  go_wp2_with fail
  go_ret
  exact ⟨ret_u64 HE.out, nq, rfl⟩

theorem entryAt_out (a : Option Addr) (len cap : Nat) (addr : Int) (w : World) (hl : len ≤ 1048576) (h0 : 0 ≤ addr) (h1 : addr ≤ 18446744073709551615) (hg : goodB len addr 8 = false) :
    Calls Tryz.prog 238 #[.slice a len cap, .int .u64 addr] w fun e w' => e = .returned (.tuple #[.int .u64 0, .bool false]) ∧ w' = w := by
  have HG : Hid (goodB len addr 8 = false) := hg
  clear hg
  go_enter Tryz.func238, Tryz.ntmps238
  go_wp2_with (go_at_call 239; refine (holds_any _ _ _ _ _ _ hl h0 h1 (by omega)).mono ?_; rintro e w' ⟨rfl, rfl⟩; rw [HG.out])
  exact bodyPost_ret (v := .tuple #[.int .u64 0, .bool false]) (by simp [results, Tryz.results238, go_sem]) rfl ⟨rfl, rfl⟩

theorem entryAt_in (a : Option Addr) (len cap : Nat) (zs : List Int) (addr : Int) (w : World) (h : Byt w a len zs) (hl : len ≤ 1048576) (h0 : 0 ≤ addr) (h1 : addr ≤ 18446744073709551615) (hg : goodB len addr 8 = true) :
    Calls Tryz.prog 238 #[.slice a len cap, .int .u64 addr] w fun e w' => e = .returned (.tuple #[.int .u64 (rdV zs addr 8), .bool true]) ∧ w' = w := by
  have hz := h.1
  have hv : rdV zs addr 8 = num ((zs.drop addr.toNat).take 8) := by simp [rdV, hz, hg]
  rw [hv]
  have hg' := hg
  simp only [goodB, decide_eq_true_eq] at hg'
  obtain ⟨hn, hn1, hn2⟩ := hg'
  obtain ⟨k, rfl⟩ := Int.eq_ofNat_of_zero_le h0
  obtain ⟨b, off, rfl⟩ : ∃ b off, a = some ⟨b, off, none⟩ := by
    rcases h.2.2 with hy | ⟨b, off, rfl, hb, hcl⟩
    · omega
    · exact ⟨b, off, rfl⟩
  have HG : Hid (goodB len k 8 = true) := hg
  have HC : Cel w b off len zs := Cel.of_byt h
  clear hg hv h
  rw [Int.toNat_natCast]
  go_enter Tryz.func238, Tryz.ntmps238
  go_wp2_with (first
    | (go_at_call 239; refine (holds_any _ _ _ _ _ _ hl h0 h1 (by omega)).mono ?_; rintro e w' ⟨rfl, rfl⟩; rw [HG.out])
    | (go_at_call 240; refine (read8_any b off len cap k zs _ HC (by omega) hl).mono ?_; rintro e w' ⟨rfl, rfl⟩))
  exact bodyPost_ret (v := .tuple #[.int .u64 (num ((zs.drop k).take 8)), .bool true]) (by simp [results, Tryz.results238, go_sem]) rfl ⟨rfl, rfl⟩

end Go.Proofs.YthekickjjaleaacGreat

/- The program's faults: error values of two types, told apart by a type switch; the causes. -/
namespace Go.Proofs.YthekickjjaleaacGreat
open Go.RowKit
set_option linter.unusedVariables false

theorem ta_pp (w : World) : (Instr.typeAssert (.iface 203 (.agg #[])) 118 203 true).run Tryz.prog w = .ok (.tuple #[.agg #[], .bool true]) w := by kernel_rfl
theorem ta_ap (w : World) : (Instr.typeAssert (.iface 214 (.agg #[])) 118 203 true).run Tryz.prog w = .ok (.tuple #[.agg #[], .bool false]) w := by kernel_rfl
theorem ta_aa (w : World) : (Instr.typeAssert (.iface 214 (.agg #[])) 118 214 true).run Tryz.prog w = .ok (.tuple #[.agg #[], .bool true]) w := by kernel_rfl
theorem ta_np (w : World) : (Instr.typeAssert .nilIface 118 203 true).run Tryz.prog w = .ok (.tuple #[.agg #[], .bool false]) w := by kernel_rfl
theorem ta_na (w : World) : (Instr.typeAssert .nilIface 118 214 true).run Tryz.prog w = .ok (.tuple #[.agg #[], .bool false]) w := by kernel_rfl

/-- The error value of a code: none, page, access. -/
def faultV (code : Int) : Value := if code = 1 then .nilIface else if code = 2 then .iface 203 (.agg #[]) else .iface 214 (.agg #[])


theorem pageCause_at (kind : Int) (w : World) : Calls Tryz.prog 110 #[.int .i64 kind] w fun e w' => e = .returned (.int .i64 (pageM kind)) ∧ w' = w := by
  by_cases k0 : kind = 0
  · subst k0
    go_enter Tryz.func110, Tryz.ntmps110
    go_wp2_with fail
    go_ret
    exact ⟨rfl, rfl⟩
  have k0' : (kind == 0) = false := by simpa using k0
  by_cases k1 : kind = 1
  · subst k1
    go_enter Tryz.func110, Tryz.ntmps110
    go_wp2_with fail
    go_ret
    exact ⟨rfl, rfl⟩
  have k1' : (kind == 1) = false := by simpa using k1
  have HE : Hid (pageM kind = 15) := by show _ = _; rw [pageM, if_neg k0, if_neg k1]
  clear k0 k1
  go_enter Tryz.func110, Tryz.ntmps110
  go_wp2_with fail
  go_ret
  exact ⟨ret_i64 HE.out.symm, rfl⟩

theorem accessCause_at (kind : Int) (w : World) : Calls Tryz.prog 111 #[.int .i64 kind] w fun e w' => e = .returned (.int .i64 (accessM kind)) ∧ w' = w := by
  by_cases k0 : kind = 0
  · subst k0
    go_enter Tryz.func111, Tryz.ntmps111
    go_wp2_with fail
    go_ret
    exact ⟨rfl, rfl⟩
  have k0' : (kind == 0) = false := by simpa using k0
  by_cases k1 : kind = 1
  · subst k1
    go_enter Tryz.func111, Tryz.ntmps111
    go_wp2_with fail
    go_ret
    exact ⟨rfl, rfl⟩
  have k1' : (kind == 1) = false := by simpa using k1
  have HE : Hid (accessM kind = 7) := by show _ = _; rw [accessM, if_neg k0, if_neg k1]
  clear k0 k1
  go_enter Tryz.func111, Tryz.ntmps111
  go_wp2_with fail
  go_ret
  exact ⟨ret_i64 HE.out.symm, rfl⟩

theorem causeOf_at (c kind : Int) (w : World) (hc : c = 1 ∨ c = 2 ∨ c = 3) :
    Calls Tryz.prog 58 #[faultV c, .int .i64 kind] w fun e w' => e = .returned (.int .i64 (if c = 1 then 0 else if c = 2 then pageM kind else accessM kind)) ∧ w' = w := by
  have t1 := ta_pp
  have t2 := ta_ap
  have t3 := ta_aa
  have t4 := ta_np
  have t5 := ta_na
  rcases hc with rfl | rfl | rfl
  all_goals
    simp only [faultV, if_pos, Int.reduceEq]
    go_enter Tryz.func58, Tryz.ntmps58
    go_wp2_with (first
      | (go_at_call 110; refine (pageCause_at kind _).mono ?_; rintro e w' ⟨rfl, rfl⟩)
      | (go_at_call 111; refine (accessCause_at kind _).mono ?_; rintro e w' ⟨rfl, rfl⟩))
    go_ret
    exact ⟨rfl, rfl⟩

end Go.Proofs.YthekickjjaleaacGreat

/- The program's walk from a level on: walkFrom. -/
namespace Go.Proofs.YthekickjjaleaacGreat
open Go.RowKit
set_option linter.unusedVariables false

def preM (acc : List RecM) (r : Int × Int × Int × List RecM) : Int × Int × Int × List RecM := (r.1, r.2.1, r.2.2.1, acc ++ r.2.2.2)

theorem fromM_out (zs : List Int) (va : Int) (k : Nat) (n : Int) (h : goodB zs.length (64 * n + 8 * idxM va k) 8 = false) : fromM zs va k n = (3, (k : Int), 0, []) := by
  unfold fromM
  rw [if_pos h]
theorem fromM_bad (zs : List Int) (va : Int) (k : Nat) (n : Int) (h : goodB zs.length (64 * n + 8 * idxM va k) 8 = true) (hk : kindM (rdV zs (64 * n + 8 * idxM va k) 8) k = 0) : fromM zs va k n = (2, (k : Int), 0, []) := by
  unfold fromM
  rw [if_neg (by rw [h]; simp), if_pos hk]
theorem fromM_leaf (zs : List Int) (va : Int) (k : Nat) (n : Int) (h : goodB zs.length (64 * n + 8 * idxM va k) 8 = true) (hk : kindM (rdV zs (64 * n + 8 * idxM va k) 8) k = 2) : fromM zs va k n = (1, (k : Int), rdV zs (64 * n + 8 * idxM va k) 8, [((k : Int), 64 * n + 8 * idxM va k, rdV zs (64 * n + 8 * idxM va k) 8)]) := by
  unfold fromM
  rw [if_neg (by rw [h]; simp), if_neg (by rw [hk]; decide), if_pos hk]
theorem fromM_next (zs : List Int) (va : Int) (k : Nat) (n : Int) (h : goodB zs.length (64 * n + 8 * idxM va ((k + 1 : Nat) : Int)) 8 = true) (hk : kindM (rdV zs (64 * n + 8 * idxM va ((k + 1 : Nat) : Int)) 8) ((k + 1 : Nat) : Int) = 1) :
    fromM zs va (k + 1) n = preM [(((k + 1 : Nat) : Int), 64 * n + 8 * idxM va ((k + 1 : Nat) : Int), rdV zs (64 * n + 8 * idxM va ((k + 1 : Nat) : Int)) 8)] (fromM zs va k (ppnM (rdV zs (64 * n + 8 * idxM va ((k + 1 : Nat) : Int)) 8))) := by
  rw [fromM, if_neg (by rw [h]; simp), if_neg (by rw [hk]; decide), if_neg (by rw [hk]; decide)]
  rfl

theorem preM_pre (a b : List RecM) (r : Int × Int × Int × List RecM) : preM a (preM b r) = preM (a ++ b) r := by
  simp [preM]

/-- What walkFrom answers, in memory. -/
def FromAt (base : Nat) (w' : World) (e : Ending) (r : Int × Int × Int × List RecM) : Prop :=
  ∃ ra rc, e = .returned (.tuple #[.agg #[.int .i64 r.2.1, .int .u64 r.2.2.1, .slice ra r.2.2.2.length rc], faultV r.1]) ∧ w'.ownsRow base 98 3 (.slice ra r.2.2.2.length rc) r.2.2.2.length (recsC r.2.2.2)

/-- The number in the first cell of a block. -/
def numAt (w : World) (p : Nat) : Nat := match w.cell? ⟨p, 0, none⟩ with
  | some v => (intOf v).toNat
  | none => 0

theorem method_entryAt (a : Option Addr) (len cap : Nat) (w : World) : (method 460 121 (.slice a len cap) "loop.example/s0051/impl.entryAt").run Tryz.prog w = .ok (238, .slice a len cap) w := by kernel_rfl

/-- A source of entries: an interface value whose entryAt reads the bytes zs, as long as nothing that is there now changes. -/
def SrcAt (w : World) (sv : Value) (zs : List Int) : Prop :=
  ∃ d x a len cap, sv = .iface d x ∧ (∀ u, Below w.heap.size w u → (method 460 d x "loop.example/s0051/impl.entryAt").run Tryz.prog u = .ok (238, .slice a len cap) u) ∧ Byt w a len zs ∧ len ≤ 1048576

theorem SrcAt.keep {w w' : World} {sv : Value} {zs : List Int} (h : SrcAt w sv zs) (hb : Below w.heap.size w w') : SrcAt w' sv zs := by
  obtain ⟨d, x, a, len, cap, rfl, hm, hB, hl⟩ := h
  exact ⟨d, x, a, len, cap, rfl, fun u hu => hm u (Below.step hb hu (Nat.le_refl _)), hB.keep hb, hl⟩

theorem SrcAt.bd {w : World} {sv : Value} {zs : List Int} (h : SrcAt w sv zs) : ∀ i : Nat, 0 ≤ zs[i]?.getD 0 ∧ zs[i]?.getD 0 ≤ 255 := by
  obtain ⟨d, x, a, len, cap, rfl, hm, hB, hl⟩ := h
  exact hB.2.1

theorem src_mem {w : World} {a : Option Addr} {len : Nat} {zs : List Int} (cap : Nat) (hB : Byt w a len zs) (hlen : len ≤ 1048576) : SrcAt w (.iface 121 (.slice a len cap)) zs :=
  ⟨_, _, a, len, cap, rfl, fun u _ => method_entryAt a len cap u, hB, hlen⟩

theorem recsC_append : ∀ a b : List RecM, recsC (a ++ b) = recsC a ++ recsC b
  | [], b => rfl
  | r :: a, b => by simp [recsC, recsC_append a b]

set_option maxRecDepth 20000 in
set_option maxHeartbeats 1600000 in
theorem walkFrom_any (sv : Value) (zs : List Int) (va n : Int) (l : Nat) (w : World) (hB : SrcAt w sv zs) (hl : l ≤ 2) (hv0 : 0 ≤ va) (hv1 : va ≤ 18446744073709551615) (hn0 : 0 ≤ n) (hn1 : n < 17592186044416) :
    Calls Tryz.prog 191 #[sv, .int .u64 n, .int .i64 l, .int .u64 va] w fun e w' => FromAt w.heap.size w' e (fromM zs va l n) ∧ Below w.heap.size w w' := by
  obtain ⟨dT, xS, a, len, cap, rfl, hm, hB, hlen⟩ := hB
  have hz := hB.1
  have hzb := hB.2.1
  have HB : Hid (Byt w a len zs) := hB
  have HMt : Hid _ := hm
  obtain ⟨X, hX⟩ : ∃ X, fromM zs va l n = X := ⟨_, rfl⟩
  have HX : Hid (X = preM [] (fromM zs va l n)) := by show _ = _; rw [← hX]; rfl
  rw [hX]
  clear hX hB hm
  have s0 : Hid (((w.alloc (Obj.cells #[.int .i64 0, .int .u64 0, .slice none 0 0] 264)).alloc (Obj.cells #[.int .i64 l, .int .u64 0, .slice none 0 0] 264)).heap[w.heap.size + 1]? = some (.cells #[.int .i64 l, .int .u64 0, .slice none 0 0] 264 (0, 0))) := by
    have := heap_alloc_new (w.alloc (Obj.cells #[.int .i64 0, .int .u64 0, .slice none 0 0] 264)) (Obj.cells #[.int .i64 l, .int .u64 0, .slice none 0 0] 264)
    simp only [World.size_alloc] at this
    exact this
  have r0 : Hid (((w.alloc (Obj.cells #[.int .i64 0, .int .u64 0, .slice none 0 0] 264)).alloc (Obj.cells #[.int .i64 l, .int .u64 0, .slice none 0 0] 264)).heap[w.heap.size]? = some (.cells #[.int .i64 0, .int .u64 0, .slice none 0 0] 264 (0, 0))) := by
    show _ = _
    rw [heap_alloc_old _ _ (by simp)]
    exact heap_alloc_new w _
  have b0 : Below w.heap.size w ((w.alloc (Obj.cells #[.int .i64 0, .int .u64 0, .slice none 0 0] 264)).alloc (Obj.cells #[.int .i64 l, .int .u64 0, .slice none 0 0] 264)) := ((Below.refl w.heap.size w).alloc (Nat.le_refl _) _).alloc (by simp) _
  go_enter Tryz.func191, Tryz.ntmps191
  go_wp2_with fail
  go_loopw [1] (fun tt wr => ∃ (k : Nat) (n' : Int) (ra : Option Addr) (rc : Nat) (acc : List RecM), k ≤ l ∧ tt = .int .u64 n' ∧ 0 ≤ n' ∧ n' < 17592186044416 ∧ acc.length + k ≤ 2 ∧ wr.heap[w.heap.size + 1]? = some (.cells #[.int .i64 k, .int .u64 0, .slice ra acc.length rc] 264 (0, 0)) ∧
      wr.heap[w.heap.size]? = some (.cells #[.int .i64 0, .int .u64 0, .slice none 0 0] 264 (0, 0)) ∧ wr.ownsRow (w.heap.size + 2) 98 3 (.slice ra acc.length rc) acc.length (recsC acc) ∧ Hid (X = preM acc (fromM zs va k n')) ∧ Below w.heap.size w wr) (fun _ wr => numAt wr (w.heap.size + 1))
  case atStart => exact ⟨l, n, none, 0, [], Nat.le_refl _, rfl, hn0, hn1, by simpa using hl, s0.out, r0.out, World.ownsRow_nil _ _ _ _, HX, b0⟩
  case round =>
    clear s0 r0 b0 HX hn0 hn1
    obtain ⟨k, n', ra, rc, acc, hk, rfl, hn0, hn1, hac, hS, hR, hO, HX, hb⟩ := hrel
    have HS : Hid (wr.heap[w.heap.size + 1]? = some (.cells #[.int .i64 k, .int .u64 0, .slice ra acc.length rc] 264 (0, 0))) := hS
    have HR : Hid (wr.heap[w.heap.size]? = some (.cells #[.int .i64 0, .int .u64 0, .slice none 0 0] 264 (0, 0))) := hR
    have HO : Hid (wr.ownsRow (w.heap.size + 2) 98 3 (.slice ra acc.length rc) acc.length (recsC acc)) := hO
    have hlt : w.heap.size + 1 < wr.heap.size := (Array.getElem?_eq_some_iff.1 hS).1
    have HM : Hid (numAt wr (w.heap.size + 1) = k) := by
      show _ = _
      rw [numAt, (three_cells hS).1.1]
      rfl
    obtain ⟨⟨c0, c1, c2⟩, e0, e1, e2⟩ := three_cells hS
    clear hS hR hO
    obtain ⟨ix, hix⟩ : ∃ ix, idxM va (k : Int) = ix := ⟨_, rfl⟩
    have hib := idxM_bd va (k : Int)
    rw [hix] at hib
    obtain ⟨rv, hrv⟩ : ∃ rv, rdV zs (64 * n' + 8 * ix) 8 = rv := ⟨_, rfl⟩
    have hrb := rdV_bd zs (64 * n' + 8 * ix) 8 (by omega) hzb
    rw [hrv] at hrb
    have HI : Hid (idxM va (k : Int) = ix) := hix
    have HV : Hid (rdV zs (64 * n' + 8 * ix) 8 = rv) := hrv
    clear hix hrv
    go_wp2_with fail
    refine (entryAddr_at n' k va wr hv0 hv1 (by omega) hn0 hn1).mono ?_
    rintro e w' ⟨rfl, nq, rfl⟩
    rw [HI.out]
    have HS1 : Hid ((wr.drewN nq).heap[w.heap.size + 1]? = some (.cells #[.int .i64 k, .int .u64 0, .slice ra acc.length rc] 264 (0, 0))) := HS
    have HR1 : Hid ((wr.drewN nq).heap[w.heap.size]? = some (.cells #[.int .i64 0, .int .u64 0, .slice none 0 0] 264 (0, 0))) := HR
    have HO1 : Hid ((wr.drewN nq).ownsRow (w.heap.size + 2) 98 3 (.slice ra acc.length rc) acc.length (recsC acc)) := HO
    have hlt1 : w.heap.size + 1 < (wr.drewN nq).heap.size := hlt
    have hb1 : Below w.heap.size w (wr.drewN nq) := below_drewN hb nq
    generalize wr.drewN nq = v1 at HS1 HR1 HO1 hlt1 hb1 ⊢
    clear c0 c1 c2 e0 e1 e2 HS HR HO hlt hb
    obtain ⟨⟨c0, c1, c2⟩, e0, e1, e2⟩ := three_cells HS1.out
    obtain ⟨⟨d0, d1, d2⟩, f0, f1, f2⟩ := three_cells HR1.out
    have hm := HMt.out v1 hb1
    cases hg : goodB len (64 * n' + 8 * ix) 8
    · have HG : Hid (goodB len (64 * n' + 8 * ix) 8 = false) := hg
      clear hg
      go_wp2_with fail
      refine (entryAt_out a len cap (64 * n' + 8 * ix) v1 hlen (by omega) (by omega) HG.out).mono ?_
      rintro e w' ⟨rfl, rfl⟩
      go_wp2_with fail
      have hX : X = (3, (k : Int), 0, acc) := by
        rw [HX.out, fromM_out zs va k n' (by rw [hz, HI.out]; exact HG.out)]; simp [preM]
      refine bodyPost_ret (v := .tuple #[.agg #[.int .i64 k, .int .u64 0, .slice ra acc.length rc], .iface 214 (.agg #[])]) (by simp [results, Tryz.results191, go_sem, d0, d1, d2]) rfl ?_
      rw [hX]
      exact ⟨⟨ra, rc, rfl, own_low (own_gb HO1.out (gb3 _ w.heap.size _ _ _) (by omega)) (by omega)⟩, bel3 hb1 (Nat.le_refl _) _ _ _⟩
    · have HG : Hid (goodB len (64 * n' + 8 * ix) 8 = true) := hg
      clear hg
      go_wp2_with fail
      refine (entryAt_in a len cap zs (64 * n' + 8 * ix) v1 (HB.out.keep hb1) hlen (by omega) (by omega) HG.out).mono ?_
      rintro e w' ⟨rfl, rfl⟩
      rw [HV.out]
      rcases kindM_012 rv (k : Int) with hkd | hkd | hkd
      · have HK : Hid (kindM rv (k : Int) = 0) := hkd
        clear hkd
        go_wp2_with fail
        refine (kind_at rv k _ hrb.1 hrb.2).mono ?_
        rintro e w' ⟨rfl, rfl⟩
        rw [HK.out]
        go_wp2_with fail
        have hX : X = (2, (k : Int), 0, acc) := by
          rw [HX.out, fromM_bad zs va k n' (by rw [hz, HI.out]; exact HG.out) (by rw [HI.out, HV.out]; exact HK.out)]; simp [preM]
        refine bodyPost_ret (v := .tuple #[.agg #[.int .i64 k, .int .u64 0, .slice ra acc.length rc], .iface 203 (.agg #[])]) (by simp [results, Tryz.results191, go_sem, d0, d1, d2]) rfl ?_
        rw [hX]
        exact ⟨⟨ra, rc, rfl, own_low (own_gb HO1.out (gb3 _ w.heap.size _ _ _) (by omega)) (by omega)⟩, bel3 hb1 (Nat.le_refl _) _ _ _⟩
      · have HK : Hid (kindM rv (k : Int) = 1) := hkd
        clear hkd
        go_wp2_with fail
        refine (kind_at rv k _ hrb.1 hrb.2).mono ?_
        rintro e v3 ⟨rfl, rfl⟩
        rw [HK.out]
        have n4 := (Below.refl v3.heap.size v3).alloc (Nat.le_refl _) (Obj.cells #[.int .i64 k, .int .u64 (64 * n' + 8 * ix), .int .u64 rv] 98)
        have HS4 : Hid ((v3.alloc (Obj.cells #[.int .i64 k, .int .u64 (64 * n' + 8 * ix), .int .u64 rv] 98)).heap[w.heap.size + 1]? = some (.cells #[.int .i64 k, .int .u64 0, .slice ra acc.length rc] 264 (0, 0))) := heap_keep HS1.out n4 hlt1
        have HR4 : Hid ((v3.alloc (Obj.cells #[.int .i64 k, .int .u64 (64 * n' + 8 * ix), .int .u64 rv] 98)).heap[w.heap.size]? = some (.cells #[.int .i64 0, .int .u64 0, .slice none 0 0] 264 (0, 0))) := heap_keep HR1.out n4 (by omega)
        have HO4 : Hid ((v3.alloc (Obj.cells #[.int .i64 k, .int .u64 (64 * n' + 8 * ix), .int .u64 rv] 98)).ownsRow (w.heap.size + 2) 98 3 (.slice ra acc.length rc) acc.length (recsC acc)) := own_below HO1.out n4
        have HW4 : Hid (RowC (v3.alloc (Obj.cells #[.int .i64 k, .int .u64 (64 * n' + 8 * ix), .int .u64 rv] 98)) (some ⟨v3.heap.size, 0, none⟩) 1 3 (recsC [((k : Int), 64 * n' + 8 * ix, rv)])) := (OwnC.new 98 3 v3 (recsC [((k : Int), 64 * n' + 8 * ix, rv)]) 1 (by rfl) (by decide)).row
        have l4 : v3.heap.size < (v3.alloc (Obj.cells #[.int .i64 k, .int .u64 (64 * n' + 8 * ix), .int .u64 rv] 98)).heap.size := by simp
        have b4 : Below w.heap.size w (v3.alloc (Obj.cells #[.int .i64 k, .int .u64 (64 * n' + 8 * ix), .int .u64 rv] 98)) := hb1.alloc (by omega) _
        go_wp2_with (at_builtin; refine append_v _ rfl (.tmp 43) (.tmp 49) 91 rfl 98 Tryz.underlying91 (.agg #[.int .i64 0, .int .u64 0, .int .u64 0]) 3 24 Tryz.infoRec rfl (by decide) (w.heap.size + 2) acc.length _ (recsC acc) rfl HO4.out v3.heap.size 0 1 1 (recsC [((k : Int), 64 * n' + 8 * ix, rv)]) rfl (by omega) HW4.out (recsC_one _) (by omega) (by omega) (by omega) (w.heap.size + 2) _ (Below.refl _ _) (Nat.le_refl _) ?_; intro g5 cp5 v5 o5 n5; have HO5 : Hid (v5.ownsRow (w.heap.size + 2) 98 3 (.slice (some ⟨g5, 0, none⟩) (acc.length + 1) cp5) (acc.length + 1) (recsC acc ++ recsC [((k : Int), 64 * n' + 8 * ix, rv)])) := o5; have HS5 : Hid (v5.heap[w.heap.size + 1]? = some (.cells #[.int .i64 k, .int .u64 0, .slice ra acc.length rc] 264 (0, 0))) := (n5.block _ (by omega)).trans HS4.out; have HR5 : Hid (v5.heap[w.heap.size]? = some (.cells #[.int .i64 0, .int .u64 0, .slice none 0 0] 264 (0, 0))) := (n5.block _ (by omega)).trans HR4.out; have b5 : Below w.heap.size w v5 := b4.trans (n5.mono (by omega)); have l5 := n5.size; clear c0 c1 c2 e0 e1 e2 d0 d1 d2 f0 f1 f2 o5; obtain ⟨⟨c0, c1, c2⟩, e0, e1, e2⟩ := three_cells HS5.out; obtain ⟨⟨d0, d1, d2⟩, f0, f1, f2⟩ := three_cells HR5.out; clear n5 n4 HS4 HR4 HO4 HW4 b4 HS1 HR1 HO1)
        have HS6 : Hid ((v5.setCell ⟨w.heap.size + 1, 2, none⟩ (.slice (some ⟨g5, 0, none⟩) (acc.length + 1) cp5)).heap[w.heap.size + 1]? = some (.cells #[.int .i64 k, .int .u64 0, .slice (some ⟨g5, 0, none⟩) (acc.length + 1) cp5] 264 (0, 0))) := tset2 HS5.out
        have m6 := gb_set (gb_refl v5 (some (w.heap.size + 1))) 2 (.slice (some ⟨g5, 0, none⟩) (acc.length + 1) cp5)
        have HR6 : Hid ((v5.setCell ⟨w.heap.size + 1, 2, none⟩ (.slice (some ⟨g5, 0, none⟩) (acc.length + 1) cp5)).heap[w.heap.size]? = some (.cells #[.int .i64 0, .int .u64 0, .slice none 0 0] 264 (0, 0))) := heap_gb HR5.out m6 (by omega)
        have HO6 : Hid ((v5.setCell ⟨w.heap.size + 1, 2, none⟩ (.slice (some ⟨g5, 0, none⟩) (acc.length + 1) cp5)).ownsRow (w.heap.size + 2) 98 3 (.slice (some ⟨g5, 0, none⟩) (acc.length + 1) cp5) (acc.length + 1) (recsC acc ++ recsC [((k : Int), 64 * n' + 8 * ix, rv)])) := own_gb HO5.out m6 (by omega)
        have b6 := b5.setCell (p := ⟨w.heap.size + 1, 2, none⟩) (by show w.heap.size ≤ w.heap.size + 1; omega) (.slice (some ⟨g5, 0, none⟩) (acc.length + 1) cp5)
        refine (ppn_at rv _ hrb.1 hrb.2).mono ?_
        rintro e w' ⟨rfl, rfl⟩
        generalize v5.setCell ⟨w.heap.size + 1, 2, none⟩ (.slice (some ⟨g5, 0, none⟩) (acc.length + 1) cp5) = v6 at HS6 HR6 HO6 b6 ⊢
        clear c0 c1 c2 e0 e1 e2 d0 d1 d2 f0 f1 f2 m6 HS5 HR5 HO5 b5
        obtain ⟨⟨c0, c1, c2⟩, e0, e1, e2⟩ := three_cells HS6.out
        have hpb := ppnM_bd rv
        obtain ⟨pp, hpp⟩ : ∃ pp, ppnM rv = pp := ⟨_, rfl⟩
        have HP : Hid (ppnM rv = pp) := hpp
        rw [hpp] at hpb ⊢
        clear hpp
        obtain ⟨k', rfl⟩ : ∃ k', k = k' + 1 := by
          cases k with
          | zero => exact absurd HK.out (kindM_zero _)
          | succ k' => exact ⟨k', rfl⟩
        go_wp2_with fail
        go_roundw
        case rel =>
          refine ⟨k', pp, some ⟨g5, 0, none⟩, cp5, acc ++ [(((k' + 1 : Nat) : Int), 64 * n' + 8 * ix, rv)], by omega, rfl, hpb.1, hpb.2, by simp; omega, ?_, ?_, ?_, ?_, ?_⟩
          · rw [show (acc ++ [(((k' + 1 : Nat) : Int), 64 * n' + 8 * ix, rv)]).length = acc.length + 1 by simp, show ((k' : Nat) : Int) = ((k' + 1 : Nat) : Int) - 1 by omega]
            exact tset0 HS6.out
          · exact heap_gb HR6.out (gb_set (gb_refl v6 (some (w.heap.size + 1))) 0 _) (by omega)
          · rw [show (acc ++ [(((k' + 1 : Nat) : Int), 64 * n' + 8 * ix, rv)]).length = acc.length + 1 by simp, recsC_append]
            exact own_gb HO6.out (gb_set (gb_refl v6 (some (w.heap.size + 1))) 0 _) (by omega)
          · show _ = _
            rw [HX.out, fromM_next zs va k' n' (by rw [hz, HI.out]; exact HG.out) (by rw [HI.out, HV.out]; exact HK.out), preM_pre, HI.out, HV.out, HP.out]
          · exact b6.setCell (p := ⟨w.heap.size + 1, 0, none⟩) (by show w.heap.size ≤ w.heap.size + 1; omega) _
        case measure =>
          rw [HM.out, numAt, (three_cells (tset0 HS6.out)).1.1]
          simp [intOf]
      · have HK : Hid (kindM rv (k : Int) = 2) := hkd
        clear hkd
        go_wp2_with fail
        refine (kind_at rv k _ hrb.1 hrb.2).mono ?_
        rintro e v3 ⟨rfl, rfl⟩
        rw [HK.out]
        have n4 := (Below.refl v3.heap.size v3).alloc (Nat.le_refl _) (Obj.cells #[.int .i64 k, .int .u64 (64 * n' + 8 * ix), .int .u64 rv] 98)
        have HS4 : Hid ((v3.alloc (Obj.cells #[.int .i64 k, .int .u64 (64 * n' + 8 * ix), .int .u64 rv] 98)).heap[w.heap.size + 1]? = some (.cells #[.int .i64 k, .int .u64 0, .slice ra acc.length rc] 264 (0, 0))) := heap_keep HS1.out n4 hlt1
        have HR4 : Hid ((v3.alloc (Obj.cells #[.int .i64 k, .int .u64 (64 * n' + 8 * ix), .int .u64 rv] 98)).heap[w.heap.size]? = some (.cells #[.int .i64 0, .int .u64 0, .slice none 0 0] 264 (0, 0))) := heap_keep HR1.out n4 (by omega)
        have HO4 : Hid ((v3.alloc (Obj.cells #[.int .i64 k, .int .u64 (64 * n' + 8 * ix), .int .u64 rv] 98)).ownsRow (w.heap.size + 2) 98 3 (.slice ra acc.length rc) acc.length (recsC acc)) := own_below HO1.out n4
        have HW4 : Hid (RowC (v3.alloc (Obj.cells #[.int .i64 k, .int .u64 (64 * n' + 8 * ix), .int .u64 rv] 98)) (some ⟨v3.heap.size, 0, none⟩) 1 3 (recsC [((k : Int), 64 * n' + 8 * ix, rv)])) := (OwnC.new 98 3 v3 (recsC [((k : Int), 64 * n' + 8 * ix, rv)]) 1 (by rfl) (by decide)).row
        have l4 : v3.heap.size < (v3.alloc (Obj.cells #[.int .i64 k, .int .u64 (64 * n' + 8 * ix), .int .u64 rv] 98)).heap.size := by simp
        have b4 : Below w.heap.size w (v3.alloc (Obj.cells #[.int .i64 k, .int .u64 (64 * n' + 8 * ix), .int .u64 rv] 98)) := hb1.alloc (by omega) _
        go_wp2_with (at_builtin; refine append_v _ rfl (.tmp 43) (.tmp 49) 91 rfl 98 Tryz.underlying91 (.agg #[.int .i64 0, .int .u64 0, .int .u64 0]) 3 24 Tryz.infoRec rfl (by decide) (w.heap.size + 2) acc.length _ (recsC acc) rfl HO4.out v3.heap.size 0 1 1 (recsC [((k : Int), 64 * n' + 8 * ix, rv)]) rfl (by omega) HW4.out (recsC_one _) (by omega) (by omega) (by omega) (w.heap.size + 2) _ (Below.refl _ _) (Nat.le_refl _) ?_; intro g5 cp5 v5 o5 n5; have HO5 : Hid (v5.ownsRow (w.heap.size + 2) 98 3 (.slice (some ⟨g5, 0, none⟩) (acc.length + 1) cp5) (acc.length + 1) (recsC acc ++ recsC [((k : Int), 64 * n' + 8 * ix, rv)])) := o5; have HS5 : Hid (v5.heap[w.heap.size + 1]? = some (.cells #[.int .i64 k, .int .u64 0, .slice ra acc.length rc] 264 (0, 0))) := (n5.block _ (by omega)).trans HS4.out; have HR5 : Hid (v5.heap[w.heap.size]? = some (.cells #[.int .i64 0, .int .u64 0, .slice none 0 0] 264 (0, 0))) := (n5.block _ (by omega)).trans HR4.out; have b5 : Below w.heap.size w v5 := b4.trans (n5.mono (by omega)); have l5 := n5.size; clear c0 c1 c2 e0 e1 e2 d0 d1 d2 f0 f1 f2 o5; obtain ⟨⟨c0, c1, c2⟩, e0, e1, e2⟩ := three_cells HS5.out; obtain ⟨⟨d0, d1, d2⟩, f0, f1, f2⟩ := three_cells HR5.out; clear n5 n4 HS4 HR4 HO4 HW4 b4 HS1 HR1 HO1)
        have hX : X = (1, (k : Int), rv, acc ++ [((k : Int), 64 * n' + 8 * ix, rv)]) := by
          rw [HX.out, fromM_leaf zs va k n' (by rw [hz, HI.out]; exact HG.out) (by rw [HI.out, HV.out]; exact HK.out), HI.out, HV.out]
          rfl
        refine bodyPost_ret (v := .tuple #[.agg #[.int .i64 k, .int .u64 rv, .slice (some ⟨g5, 0, none⟩) (acc.length + 1) cp5], .nilIface]) (by simp [results, Tryz.results191, go_sem, d0, d1, d2]) rfl ?_
        rw [hX]
        refine ⟨⟨some ⟨g5, 0, none⟩, cp5, ?_, ?_⟩, bel3 ((b5.setCell (p := ⟨w.heap.size + 1, 2, none⟩) (by show w.heap.size ≤ w.heap.size + 1; omega) _).setCell (p := ⟨w.heap.size + 1, 1, none⟩) (by show w.heap.size ≤ w.heap.size + 1; omega) _) (Nat.le_refl _) _ _ _⟩
        · simp [faultV]
        · rw [show (acc ++ [((k : Int), 64 * n' + 8 * ix, rv)]).length = acc.length + 1 by simp, recsC_append]
          exact own_low (own_gb (own_gb HO5.out (gb_set (gb_set (gb_refl v5 (some (w.heap.size + 1))) 2 _) 1 _) (by omega)) (gb3 _ w.heap.size _ _ _) (by omega)) (by omega)

end Go.Proofs.YthekickjjaleaacGreat

/- Plain mathematics of chapter 4: where the entry that is found stands. -/
namespace Go.Proofs.YthekickjjaleaacGreat
set_option linter.unusedVariables false

theorem tagM_lim (va l : Int) (hl : l = 0 ∨ l = 1 ∨ l = 2) : 0 ≤ tagM va l ∧ tagM va l ≤ 511 := by
  rcases hl with rfl | rfl | rfl <;> simp only [tagM] <;> (try simp) <;> omega

/-- An entry that fits at a level stands in the set of the address's tag. -/
theorem hit_set {t : TlbM} {p : Bool} {va asid l : Int} {q : Nat} {x : EntM} (hv : validM t p = true) (hx : t.es[q]? = some x) (hh : hitB va asid l x = true) : (q : Int) / t.ways = tagM va l % t.sets := by
  have hp := place_of hv q x hx
  simp only [hitB, fitsM, Bool.and_eq_true, beq_iff_eq] at hh
  obtain ⟨h1, ⟨h2, h3⟩, _⟩ := hh
  simp only [placeM, Bool.or_eq_true, Bool.and_eq_true, beq_iff_eq] at hp
  rcases hp with hp | hp
  · rw [h2] at hp; simp at hp
  · rw [← hp.2, h3, h1]

theorem shape_at {t : TlbM} {p : Bool} (hv : validM t p = true) : (t.sets = 1 ∨ t.sets = 2 ∨ t.sets = 4 ∨ t.sets = 8) ∧ 1 ≤ t.ways ∧ t.ways ≤ 4 ∧ (t.es.length : Int) = t.sets * t.ways := shape_of hv

/-- Outside of the set nothing is found. -/
theorem hit_out {t : TlbM} {p : Bool} {va asid l : Int} {q f : Nat} {x : EntM} (hv : validM t p = true) (hx : t.es[q]? = some x) (hf : (f : Int) = tagM va l % t.sets * t.ways) (hq : q < f ∨ (f : Int) + t.ways ≤ q) : hitB va asid l x = false := by
  cases hh : hitB va asid l x
  · rfl
  · exfalso
    have h1 := hit_set hv hx hh
    obtain ⟨_, w1, w4, _⟩ := shape_at hv
    rw [← h1] at hf
    rcases (show t.ways = 1 ∨ t.ways = 2 ∨ t.ways = 3 ∨ t.ways = 4 by omega) with hw | hw | hw | hw <;> rw [hw] at hf hq <;> omega

/-- The end of the search in one set. -/
theorem find_none {t : TlbM} {p : Bool} {va asid l : Int} {f : Nat} (hv : validM t p = true) (hf : (f : Int) = tagM va l % t.sets * t.ways)
    (h : ∀ (j : Nat) x, (j : Int) < t.ways → t.es[f + j]? = some x → hitB va asid l x = false) : findL va asid l 0 t.es = none := by
  refine findL_none va asid l t.es 0 (fun j x hx => ?_)
  by_cases h1 : j < f
  · exact hit_out hv hx hf (.inl h1)
  · by_cases h2 : (f : Int) + t.ways ≤ j
    · exact hit_out hv hx hf (.inr h2)
    · exact h (j - f) x (by omega) (by rw [show f + (j - f) = j by omega]; exact hx)

theorem find_some {t : TlbM} {p : Bool} {va asid l : Int} {f k : Nat} {x : EntM} (hv : validM t p = true) (hf : (f : Int) = tagM va l % t.sets * t.ways) (hx : t.es[f + k]? = some x) (hh : hitB va asid l x = true)
    (h : ∀ (j : Nat) y, j < k → t.es[f + j]? = some y → hitB va asid l y = false) : findL va asid l 0 t.es = some (f + k, x) := by
  have := findL_some va asid l t.es 0 (f + k) x hx hh (fun j y hj hy => by
    by_cases h1 : j < f
    · exact hit_out hv hy hf (.inl h1)
    · exact h (j - f) y (by omega) (by rw [show f + (j - f) = j by omega]; exact hy))
  rw [Nat.zero_add] at this
  exact this

theorem findL_get (va asid l : Int) : ∀ (es : List EntM) (i k : Nat) (x : EntM), findL va asid l i es = some (k, x) → ∃ j, k = i + j ∧ es[j]? = some x ∧ hitB va asid l x = true
  | [], i, k, x, h => by cases h
  | e :: r, i, k, x, h => by
    rw [findL] at h
    split at h
    · rename_i hh
      cases h
      exact ⟨0, rfl, rfl, hh⟩
    · obtain ⟨j, rfl, h2, h3⟩ := findL_get va asid l r (i + 1) k x h
      exact ⟨j + 1, by omega, by simpa using h2, h3⟩

/-- What is found is an entry of the cache. -/
theorem hit_get (t : TlbM) (va asid : Int) (h : (hitM t va asid).1 = true) : ∃ (k : Nat) (x : EntM), t.es[k]? = some x ∧ (hitM t va asid).2.1 = (k : Int) ∧ (hitM t va asid).2.2.1 = x.level ∧ (hitM t va asid).2.2.2 = x.pte ∧ fitsM x va asid = true ∧ x.valid = true := by
  have key : ∀ (l : Int) (k : Nat) (x : EntM), findL va asid l 0 t.es = some (k, x) → t.es[k]? = some x ∧ l = x.level ∧ fitsM x va asid = true ∧ x.valid = true := by
    intro l k x hf
    obtain ⟨j, rfl, h2, h3⟩ := findL_get va asid l t.es 0 k x hf
    simp only [hitB, Bool.and_eq_true, beq_iff_eq] at h3
    have hv : x.valid = true := by
      have := h3.2
      simp only [fitsM, Bool.and_eq_true] at this
      exact this.1.1
    exact ⟨by rw [Nat.zero_add]; exact h2, h3.1.symm, h3.2, hv⟩
  unfold hitM at h ⊢
  split at h
  · cases h
  · rename_i he
    rw [if_neg he]
    cases h0 : findL va asid 0 0 t.es with
    | some y =>
      obtain ⟨k, x⟩ := y
      obtain ⟨a1, a2, a3, a4⟩ := key 0 k x h0
      exact ⟨k, x, a1, by simp [hitOf], by simp [hitOf, ← a2], by simp [hitOf], a3, a4⟩
    | none =>
      cases h1 : findL va asid 1 0 t.es with
      | some y =>
        obtain ⟨k, x⟩ := y
        obtain ⟨a1, a2, a3, a4⟩ := key 1 k x h1
        exact ⟨k, x, a1, by simp [hitOf], by simp [hitOf, ← a2], by simp [hitOf], a3, a4⟩
      | none =>
        cases h2 : findL va asid 2 0 t.es with
        | some y =>
          obtain ⟨k, x⟩ := y
          obtain ⟨a1, a2, a3, a4⟩ := key 2 k x h2
          exact ⟨k, x, a1, by simp [hitOf], by simp [hitOf, ← a2], by simp [hitOf], a3, a4⟩
        | none =>
          rw [h0, h1, h2] at h
          simp [hitOf] at h

theorem hit_zero {t : TlbM} {va asid i l pt : Int} (h : hitM t va asid = (false, i, l, pt)) : (i, l, pt) = (0, 0, 0) := by
  unfold hitM at h
  split at h
  · cases h; rfl
  · cases h0 : findL va asid 0 0 t.es with
    | some y => simp [h0, hitOf] at h
    | none =>
      cases h1 : findL va asid 1 0 t.es with
      | some y => simp [h0, h1, hitOf] at h
      | none =>
        cases h2 : findL va asid 2 0 t.es with
        | some y => simp [h0, h1, h2, hitOf] at h
        | none =>
          simp [h0, h1, h2, hitOf] at h
          obtain ⟨rfl, rfl, rfl⟩ := h
          rfl

end Go.Proofs.YthekickjjaleaacGreat
