import Derived.OrdersHeld
import Derived.Test.YthekickjjaleaacPack10
import Derived.Test.YthekickjjaleaacPack06
import Derived.Test.YthekickjjaleaacPack09
import Derived.Test.YthekickjjaleaacPack03
import Derived.Test.YthekickjjaleaacPack04
import Derived.Test.YthekickjjaleaacPack02
import Derived.Test.YthekickjjaleaacPack05
import Derived.Test.YthekickjjaleaacPack08
/- A region that draws its order: what loads read must lie as it was only until operation c comes up. No program is named here. -/
namespace Go.Proofs.Ythekickjjaleaac
open Go.RowKit
set_option linter.unusedVariables false

section
variable {P : Program} {ops : Array Oper} {Q : Exit → Act → World → Prop} {F : World → Prop} {c : Nat}

/-- Whatever order is picked; F holds behind every operation as long as c has not come up. -/
def wpAnyU (P : Program) (ops : Array Oper) (Q : Exit → Act → World → Prop) (F : World → Prop) (c : Nat) : Nat → Array Bool → Act → World → Prop
  | 0, listed, a, w => Region.ready .any ops listed = [] ∧ Q .normal a w
  | fuel + 1, listed, a, w =>
    (Region.ready .any ops listed = [] → Q .normal a w) ∧
    ∀ i ∈ Region.ready .any ops listed, wpOp P ops Q i (fun a' w' => ((listed.setIfInBounds i true).getD c false = false → F w') ∧ wpAnyU P ops Q F c fuel (listed.setIfInBounds i true) a' w') a w

theorem wpAny_of_U : ∀ (fuel : Nat) (listed : Array Bool) (a : Act) (w : World), wpAnyU P ops Q F c fuel listed a w → wpAny P .any ops Q fuel listed a w
  | 0, _, _, _, h => h
  | fuel + 1, _, _, _, h => ⟨h.1, fun i hi => wpOp_mono (fun a' w' h' => wpAny_of_U fuel _ a' w' h'.2) (h.2 i hi)⟩

theorem anyU_first {i : Nat} {oi : Oper} {v : Value} (hi : ops[i]? = some oi) (hic : i ≠ c) (hsel : ∀ (j : Nat) (o : Oper) cs b, ops[j]? = some o → o.op ≠ .select cs b)
    (hQ : ∀ x a w, Q (.panic x) (a.put oi.dst v) w → Q (.panic x) a w) :
    ∀ (fuel : Nat) (listed : Array Bool) (a : Act) (w : World), Closed ops listed →
      (∀ j oj, ops[j]? = some oj → j ≠ i → listed.getD j true = false → (∀ e ∈ oj.after, Region.binds .any e = true → e.on ≠ i) → oi.apart ops oj = true) →
      i ∈ Region.ready .any ops listed → YieldsIf P ops (fun w => ∃ l, Closed ops l ∧ l.getD i true = false ∧ (l.getD c false = false → F w)) oi v a → (listed.getD c false = false → F w) →
      wpAnyU P ops Q F c fuel (listed.setIfInBounds i true) (a.put oi.dst v) w → wpAnyU P ops Q F c (fuel + 1) listed a w := by
  intro fuel
  induction fuel with
  | zero =>
    intro listed a w hc _ hr hy hS H
    refine ⟨fun h => (by rw [h] at hr; cases hr), fun j hj => ?_⟩
    by_cases hji : j = i
    · subst hji
      exact hy.wpOp hi ⟨listed, hc, (mem_ready.1 hr).1, hS⟩ ⟨fun h => hS (by rwa [getD_set_ne false hic] at h), H⟩
    · have := ready_mono hj hji
      rw [H.1] at this
      cases this
  | succ fuel ih =>
    intro listed a w hc hfree hr hy hS H
    refine ⟨fun h => (by rw [h] at hr; cases hr), fun j hj => ?_⟩
    by_cases hji : j = i
    · subst hji
      exact hy.wpOp hi ⟨listed, hc, (mem_ready.1 hr).1, hS⟩ ⟨fun h => hS (by rwa [getD_set_ne false hic] at h), H⟩
    · have h1 := H.2 j (ready_mono hj hji)
      obtain ⟨hjun, oj, hoj, hall⟩ := mem_ready.1 hj
      have hnot : ∀ e ∈ oj.after, Region.binds .any e = true → e.on ≠ i := fun e he hb heq => by
        have h1 := hall e he hb
        have h0 := (mem_ready.1 hr).1
        rw [heq] at h1
        rcases Nat.lt_or_ge i listed.size with h' | h'
        · simp [h'] at h0 h1; rw [h0] at h1; cases h1
        · simp [Array.getElem?_eq_none h'] at h1
      have h2 := wpOp_putIf hoj (hfree j oj hoj hji hjun hnot) (fun cs b => hsel i oi cs b hi) (fun cs b => hsel j oj cs b hoj) hQ hy h1
      have hfree' : ∀ k ok, ops[k]? = some ok → k ≠ i → (listed.setIfInBounds j true).getD k true = false →
          (∀ e ∈ ok.after, Region.binds .any e = true → e.on ≠ i) → oi.apart ops ok = true := fun k ok hk hki hun hno => by
        refine hfree k ok hk hki ?_ hno
        by_cases hjk : j = k
        · subst hjk; exact hjun
        · rw [getD_set_ne true hjk] at hun; exact hun
      have hcm : (listed.setIfInBounds i true).setIfInBounds j true = (listed.setIfInBounds j true).setIfInBounds i true := Array.setIfInBounds_comm _ _ (Ne.symm hji)
      refine wpOp_mono (fun a' w' h3 => ?_) h2
      have hF : (listed.setIfInBounds j true).getD c false = false → F w' := fun h => h3.2.1 (by rw [hcm, getD_set_ne false hic]; exact h)
      refine ⟨hF, ih (listed.setIfInBounds j true) a' w' (hc.set hj) hfree' (ready_mono hr (Ne.symm hji)) h3.1 hF ?_⟩
      rw [← hcm]
      exact h3.2.2

/-- What has come up is closed, as a test. -/
def closedB (ops : Array Oper) (listed : Array Bool) : Bool :=
  (List.range ops.size).all fun j => !listed.getD j false || match ops[j]? with
    | none => true
    | some o => o.after.all fun e => !Region.binds .any e || listed.getD e.on false

theorem closedB_spec {listed : Array Bool} (h : closedB ops listed = true) : Closed ops listed := by
  intro j oj hj hl e he hb
  have h1 := List.all_eq_true.1 h j (List.mem_range.2 (Array.getElem?_eq_some_iff.1 hj).1)
  simp only [hj, hl, Bool.not_true, Bool.false_or] at h1
  have h2 := Array.all_eq_true_iff_forall_mem.1 h1 e he
  simpa [hb] using h2

/-- c waits for i, over others. -/
def reachB (ops : Array Oper) : Nat → Nat → Nat → Bool
  | 0, c, i => c == i
  | f + 1, c, i => c == i || (List.range ops.size).any fun j => Region.waitsFor .any ops c j && reachB ops f j i

theorem reachB_spec {listed : Array Bool} (hc : Closed ops listed) {i : Nat} : ∀ (f c : Nat), reachB ops f c i = true → listed.getD c false = true → listed.getD i false = true
  | 0, c, h, hl => by
    have : c = i := by simpa [reachB] using h
    subst this
    exact hl
  | f + 1, c, h, hl => by
    simp only [reachB, Bool.or_eq_true, beq_iff_eq, List.any_eq_true, Bool.and_eq_true] at h
    rcases h with rfl | ⟨j, _, hw, hr⟩
    · exact hl
    · exact reachB_spec hc f j hr (waits_closed hc hl hw)

/-- An operation that reads what lies as it was until c: taken first. -/
theorem anyU_take (i : Nat) {oi : Oper} (d : Tmp) (v : Value) {fuel : Nat} {listed : Array Bool} {a : Act} {w : World} (hi : ops[i]? = some oi) (hs : Region.noSelect ops = true) (hcl : closedB ops listed = true) (hf : Region.free .any ops listed i = true) (hr : (Region.ready .any ops listed).contains i = true) (hic : (i != c) = true) (hrc : reachB ops ops.size c i = true)
    (hQ : ∀ x a w, Q (.panic x) (a.put oi.dst v) w → Q (.panic x) a w) (hw : Region.wanted oi (yielded ops a.tmps) = true) (hy : ∀ u, F u → (execOp a.eval oi).run P u = .ok (.value v) u) (hS : F w)
    (hd : oi.dst = some d) (h : wpAnyU P ops Q F c fuel (listed.setIfInBounds i true) (a.put (some d) v) w) : wpAnyU P ops Q F c (fuel + 1) listed a w :=
  anyU_first hi (by simpa using hic) (Region.noSelect_spec hs) hQ fuel listed a w (closedB_spec hcl) (Region.free_spec hi hf) (by simpa using hr)
    (.inl ⟨hw, fun u ⟨l, h1, h2, h3⟩ => hy u (h3 (by
      cases hh : l.getD c false
      · rfl
      · have := reachB_spec h1 _ _ hrc hh
        rw [getD_tf h2] at this
        cases this))⟩) (fun _ => hS) (by rw [hd]; exact h)

/-- An operation that looks at no memory: taken first. -/
theorem anyU_free (i : Nat) {oi : Oper} (d : Tmp) (v : Value) {fuel : Nat} {listed : Array Bool} {a : Act} {w : World} (hi : ops[i]? = some oi) (hs : Region.noSelect ops = true) (hcl : closedB ops listed = true) (hf : Region.free .any ops listed i = true) (hr : (Region.ready .any ops listed).contains i = true) (hic : (i != c) = true)
    (hQ : ∀ x a w, Q (.panic x) (a.put oi.dst v) w → Q (.panic x) a w) (hw : Region.wanted oi (yielded ops a.tmps) = true) (hy : ∀ u, (execOp a.eval oi).run P u = .ok (.value v) u) (hS : listed.getD c false = true ∨ F w)
    (hd : oi.dst = some d) (h : wpAnyU P ops Q F c fuel (listed.setIfInBounds i true) (a.put (some d) v) w) : wpAnyU P ops Q F c (fuel + 1) listed a w :=
  anyU_first hi (by simpa using hic) (Region.noSelect_spec hs) hQ fuel listed a w (closedB_spec hcl) (Region.free_spec hi hf) (by simpa using hr) (.inl ⟨hw, fun u _ => hy u⟩) (fun h0 => hS.resolve_left (by rw [h0]; simp)) (by rw [hd]; exact h)

theorem anyU_one {fuel : Nat} {listed : Array Bool} {a : Act} {w : World} (i : Nat) (hr : Region.ready .any ops listed = [i])
    (h : wpOp P ops Q i (fun a' w' => ((listed.setIfInBounds i true).getD c false = false → F w') ∧ wpAnyU P ops Q F c fuel (listed.setIfInBounds i true) a' w') a w) : wpAnyU P ops Q F c (fuel + 1) listed a w :=
  ⟨fun h0 => (by rw [hr] at h0; cases h0), fun j hj => by
    rw [hr] at hj
    have : j = i := by simpa using hj
    subst this
    exact h⟩

/-- A store as the only operation that may come up. -/
theorem anyU_store {fuel : Nat} {listed : Array Bool} {a : Act} {w w' : World} (i : Nat) {o : Oper} {T : TypeId} {x y : Operand} (hi : ops[i]? = some o) (hop : o.op = .store T x y) (hg : o.guard = none) (hd : o.dst = none) (hr : Region.ready .any ops listed = [i])
    {b off : Nat} {V : Value} (hx : a.eval x = .pointer (some ⟨b, off, none⟩)) (hy : a.eval y = V) (hl : (Instr.storeAt T (.pointer (some ⟨b, off, none⟩)) V).run P w = .ok () w') (hS : (listed.setIfInBounds i true).getD c false = true ∨ F w') (h : wpAnyU P ops Q F c fuel (listed.setIfInBounds i true) a w') : wpAnyU P ops Q F c (fuel + 1) listed a w := by
  refine anyU_one i hr ?_
  unfold wpOp
  simp only [hi]
  rw [if_pos (by simp [Region.wanted, hg])]
  refine .inl ?_
  unfold Oper.wp execOp
  simp only [hop, hx, hy, Sem.run_bind, hl, Result.andThen_ok, Sem.run_pure]
  refine ⟨fun h0 => hS.resolve_left (by rw [h0]; simp), ?_⟩
  rw [hd]
  exact h

/-- A call as the only operation that may come up. -/
theorem anyU_call {fuel : Nat} {listed : Array Bool} {a : Act} {w : World} (i : Nat) {o : Oper} (d : Tmp) (hd : o.dst = some d) (hi : ops[i]? = some o) (hg : o.guard = none) (hr : Region.ready .any ops listed = [i]) {f : FuncId} {args : Array Value} (he : (execOp a.eval o).run P w = .ok (.enter f args) w)
    (h : Calls P f args w fun e w' => ∃ x, e = .returned x ∧ ((listed.setIfInBounds i true).getD c false = false → F w') ∧ wpAnyU P ops Q F c fuel (listed.setIfInBounds i true) (a.put (some d) x) w') : wpAnyU P ops Q F c (fuel + 1) listed a w := by
  refine anyU_one i hr ?_
  unfold wpOp
  simp only [hi]
  rw [if_pos (by simp [Region.wanted, hg])]
  refine .inl ?_
  unfold Oper.wp
  rw [he]
  refine h.mono ?_
  rintro e w' ⟨x, rfl, hS, h2⟩
  refine ⟨hS, ?_⟩
  rw [hd]
  exact h2

theorem anyU_done {listed : Array Bool} {a : Act} {w : World} (hr : Region.ready .any ops listed = []) (h : Q .normal a w) : ∀ fuel, wpAnyU P ops Q F c fuel listed a w
  | 0 => ⟨hr, h⟩
  | _ + 1 => ⟨fun _ => h, by rw [hr]; simp⟩

theorem wp_region_until {id : Nat} {a : Act} {w : World} (F : World → Prop) (c : Nat) (hm : P.follows .mixedOrders = true) (h : wpAnyU P ops Q F c ops.size (Array.replicate ops.size false) a w.drew) : (Code.region id ops true).wp P Q a w :=
  wp_region_any hm (wpAny_of_U _ _ _ _ h)

end

end Go.Proofs.Ythekickjjaleaac

/- The specification's chapter 5: l5Parts. Written by mk5f.py. -/
namespace Go.Proofs.Ythekickjjaleaac
open Go.RowKit
set_option linter.unusedVariables false

/-- The parts so far: what is left of the translation. -/
structure PartsAt (plain : Bool) (pick kind : Int) (r0 : RunM) (cut : List PartM) (ri : RunM) (done rest : List PartM) : Prop where
  eq : transPartsM plain pick kind r0 cut = ((transPartsM plain pick kind ri rest).1, done ++ (transPartsM plain pick kind ri rest).2)
  ok : ROk ri
  cause : ri.cause = 0
  parts : partsOk (done ++ rest)
  looks : ri.looks.length + rest.length ≤ 8

theorem PartsAt.step {plain : Bool} {pick kind : Int} {r0 ri : RunM} {cut done rest : List PartM} {q : PartM} (h : PartsAt plain pick kind r0 cut ri done (q :: rest)) (hp : 0 ≤ pick ∧ pick ≤ 255) (hk : 0 ≤ kind ∧ kind ≤ 2) (h0 : (transM plain pick ri.h kind q.1).1.1 = 0) :
    PartsAt plain pick kind r0 cut (lookM plain pick ri kind q.1) (done ++ [(q.1, q.2.1, (transM plain pick ri.h kind q.1).1.2)]) rest := by
  have hq := h.parts q (List.mem_append_right _ (List.mem_cons_self ..))
  refine ⟨?_, look_rok h.ok plain hp hk hq.1, h.cause, ?_, ?_⟩
  · rw [h.eq, transPartsM, if_pos h0]
    simp
  · intro x hx
    rw [List.append_assoc, List.mem_append] at hx
    rcases hx with hx | hx
    · exact h.parts x (List.mem_append_left _ hx)
    · rcases List.mem_cons.1 hx with rfl | hx
      · exact ⟨hq.1, hq.2.1, (trans_hok h.ok.h plain hp hk hq.1).2.2⟩
      · exact h.parts x (List.mem_append_right _ (List.mem_cons_of_mem _ hx))
  · have := h.looks
    simp only [List.length_cons] at this
    show (ri.looks ++ [(kind, q.1)]).length + rest.length ≤ 8
    rw [List.length_append, List.length_singleton]
    omega

end Go.Proofs.Ythekickjjaleaac

/- The specification's chapter 5: l5Exec, its front. -/
namespace Go.Proofs.Ythekickjjaleaac
open Go.RowKit
set_option linter.unusedVariables false
attribute [local go_sem ↓] Go.wp_at_zero Go.wp_at_succ

/-- The rest of a row of codes, and its next one. -/
def codeTail : Nat → Code → Code
  | 0, c => c
  | n + 1, .seq _ c => codeTail n c
  | _ + 1, c => c
def codeHead : Code → Code
  | .seq c _ => c
  | c => c
def bodyOf (f : Func) : Code := f.body.getD .skip

end Go.Proofs.Ythekickjjaleaac

/- The specification's chapter 5: l5Exec, cases. Written by mk5j.py. -/
namespace Go.Proofs.Ythekickjjaleaac
open Go.RowKit
set_option linter.unusedVariables false
attribute [local go_sem ↓] Go.wp_at_zero Go.wp_at_succ

theorem From.low {B C : Nat} {p p' : PtrM} (h : From C p p') (hc : B ≤ C) : From B p p' := fun q hq => (h q hq).imp id fun h => Nat.le_trans hc h
theorem FromL.low {B C : Nat} {p p' : Option Addr} (h : FromL C p p') (hc : B ≤ C) : FromL B p p' := fun q hq => (h q hq).imp id fun h => Nat.le_trans hc h

end Go.Proofs.Ythekickjjaleaac

/- The specification's scripts: l5Long, l5Empty; more of Until: values that come with new memory, appends. -/
namespace Go.Proofs.Ythekickjjaleaac
open Go.RowKit
set_option linter.unusedVariables false

section
variable {P : Program} {ops : Array Oper} {Q : Exit → Act → World → Prop} {F : World → Prop} {c : Nat}

/-- A value (and a new world) of the only operation that may come up. -/
theorem anyU_val {fuel : Nat} {listed : Array Bool} {a : Act} {w w' : World} (i : Nat) {o : Oper} (d : Tmp) (v : Value) (hd : o.dst = some d) (hi : ops[i]? = some o) (hg : o.guard = none) (hr : Region.ready .any ops listed = [i]) (he : (execOp a.eval o).run P w = .ok (.value v) w')
    (hS : (listed.setIfInBounds i true).getD c false = false → F w') (h : wpAnyU P ops Q F c fuel (listed.setIfInBounds i true) (a.put (some d) v) w') : wpAnyU P ops Q F c (fuel + 1) listed a w := by
  refine anyU_one i hr ?_
  unfold wpOp
  simp only [hi]
  rw [if_pos (by simp [Region.wanted, hg])]
  refine .inl ?_
  unfold Oper.wp
  rw [he]
  refine ⟨hS, ?_⟩
  rw [hd]
  exact h

/-- An append as the only operation that may come up. -/
theorem anyU_append {fuel : Nat} {listed : Array Bool} {a : Act} {w : World} (i : Nat) {o : Oper} (d : Tmp) (hd : o.dst = some d) (hi : ops[i]? = some o) (hgd : o.guard = none) (hr : Region.ready .any ops listed = [i]) (s x : Operand) (t : TypeId)
    (ho : o.op = .call { callee := .builtin .append, args := #[s, x], argTypes := #[t, t] }) (e : TypeId) (ht : P.underlying t = some (.slice e)) (z : Value) (size bytes : Nat)
    (hin : (P.info? e).map (fun i => (i.zero, i.size, i.bytes)) = some (some z, size, bytes)) (hzs : z.cells.size = size) (hsz : 0 < size)
    (base n : Nat) (v : Value) (cs : List Value) (hs : a.eval s = v) (hown : w.ownsRow base e size v n cs)
    (b off m cc : Nat) (ys : List Value) (hx : a.eval x = .slice (some ⟨b, off, none⟩) m cc) (hm : 0 < m) (hy : RowC w (some ⟨b, off, none⟩) m size ys) (h1 : ∀ u ∈ ys, u.oneCell' = true)
    (hbd : (n + m) * bytes ≤ 140737488355328) (hbd' : n + m ≤ 9223372036854775807)
    (hbw : base ≤ w.heap.size) (B : Nat) (W : World) (hb : Below B W w) (hB : B ≤ base)
    (h : ∀ g' cap' w', w'.ownsRow base e size (.slice (some ⟨g', 0, none⟩) (n + m) cap') (n + m) (cs ++ ys) → Below B W w' → ((listed.setIfInBounds i true).getD c false = false → F w') ∧ wpAnyU P ops Q F c fuel (listed.setIfInBounds i true) (a.put (some d) (.slice (some ⟨g', 0, none⟩) (n + m) cap')) w') : wpAnyU P ops Q F c (fuel + 1) listed a w := by
  refine anyU_one i hr ?_
  unfold wpOp
  simp only [hi]
  rw [if_pos (by simp [Region.wanted, hgd])]
  refine .inl ?_
  refine wp_append_v w s x t ho e ht z size bytes hin hzs hsz base n v cs hs hown b off m cc ys hx hm hy h1 hbd hbd' hbw B W hb hB fun g' cap' w' h2 h3 => ?_
  rw [hd]
  exact h g' cap' w' h2 h3
end

theorem atM_bd {zs : List Int} (h : ∀ i : Nat, 0 ≤ zs[i]?.getD 0 ∧ zs[i]?.getD 0 ≤ 255) (i : Nat) : 0 ≤ atM zs i ∧ atM zs i ≤ 255 := h i

theorem range_snoc (f : Nat → Int) (k : Nat) : (List.range (k + 1)).map f = (List.range k).map f ++ [f k] := by
  rw [List.range_succ, List.map_append]
  rfl

set_option maxHeartbeats 800000 in
theorem l5Long_any (a : Option Addr) (len cap : Nat) (zs : List Int) (i : Nat) (w : World) (h : Byt w a len zs) (hl : len ≤ 1048576) (hi : i ≤ 1073741824) :
    Calls Try.prog 20 #[.slice a len cap, .int .i64 i] w fun e w' => e = .returned (.int .u64 (longM zs i)) ∧ Below w.heap.size w w' := by
  have HB : Hid _ := h
  clear h
  go_enter Try.func20, Try.ntmps20
  go_wp2_with fail
  have o1 : Hid _ := OwnB.new 5 w [] 0 rfl (by decide)
  have n1 : Below w.heap.size w (w.alloc (Obj.cells #[] 5)) := (Below.refl _ _).alloc (Nat.le_refl _) _
  go_loopw [5, 6] (fun bv kv wr => ∃ (k g cp : Nat), k ≤ 8 ∧ bv = .slice (some ⟨g, 0, none⟩) k cp ∧ kv = .int .i64 k ∧ OwnB 5 wr w.heap.size g k cp ((List.range k).map fun j => atM zs (i + j)) ∧ Below w.heap.size w wr) (fun _ kv _ => 8 - (intOf kv).toNat)
  case atStart => exact ⟨0, _, _, Nat.zero_le _, rfl, rfl, o1.out, n1⟩
  case round =>
    clear o1 n1
    obtain ⟨k, g, cp, hk, rfl, rfl, hO, hB⟩ := hrel
    have HO : Hid (OwnB 5 wr w.heap.size g k cp ((List.range k).map fun j => atM zs (i + j))) := hO
    have hf1 : k ≤ cp := by have := hO.facts; omega
    have hf2 : cp ≤ 9223372036854775807 := by have := hO.facts; simp only [maxLen] at this; omega
    clear hO
    by_cases hlt : k < 8
    · go_wp2_with fail
      refine (l5At_any a len cap zs (i + k) wr (Byt.keep HB.out hB) hl (by omega)).mono ?_
      rintro e w' ⟨rfl, rfl⟩
      have hy : 0 ≤ atM zs (i + k) ∧ atM zs (i + k) ≤ 255 := atM_bd HB.out.2.1 (i + k)
      obtain ⟨y, hyy⟩ : ∃ y, atM zs (i + k) = y := ⟨_, rfl⟩
      have HY : Hid (atM zs (i + k) = y) := hyy
      rw [hyy] at hy ⊢
      clear hyy
      obtain ⟨hy1, hy2⟩ := hy
      have n2 : Below w.heap.size w (w'.alloc (Obj.cells #[Value.int .u8 y] 5)) := hB.alloc hB.size _
      have O3 : Hid _ := HO.out.keep ((Below.refl w'.heap.size w').alloc (Nat.le_refl _) (Obj.cells #[Value.int .u8 y] 5)) HO.out.facts.2.2.1
      have y3 : Hid _ := one_byt w' 5 y ⟨hy1, hy2⟩
      clear HO
      go_wp2_with (at_builtin; refine append_b _ rfl (.tmp 12) (.tmp 19) 22 rfl 5 Try.underlying22 Try.infoB w.heap.size _ _ _ _ rfl O3.out w'.heap.size 0 1 1 [y] rfl y3.out (by omega) _ _ n2 (Nat.le_refl _) ?_; intro g4 cp4 v4 o4 n4; clear O3 y3 n2)
      go_roundw
      case rel =>
        refine ⟨k + 1, g4, cp4, by omega, rfl, by go_num, ?_, n4⟩
        rw [range_snoc, HY.out]
        exact o4
      case measure => simp [intOf]; omega
    · have hkn : k = 8 := by omega
      subst hkn
      have hby : Hid (Byt wr (some ⟨g, 0, none⟩) 8 ((List.range 8).map fun j => atM zs (i + j))) := HO.out.byt (bd_of_mem fun z hz => by
        simp only [List.mem_map] at hz
        obtain ⟨j, _, rfl⟩ := hz
        exact atM_bd HB.out.2.1 _)
      go_wp2_with fail
      refine (l1Number_any _ _ _ _ _ hby.out (by omega) hf1 hf2).mono ?_
      rintro e w' ⟨rfl, nq, rfl⟩
      go_wp2_with fail
      go_ret
      exact ⟨rfl, below_drewN hB nq⟩

theorem entsC_append : ∀ (a b : List EntM), entsC (a ++ b) = entsC a ++ entsC b
  | [], b => rfl
  | e :: a, b => by simp [entsC, entsC_append a b]

set_option maxRecDepth 20000 in
set_option maxHeartbeats 800000 in
theorem l5Empty_any (y : Int) (w : World) (hy : 0 ≤ y ∧ y ≤ 255) :
    Calls Try.prog 18 #[.int .i64 y] w fun e w' => (∃ x, e = .returned x ∧ TlbOwn w.heap.size w' x (emptyM y)) ∧ Below w.heap.size w w' := by
  obtain ⟨hy1, hy2⟩ := hy
  have hm : (y % 4 = 0 ∨ y % 4 = 1 ∨ y % 4 = 2 ∨ y % 4 = 3) := by omega
  obtain ⟨s, hs, hs1⟩ : ∃ s : Nat, ((2 : Int) ^ (y % 4).toNat) = s ∧ (s = 1 ∨ s = 2 ∨ s = 4 ∨ s = 8) := by
    rcases hm with h | h | h | h <;> rw [h]
    · exact ⟨1, rfl, .inl rfl⟩
    · exact ⟨2, rfl, .inr (.inl rfl)⟩
    · exact ⟨4, rfl, .inr (.inr (.inl rfl))⟩
    · exact ⟨8, rfl, .inr (.inr (.inr rfl))⟩
  obtain ⟨m, hm1, hm2⟩ : ∃ m : Nat, 1 + y / 4 % 4 = m ∧ 1 ≤ m ∧ m ≤ 4 := ⟨(1 + y / 4 % 4).toNat, by omega, by omega, by omega⟩
  have HE : Hid (emptyM y = ⟨s, m, List.replicate (s * m) ent0⟩) := by
    show _ = _
    unfold emptyM
    rw [hs, hm1]
    have : (2 : Nat) ^ (y % 4).toNat = s := by
      have h2 : ((2 : Int) ^ (y % 4).toNat) = (((2 : Nat) ^ (y % 4).toNat : Nat) : Int) := by simp
      omega
    rw [this]
    rfl
  have HP : Hid ((s : Int) = 2 ^ (y % 4).toNat) := hs.symm
  have hs8 : 1 ≤ s ∧ s ≤ 8 := by omega
  have hsm : s * m ≤ 32 := by
    rcases hs1 with h | h | h | h <;> subst h <;> omega
  have hsm' : (s : Int) * (m : Int) = ((s * m : Nat) : Int) := by simp
  have HT : Hid (y.tmod 4 = y % 4 ∧ (y.tdiv 4).tmod 4 = y / 4 % 4) := by
    refine ⟨Int.tmod_eq_emod_of_nonneg hy1, ?_⟩
    rw [Int.tdiv_eq_ediv_of_nonneg hy1, Int.tmod_eq_emod_of_nonneg (by omega)]
  obtain ⟨n, hn⟩ : ∃ n, s * m = n := ⟨_, rfl⟩
  have hwm : IntKind.i64.wrap ((s : Int) * (m : Int)) = (n : Int) := (IntKind.wrap_i64 _).trans (by rw [hsm', hn]; omega)
  have Hn1 : Hid (1 ≤ n) := by show 1 ≤ n; rw [← hn]; exact Nat.mul_pos hs8.1 hm2.1
  rw [hn] at HE hsm
  clear hs hs1 hn hsm'
  have s0 : Hid (((w.alloc (Obj.cells #[.int .i64 0, .int .i64 0, .slice none 0 0] 27)).alloc (Obj.cells #[.int .i64 s, .int .i64 m, .slice none 0 0] 27)).heap[w.heap.size + 1]? = some (.cells #[.int .i64 s, .int .i64 m, .slice none 0 0] 27 (0, 0))) := (alloc2 w _ _ _ _).2.1
  have r0 : Hid (((w.alloc (Obj.cells #[.int .i64 0, .int .i64 0, .slice none 0 0] 27)).alloc (Obj.cells #[.int .i64 s, .int .i64 m, .slice none 0 0] 27)).heap[w.heap.size]? = some (.cells #[.int .i64 0, .int .i64 0, .slice none 0 0] 27 (0, 0))) := (alloc2 w _ _ _ _).1
  have b0 := (alloc2 w #[.int .i64 0, .int .i64 0, .slice none 0 0] #[.int .i64 s, .int .i64 m, .slice none 0 0] 27 27).2.2.2
  go_enter Try.func18, Try.ntmps18
  go_wp2_with (go_at_call 45; refine (l2Pow_at (y % 4) s _ (by omega) HP.out).mono ?_; rintro e w' ⟨rfl, rfl⟩)
  go_loopw [4] (fun iv wr => ∃ (i : Nat) (ra : Option Addr) (rc : Nat), i ≤ n ∧ iv = .int .i64 i ∧ wr.heap[w.heap.size + 1]? = some (.cells #[.int .i64 s, .int .i64 m, .slice ra i rc] 27 (0, 0)) ∧
      wr.heap[w.heap.size]? = some (.cells #[.int .i64 0, .int .i64 0, .slice none 0 0] 27 (0, 0)) ∧ wr.ownsRow (w.heap.size + 2) 91 6 (.slice ra i rc) i (entsC (List.replicate i ent0)) ∧ Below w.heap.size w wr) (fun iv _ => n - (intOf iv).toNat)
  case atStart => exact ⟨0, none, 0, Nat.zero_le _, rfl, s0.out, r0.out, World.ownsRow_nil _ _ _ _, b0⟩
  case round =>
    clear s0 r0 b0
    obtain ⟨i, ra, rc, hi, rfl, hS, hR, hO, hb⟩ := hrel
    have HS : Hid _ := hS
    have HR : Hid _ := hR
    have HO : Hid _ := hO
    have hlt : w.heap.size + 1 < wr.heap.size := (Array.getElem?_eq_some_iff.1 hS).1
    obtain ⟨⟨c0, c1, c2⟩, e0, e1, e2⟩ := three_cells hS
    obtain ⟨⟨d0, d1, d2⟩, f0, f1, f2⟩ := three_cells hR
    clear hS hR hO
    by_cases hin : i < n
    · have n4 := (Below.refl wr.heap.size wr).alloc (Nat.le_refl _) (Obj.cells #[.bool false, .int .i64 0, .int .u64 0, .int .u64 0, .bool false, .int .u64 0] 91)
      have HS4 : Hid _ := heap_keep HS.out n4 hlt
      have HR4 : Hid _ := heap_keep HR.out n4 (by omega)
      have HO4 : Hid _ := own_below HO.out n4
      have HW4 : Hid (RowC (wr.alloc (Obj.cells #[.bool false, .int .i64 0, .int .u64 0, .int .u64 0, .bool false, .int .u64 0] 91)) (some ⟨wr.heap.size, 0, none⟩) 1 6 (entsC [ent0])) := (OwnC.new 91 6 wr (entsC [ent0]) 1 (by rfl) (by decide)).row
      have l4 : wr.heap.size < (wr.alloc (Obj.cells #[.bool false, .int .i64 0, .int .u64 0, .int .u64 0, .bool false, .int .u64 0] 91)).heap.size := by simp
      have b4 : Below w.heap.size w (wr.alloc (Obj.cells #[.bool false, .int .i64 0, .int .u64 0, .int .u64 0, .bool false, .int .u64 0] 91)) := hb.alloc (by omega) _
      go_wp2_with (at_builtin; refine append_v _ rfl (.tmp 24) (.tmp 26) 25 rfl 91 Try.underlying25 (.agg #[.bool false, .int .i64 0, .int .u64 0, .int .u64 0, .bool false, .int .u64 0]) 6 48 Try.infoEnt rfl (by decide) (w.heap.size + 2) i _ (entsC (List.replicate i ent0)) rfl HO4.out wr.heap.size 0 1 1 (entsC [ent0]) rfl (by omega) HW4.out (entsC_one _) (by omega) (by omega) (by omega) (w.heap.size + 2) _ (Below.refl _ _) (Nat.le_refl _) ?_; intro g5 cp5 v5 o5 n5; have HO5 : Hid _ := o5; have HS5 : Hid _ := (n5.block _ (by omega)).trans HS4.out; have HR5 : Hid _ := (n5.block _ (by omega)).trans HR4.out; have b5 : Below w.heap.size w v5 := b4.trans (n5.mono (by omega)); have l5 := n5.size; clear o5 n5 HO4 HS4 HR4 HW4 l4 b4 n4; clear c0 c1 c2 e0 e1 e2 d0 d1 d2 f0 f1 f2; obtain ⟨⟨c0, c1, c2⟩, e0, e1, e2⟩ := three_cells HS5.out)
      refine ⟨⟨i + 1, some ⟨g5, 0, none⟩, cp5, by omega, by go_num, tset2 HS5.out, heap_gb HR5.out (gb_set (gb_refl v5 (some (w.heap.size + 1))) 2 _) (by omega), ?_, b5.setCell (p := ⟨w.heap.size + 1, 2, none⟩) (by show w.heap.size ≤ w.heap.size + 1; omega) _⟩, ?_⟩
      · have := own_gb HO5.out (gb_set (gb_refl v5 (some (w.heap.size + 1))) 2 (.slice (some ⟨g5, 0, none⟩) (i + 1) cp5)) (by omega)
        rw [← entsC_append] at this
        rw [List.replicate_succ']
        exact this
      · simp [intOf]
        omega
    · have hin' : i = n := by omega
      subst hin'
      go_wp2_with fail
      refine bodyPost_ret (v := .agg #[.int .i64 s, .int .i64 m, .slice ra i rc]) (by simp [results, Try.results18, go_sem, d0, d1, d2]) rfl ?_
      refine ⟨⟨_, rfl, ?_⟩, bel3 hb (Nat.le_refl _) _ _ _⟩
      rw [HE.out]
      have O := own_low (own_gb HO.out (gb3 wr w.heap.size (.int .i64 s) (.int .i64 m) (.slice ra i rc)) (by omega)) (show w.heap.size ≤ w.heap.size + 2 by omega)
      rcases O.2 with ⟨h1, h2⟩ | ⟨g, cap, cur, h1, r⟩
      · exfalso
        have := Hn1.out
        omega
      · cases h1
        refine ⟨g, rc, by simp, ?_⟩
        simp only [List.length_replicate]
        exact O

end Go.Proofs.Ythekickjjaleaac
