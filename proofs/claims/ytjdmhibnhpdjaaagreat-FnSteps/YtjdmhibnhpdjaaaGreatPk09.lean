import Derived.Maps.RangeWalk
import Derived.Test.YtjdmhibnhpdjaaaGreatPk08
namespace Go.Proofs.YtjdmhibnhpdjaaaGreat
open Go.RowKit
set_option linter.unusedVariables false
set_option maxHeartbeats 6400000
set_option maxRecDepth 20000
section
variable {P:Program} {ops:Array Oper} {Q:Exit->Act->World->Prop} {F:World->Prop} {c:Nat}
def iZ (P:Program) (ops:Array Oper) (Q:Exit->Act->World->Prop) (F:World->Prop) (c:Nat):Nat->Array Bool->Act->World->Prop
 | 0,listed,a,w=>Region.ready .any ops listed=[]∧Q .normal a w
 | fuel+1,listed,a,w=>
  (Region.ready .any ops listed=[]->Q .normal a w)∧
  ∀i∈Region.ready .any ops listed,wpOp P ops Q i (fun a' w'=>((listed.setIfInBounds i true).getD c false=false->F w')∧iZ P ops Q F c fuel (listed.setIfInBounds i true) a' w') a w
theorem uF:∀(fuel:Nat) (listed:Array Bool) (a:Act) (w:World),iZ P ops Q F c fuel listed a w->wpAny P .any ops Q fuel listed a w
 | 0,_,_,_,h=>h
 | fuel+1,_,_,_,h=>⟨h.1,fun i hi=>wpOp_mono (fun a' w' h'=>uF fuel _ a' w' h'.2) (h.2 i hi)⟩
theorem oM {i:Nat} {oi:Oper} {v:Value} (hi:ops[i]?=some oi) (hic:i≠c) (hsel:∀(j:Nat) (o:Oper) cs b,ops[j]?=some o->o.op≠.select cs b)
 (hQ:∀x a w,Q (.panic x) (a.put oi.dst v) w->Q (.panic x) a w):
 ∀(fuel:Nat) (listed:Array Bool) (a:Act) (w:World),Closed ops listed->
  (∀j oj,ops[j]?=some oj->j≠i->listed.getD j true=false->(∀e∈oj.after,Region.binds .any e=true->e.on≠i)->oi.apart ops oj=true)->
  i∈Region.ready .any ops listed->YieldsIf P ops (fun w=>∃l,Closed ops l∧l.getD i true=false∧(l.getD c false=false->F w)) oi v a->(listed.getD c false=false->F w)->
  iZ P ops Q F c fuel (listed.setIfInBounds i true) (a.put oi.dst v) w->iZ P ops Q F c (fuel+1) listed a w:=by
 intro fuel
 induction fuel with
 | zero=>
  intro listed a w hc _ hr hy hS H;refine ⟨fun h=>(by rw [h] at hr;cases hr),fun j hj=>?_⟩;by_cases hji:j=i
  ·subst hji;exact hy.wpOp hi ⟨listed,hc,(mem_ready.1 hr).1,hS⟩ ⟨fun h=>hS (by rwa [getD_set_ne false hic] at h),H⟩
  ·have:=ready_mono hj hji;rw [H.1] at this;cases this
 | succ fuel ih=>
  intro listed a w hc hfree hr hy hS H;refine ⟨fun h=>(by rw [h] at hr;cases hr),fun j hj=>?_⟩;by_cases hji:j=i
  ·subst hji;exact hy.wpOp hi ⟨listed,hc,(mem_ready.1 hr).1,hS⟩ ⟨fun h=>hS (by rwa [getD_set_ne false hic] at h),H⟩
  ·have h1:=H.2 j (ready_mono hj hji);obtain ⟨hjun,oj,hoj,hall⟩:=mem_ready.1 hj;have hnot:∀e∈oj.after,Region.binds .any e=true->e.on≠i:=fun e he hb heq=>by
    have h1:=hall e he hb;have h0:=(mem_ready.1 hr).1;rw [heq] at h1;rcases Nat.lt_or_ge i listed.size with h' | h'
    ·simp [h'] at h0 h1;rw [h0] at h1;cases h1
    ·simp [Array.getElem?_eq_none h'] at h1
   have h2:=wpOp_putIf hoj (hfree j oj hoj hji hjun hnot) (fun cs b=>hsel i oi cs b hi) (fun cs b=>hsel j oj cs b hoj) hQ hy h1;have hfree':∀k ok,ops[k]?=some ok->k≠i->(listed.setIfInBounds j true).getD k true=false->
    (∀e∈ok.after,Region.binds .any e=true->e.on≠i)->oi.apart ops ok=true:=fun k ok hk hki hun hno=>by
    refine hfree k ok hk hki ?_ hno;by_cases hjk:j=k
    ·subst hjk;exact hjun
    ·rw [getD_set_ne true hjk] at hun;exact hun
   have hcm:(listed.setIfInBounds i true).setIfInBounds j true=(listed.setIfInBounds j true).setIfInBounds i true:=Array.setIfInBounds_comm _ _ (Ne.symm hji);refine wpOp_mono (fun a' w' h3=>?_) h2;have hF:(listed.setIfInBounds j true).getD c false=false->F w':=fun h=>h3.2.1 (by rw [hcm,getD_set_ne false hic];exact h);refine ⟨hF,ih (listed.setIfInBounds j true) a' w' (hc.set hj) hfree' (ready_mono hr (Ne.symm hji)) h3.1 hF ?_⟩;rw [<-hcm];exact h3.2.2
def oO (ops:Array Oper) (listed:Array Bool):Bool:=
 (List.range ops.size).all fun j=>!listed.getD j false || match ops[j]? with
  | none=>true
  | some o=>o.after.all fun e=>!Region.binds .any e || listed.getD e.on false
theorem mD {listed:Array Bool} (h:oO ops listed=true):Closed ops listed:=by
 intro j oj hj hl e he hb;have h1:=List.all_eq_true.1 h j (List.mem_range.2 (hpl hj));simp only [hj,hl,Bool.not_true,Bool.false_or] at h1;have h2:=Array.all_eq_true_iff_forall_mem.1 h1 e he;simpa [hb] using h2
def pW (ops:Array Oper):Nat->Nat->Nat->Bool
 | 0,c,i=>c == i
 | f+1,c,i=>c == i || (List.range ops.size).any fun j=>Region.waitsFor .any ops c j && pW ops f j i
theorem nm {listed:Array Bool} (hc:Closed ops listed) {i:Nat}:∀(f c:Nat),pW ops f c i=true->listed.getD c false=true->listed.getD i false=true
 | 0,c,h,hl=>by
  have:c=i:=by simpa [pW] using h
  subst this;exact hl
 | f+1,c,h,hl=>by
  simp only [pW,Bool.or_eq_true,beq_iff_eq,List.any_eq_true,Bool.and_eq_true] at h;rcases h with rfl | ⟨j,_,hw,hr⟩
  ·exact hl
  ·exact nm hc f j hr (rY hc hl hw)
theorem mH (i:Nat) {oi:Oper} (d:Tmp) (v:Value) {fuel:Nat} {listed:Array Bool} {a:Act} {w:World} (hi:ops[i]?=some oi) (hs:Region.noSelect ops=true) (hcl:oO ops listed=true) (hf:Region.free .any ops listed i=true) (hr:(Region.ready .any ops listed).contains i=true) (hic:(i != c)=true) (hrc:pW ops ops.size c i=true)
 (hQ:∀x a w,Q (.panic x) (a.put oi.dst v) w->Q (.panic x) a w) (hw:Region.wanted oi (yielded ops a.tmps)=true) (hy:∀u,F u->(execOp a.eval oi).run P u=.ok (.value v) u) (hS:F w)
 (hd:oi.dst=some d) (h:iZ P ops Q F c fuel (listed.setIfInBounds i true) (a.put (some d) v) w):iZ P ops Q F c (fuel+1) listed a w:=
 oM hi (by simpa using hic) (Region.noSelect_spec hs) hQ fuel listed a w (mD hcl) (Region.free_spec hi hf) (by simpa using hr)
  (.inl ⟨hw,fun u ⟨l,h1,h2,h3⟩=>hy u (h3 (by
   cases hh:l.getD c false
   ·rfl
   ·have:=nm h1 _ _ hrc hh;rw [qF h2] at this;cases this))⟩) (fun _=>hS) (by rw [hd];exact h)
theorem hqp {Q:Exit->Act->World->Prop} (H:Hid (∀x (a:Act) d z w,Q (.panic x) (a.put d z) w->Q (.panic x) a w)) {d:Option Tmp} {v:Value} (x:List PanicEntry) (a:Act) (w:World) (h:Q (.panic x) (a.put d v) w):Q (.panic x) a w:=H.out _ _ _ _ _ h
theorem Ep (i:Nat) {oi:Oper} (d:Tmp) (v:Value) {fuel:Nat} {listed:Array Bool} {a:Act} {w:World} (hi:ops[i]?=some oi)
 (hb:(Region.noSelect ops && oO ops listed && Region.free .any ops listed i && (Region.ready .any ops listed).contains i && (i != c) && pW ops ops.size c i && Region.wanted oi (yielded ops a.tmps) && (oi.dst == some d))=true)
 (hQ:∀x a w,Q (.panic x) (a.put oi.dst v) w->Q (.panic x) a w) (hy:∀u,F u->(execOp a.eval oi).run P u=.ok (.value v) u) (hS:F w)
 (h:iZ P ops Q F c fuel (listed.setIfInBounds i true) (a.put (some d) v) w):iZ P ops Q F c (fuel+1) listed a w:=by
 simp only [Bool.and_eq_true] at hb;obtain ⟨⟨⟨⟨⟨⟨⟨h1,h2⟩,h3⟩,h4⟩,h5⟩,h6⟩,h7⟩,h8⟩:=hb;exact mH i d v hi h1 h2 h3 h4 h5 h6 hQ h7 hy hS (by simpa using h8) h
theorem ic (i:Nat) {oi:Oper} (d:Tmp) (v:Value) {fuel:Nat} {listed:Array Bool} {a:Act} {w:World} (hi:ops[i]?=some oi) (hS:F w)
 (h:iZ P ops Q F c fuel (listed.setIfInBounds i true) (a.put (some d) v) w)
 (hb:(Region.noSelect ops && oO ops listed && Region.free .any ops listed i && (Region.ready .any ops listed).contains i && (i != c) && pW ops ops.size c i && Region.wanted oi (yielded ops a.tmps) && (oi.dst == some d))=true:=by kernel_rfl)
 (hQ:∀x a w,Q (.panic x) (a.put oi.dst v) w->Q (.panic x) a w:=by exact fun _ _ _ h=>h) (hy:∀u,F u->(execOp a.eval oi).run P u=.ok (.value v) u:=by intro u _;kernel_rfl):iZ P ops Q F c (fuel+1) listed a w:=
 Ep i d v hi hb hQ hy hS h
theorem BL (i:Nat) {oi:Oper} (d:Tmp) (v:Value) {fuel:Nat} {listed:Array Bool} {a:Act} {w:World} (hi:ops[i]?=some oi) (hs:Region.noSelect ops=true) (hcl:oO ops listed=true) (hf:Region.free .any ops listed i=true) (hr:(Region.ready .any ops listed).contains i=true) (hic:(i != c)=true)
 (hQ:∀x a w,Q (.panic x) (a.put oi.dst v) w->Q (.panic x) a w) (hw:Region.wanted oi (yielded ops a.tmps)=true) (hy:∀u,(execOp a.eval oi).run P u=.ok (.value v) u) (hS:listed.getD c false=true∨F w)
 (hd:oi.dst=some d) (h:iZ P ops Q F c fuel (listed.setIfInBounds i true) (a.put (some d) v) w):iZ P ops Q F c (fuel+1) listed a w:=
 oM hi (by simpa using hic) (Region.noSelect_spec hs) hQ fuel listed a w (mD hcl) (Region.free_spec hi hf) (by simpa using hr) (.inl ⟨hw,fun u _=>hy u⟩) (fun h0=>hS.resolve_left (by rw [h0];simp)) (by rw [hd];exact h)
theorem oz {fuel:Nat} {listed:Array Bool} {a:Act} {w:World} (i:Nat) (hr:Region.ready .any ops listed=[i])
 (h:wpOp P ops Q i (fun a' w'=>((listed.setIfInBounds i true).getD c false=false->F w')∧iZ P ops Q F c fuel (listed.setIfInBounds i true) a' w') a w):iZ P ops Q F c (fuel+1) listed a w:=
 ⟨fun h0=>(by rw [hr] at h0;cases h0),fun j hj=>by
  rw [hr] at hj;have:j=i:=by simpa using hj
  subst this;exact h⟩
theorem iJ {fuel:Nat} {listed:Array Bool} {a:Act} {w w':World} (i:Nat) {o:Oper} {T:TypeId} {x y:Operand} (hi:ops[i]?=some o) (hop:o.op=.store T x y) (hg:o.guard=none) (hd:o.dst=none) (hr:Region.ready .any ops listed=[i])
 {b off:Nat} {V:Value} (hx:a.eval x=PT b off) (hy:a.eval y=V) (hl:(Instr.storeAt T (PT b off) V).run P w=.ok () w') (hS:(listed.setIfInBounds i true).getD c false=true∨F w') (h:iZ P ops Q F c fuel (listed.setIfInBounds i true) a w'):iZ P ops Q F c (fuel+1) listed a w:=by
 refine oz i hr ?_;unfold wpOp;simp only [hi];rw [if_pos (by simp [Region.wanted,hg])];refine .inl ?_;unfold Oper.wp execOp;simp only [hop,hx,hy,Sem.run_bind,hl,Result.andThen_ok,Sem.run_pure];refine ⟨fun h0=>hS.resolve_left (by rw [h0];simp),?_⟩;rw [hd];exact h
theorem jD {fuel:Nat} {listed:Array Bool} {a:Act} {w:World} (i:Nat) {o:Oper} (d:Tmp) (hi:ops[i]?=some o) {f:FuncId} {args:Array Value}
 (h:Calls P f args w fun e w'=>∃x,e=.returned x∧((listed.setIfInBounds i true).getD c false=false->F w')∧iZ P ops Q F c fuel (listed.setIfInBounds i true) (a.put (some d) x) w')
 (hd:o.dst=some d:=by kernel_rfl) (hg:Region.wanted o (yielded ops a.tmps)=true:=by kernel_rfl) (hr:Region.ready .any ops listed=[i]:=by kernel_rfl) (he:(execOp a.eval o).run P w=.ok (.enter f args) w:=by kernel_rfl):iZ P ops Q F c (fuel+1) listed a w:=by
 refine oz i hr ?_;unfold wpOp;simp only [hi];rw [if_pos hg];refine .inl ?_;unfold Oper.wp;rw [he];refine h.mono ?_;rintro e w' ⟨x,rfl,hS,h2⟩;refine ⟨hS,?_⟩;rw [hd];exact h2
theorem sI {fuel:Nat} {listed:Array Bool} {a:Act} {w:World} (i:Nat) {o:Oper} (d:Tmp) (hd:o.dst=some d) (hi:ops[i]?=some o) (hg:o.guard=none) (hr:Region.ready .any ops listed=[i]) {f:FuncId} {args:Array Value} (he:(execOp a.eval o).run P w=.ok (.enter f args) w)
 (h:Calls P f args w fun e w'=>∃x,e=.returned x∧((listed.setIfInBounds i true).getD c false=false->F w')∧iZ P ops Q F c fuel (listed.setIfInBounds i true) (a.put (some d) x) w'):iZ P ops Q F c (fuel+1) listed a w:=
 jD i d hi h hd (by simp [Region.wanted,hg]) hr he
theorem iN {listed:Array Bool} {a:Act} {w:World} (hr:Region.ready .any ops listed=[]) (h:Q .normal a w):∀fuel,iZ P ops Q F c fuel listed a w
 | 0=>⟨hr,h⟩
 | _+1=>⟨fun _=>h,by rw [hr];simp⟩
theorem dQ {fuel:Nat} {listed:Array Bool} {a:Act} {w:World} (h:Q .normal a w) (hr:Region.ready .any ops listed=[]:=by kernel_rfl):iZ P ops Q F c fuel listed a w:=iN hr h _
theorem fe {fuel:Nat} {listed:Array Bool} {a:Act} {w w':World} (i x y:Nat) {o:Oper} {T:TypeId} {b off:Nat} {V:Value} (hi:ops[i]?=some o) (hl:(Instr.storeAt T (PT b off) V).run P w=.ok () w') (h:iZ P ops Q F c fuel (listed.setIfInBounds i true) a w')
 (hop:o.op=.store T (.tmp x) (.tmp y):=by kernel_rfl) (hg:o.guard=none:=by kernel_rfl) (hd:o.dst=none:=by kernel_rfl) (hr:Region.ready .any ops listed=[i]:=by kernel_rfl) (hx:a.eval (.tmp x)=PT b off:=by kernel_rfl) (hy:a.eval (.tmp y)=V:=by kernel_rfl)
 (hS:(listed.setIfInBounds i true).getD c false=true∨F w':=by exact .inl (by kernel_rfl)):iZ P ops Q F c (fuel+1) listed a w:=iJ i hi hop hg hd hr hx hy hl hS h
theorem wn {fuel:Nat} {listed:Array Bool} {a:Act} {w:World} (i:Nat) {o:Oper} (hi:ops[i]?=some o) (h:wpList P ops Q [o] a w) (hg:Region.wanted o (yielded ops a.tmps)=true:=by kernel_rfl) (hr:Region.ready .any ops listed=[i]:=by kernel_rfl)
 (hr2:Region.ready .any ops (listed.setIfInBounds i true)=[]:=by kernel_rfl) (hc:(listed.setIfInBounds i true).getD c false=true:=by kernel_rfl):iZ P ops Q F c (fuel+1) listed a w:=by
 refine oz i hr ?_;unfold wpOp;simp only [hi];unfold wpList at h;rw [if_pos hg] at h |-;rcases h with h | h
 ·exact .inl (Oper.wp_mono (fun a' w' hQ=>⟨fun h0=>(by rw [hc] at h0;cases h0),iN hr2 hQ _⟩) h)
 ·exact .inr h
theorem ip {id:Nat} {a:Act} {w:World} (F:World->Prop) (c:Nat) (h:iZ P ops Q F c ops.size (Array.replicate ops.size false) a w.drew) (hm:P.follows .mixedOrders=true:=by kernel_rfl):(Code.region id ops true).wp P Q a w:=
 wp_region_any hm (uF _ _ _ _ h)
end
theorem uG {P:Program} {fn:Func} {R:Ending->World->Prop} {a:Act} {w:World} {s t:Tmp} {T:TypeId} {b:Nat} {V W:Value} (hr:fn.results=#[ResultVar.cell s T,ResultVar.tmp t]) (hs:a.tmps[s]?=some (PT b 0)) (ht:a.tmps[t]?=some W) (hl:(loadVar T (AD b 0)).run P w=.ok V w) (hd:a.defers=[]) (hR:R (.returned (.tuple #[V,W])) w):bodyPost P fn R .ret a w:=by
 refine bodyPost_ret (v:=.tuple #[V,W]) ?_ hd hR;simp [results,hr,hs,ht,asAddr,hl]
section
variable {P:Program} {ops:Array Oper} {Q:Exit->Act->World->Prop} {F:World->Prop} {c:Nat}
theorem ku {fuel:Nat} {listed:Array Bool} {a:Act} {w w':World} (i:Nat) {o:Oper} (d:Tmp) (v:Value) (hd:o.dst=some d) (hi:ops[i]?=some o) (hg:o.guard=none) (hr:Region.ready .any ops listed=[i]) (he:(execOp a.eval o).run P w=.ok (.value v) w')
 (hS:(listed.setIfInBounds i true).getD c false=false->F w') (h:iZ P ops Q F c fuel (listed.setIfInBounds i true) (a.put (some d) v) w'):iZ P ops Q F c (fuel+1) listed a w:=by
 refine oz i hr ?_;unfold wpOp;simp only [hi];rw [if_pos (by simp [Region.wanted,hg])];refine .inl ?_;unfold Oper.wp;rw [he];refine ⟨hS,?_⟩;rw [hd];exact h
theorem F0 {fuel:Nat} {listed:Array Bool} {a:Act} {w w':World} (i:Nat) {o:Oper} (d:Tmp) (v:Value) (hi:ops[i]?=some o) (hS:(listed.setIfInBounds i true).getD c false=false->F w') (h:iZ P ops Q F c fuel (listed.setIfInBounds i true) (a.put (some d) v) w')
 (hd:o.dst=some d:=by kernel_rfl) (hg:o.guard=none:=by kernel_rfl) (hr:Region.ready .any ops listed=[i]:=by kernel_rfl) (he:(execOp a.eval o).run P w=.ok (.value v) w':=by kernel_rfl):iZ P ops Q F c (fuel+1) listed a w:=ku i d v hd hi hg hr he hS h
end
theorem AF {P:Program} {ops:Array Oper} {Q:Exit->Act->World->Prop} {K:Act->World->Prop} {a:Act} {w:World} (i:Nat) {o:Oper} (d:Tmp) (hd:o.dst=some d) (hi:ops[i]?=some o) (hg:o.guard=none) {f:FuncId} {args:Array Value} (he:(execOp a.eval o).run P w=.ok (.enter f args) w)
 (h:Calls P f args w fun e w'=>∃x,e=.returned x∧K (a.put (some d) x) w'):wpOp P ops Q i K a w:=by
 unfold wpOp;simp only [hi];rw [if_pos (by simp [Region.wanted,hg])];refine .inl ?_;unfold Oper.wp;rw [he];refine h.mono ?_;rintro e w' ⟨x,rfl,h2⟩;rw [hd];exact h2
theorem CY {P:Program} {ops:Array Oper} {Q:Exit->Act->World->Prop} {K:Act->World->Prop} {a:Act} {w w':World} (i:Nat) {o:Oper} (d:Tmp) (v:Value) (hd:o.dst=some d) (hi:ops[i]?=some o) (hg:o.guard=none) (he:(execOp a.eval o).run P w=.ok (.value v) w')
 (h:K (a.put (some d) v) w'):wpOp P ops Q i K a w:=by
 unfold wpOp;simp only [hi];rw [if_pos (by simp [Region.wanted,hg])];refine .inl ?_;unfold Oper.wp;rw [he];show K (a.put o.dst v) w';rw [hd];exact h
theorem yB {P:Program} {ops:Array Oper} {Q:Exit->Act->World->Prop} {F:World->Prop} {c:Nat} {fuel:Nat} {listed:Array Bool} {a:Act} {w:World} (i j:Nat) (hr:Region.ready .any ops listed=[i,j])
 (hi:wpOp P ops Q i (fun a' w'=>((listed.setIfInBounds i true).getD c false=false->F w')∧iZ P ops Q F c fuel (listed.setIfInBounds i true) a' w') a w)
 (hj:wpOp P ops Q j (fun a' w'=>((listed.setIfInBounds j true).getD c false=false->F w')∧iZ P ops Q F c fuel (listed.setIfInBounds j true) a' w') a w):iZ P ops Q F c (fuel+1) listed a w:=
 ⟨fun h0=>(by rw [hr] at h0;cases h0),fun k hk=>by
  rw [hr] at hk;simp only [List.mem_cons,List.not_mem_nil,or_false] at hk;rcases hk with rfl | rfl
  ·exact hi
  ·exact hj⟩
theorem uj {a:Act} {d e:Tmp} {u v:Value} (h:d≠e):(a.put (some d) u).put (some e) v=(a.put (some e) v).put (some d) u:=by
 show Act.mk _ _=Act.mk _ _;congr 1;exact Array.setIfInBounds_comm _ _ h
theorem xn {P:Program} {ops:Array Oper} {Q:Exit->Act->World->Prop} {F:World->Prop} {c:Nat} {fuel:Nat} {listed L:Array Bool} {a:Act} {w:World} (k j:Nat) {ok oj:Oper} (dk dj:Tmp) {Z:Array Value} {T:TypeId} {g:FuncId} {brgs:Array Value} (R:World->Value->World->Prop)
 (ek:ops[k]?=some ok) (ej:ops[j]?=some oj) (dd:ok.dst=some dk∧oj.dst=some dj∧dk≠dj) (hg:ok.guard=none∧oj.guard=none)
 (r1:Region.ready .any ops listed=[k,j]) (r2:Region.ready .any ops (listed.setIfInBounds k true)=[j]) (r5:Region.ready .any ops (listed.setIfInBounds j true)=[k])
 (l1:(listed.setIfInBounds k true).setIfInBounds j true=L) (l2:(listed.setIfInBounds j true).setIfInBounds k true=L)
 (xk:∀u,(execOp a.eval ok).run P u=.ok (.enter g brgs) u) (xk':∀p u,(execOp (a.put (some dj) p).eval ok).run P u=.ok (.enter g brgs) u)
 (xj:∀b u,(execOp b oj).run P u=.ok (.value (PT u.heap.size 0)) (u.alloc (.cells Z T)))
 (hF:∀u,Bw w u->F u) (ck:∀u,Bw w u->Calls P g brgs u fun e w'=>(∃y,e=.returned y∧R u y w')∧Bw u w')
 (h:∀y p u v v',Bw w u->R u y v->Bw v v'->(p<u.heap.size∨v.heap.size<=p)->w.heap.size<=p->v'.heap[p]?=some (.cells Z T (0,0))->Bw w v'->iZ P ops Q F c fuel L ((a.put (some dk) y).put (some dj) (PT p 0)) v'):iZ P ops Q F c (fuel+2) listed a w:=by
 obtain ⟨hdk,hdj,n2⟩:=dd;obtain ⟨gk,gj⟩:=hg;have m1:=Below.refl w.heap.size w;refine yB k j r1 ?_ ?_
 ·refine AF k dk hdk ek gk (xk w) ((ck w m1).mono ?_);rintro e u2 ⟨⟨y,rfl,hy⟩,m2⟩;refine ⟨y,rfl,fun _=>hF u2 m2,?_⟩;have A:=(iV u2 Z T).2.2;refine ku j dj _ hdj ej gj r2 (xj _ _) (fun _=>hF _ (bst m2 A)) ?_;rw [l1];exact h y _ w u2 _ m1 hy A (.inr nle) m2.size (iV u2 Z T).1 (bst m2 A)
 ·have A:=(iV w Z T).2.2;refine CY j dj _ hdj ej gj (xj _ _) ⟨fun _=>hF _ A,?_⟩;refine sI k dk hdk ek gk r5 (xk' _ _) ((ck _ A).mono ?_);rintro e u2 ⟨⟨y,rfl,hy⟩,m2⟩;have z:=(iV w Z T).2.1;have m12:=bst A m2;refine ⟨y,rfl,fun _=>hF u2 m12,?_⟩;rw [l2,uj (Ne.symm n2)];exact h y _ _ u2 u2 A hy brf (.inl (by omega)) nle (ae (iV w Z T).1 m2 (by omega)) m12
theorem CZ {P:Program} {ops:Array Oper} {Q:Exit->Act->World->Prop} {F:World->Prop} {c:Nat} {fuel:Nat} {listed L:Array Bool} {a:Act} {w:World} (i k j:Nat) {oi ok oj:Oper} (di dk dj:Tmp) (x:Value) {Z:Array Value} {T:TypeId} {f g:FuncId} {args brgs:Array Value} (R:World->Value->World->Prop)
 (ei:ops[i]?=some oi) (ek:ops[k]?=some ok) (ej:ops[j]?=some oj) (dd:oi.dst=some di∧ok.dst=some dk∧oj.dst=some dj∧di≠dj∧dk≠dj) (hg:oi.guard=none∧ok.guard=none∧oj.guard=none)
 (r0:Region.ready .any ops listed=[i,j]) (r1:Region.ready .any ops (listed.setIfInBounds i true)=[k,j]) (r2:Region.ready .any ops ((listed.setIfInBounds i true).setIfInBounds k true)=[j]) (r3:Region.ready .any ops (listed.setIfInBounds j true)=[i]) (r4:Region.ready .any ops ((listed.setIfInBounds j true).setIfInBounds i true)=[k]) (r5:Region.ready .any ops ((listed.setIfInBounds i true).setIfInBounds j true)=[k])
 (l1:((listed.setIfInBounds i true).setIfInBounds k true).setIfInBounds j true=L) (l2:((listed.setIfInBounds i true).setIfInBounds j true).setIfInBounds k true=L) (l3:((listed.setIfInBounds j true).setIfInBounds i true).setIfInBounds k true=L)
 (xi:∀u,(execOp a.eval oi).run P u=.ok (.enter f args) u) (xi':∀p u,(execOp (a.put (some dj) p).eval oi).run P u=.ok (.enter f args) u) (xk:∀u,(execOp (a.put (some di) x).eval ok).run P u=.ok (.enter g brgs) u) (xk':∀p u,(execOp ((a.put (some di) x).put (some dj) p).eval ok).run P u=.ok (.enter g brgs) u)
 (xj:∀b u,(execOp b oj).run P u=.ok (.value (PT u.heap.size 0)) (u.alloc (.cells Z T)))
 (hF:∀u,Bw w u->F u) (ci:∀u,Bw w u->Calls P f args u fun e w'=>e=.returned x∧Bw u w') (ck:∀u,Bw w u->Calls P g brgs u fun e w'=>(∃y,e=.returned y∧R u y w')∧Bw u w')
 (h:∀y p u v v',Bw w u->R u y v->Bw v v'->(p<u.heap.size∨v.heap.size<=p)->w.heap.size<=p->v'.heap[p]?=some (.cells Z T (0,0))->Bw w v'->iZ P ops Q F c fuel L (((a.put (some di) x).put (some dk) y).put (some dj) (PT p 0)) v'):iZ P ops Q F c (fuel+3) listed a w:=by
 obtain ⟨hdi,hdk,hdj,n1,n2⟩:=dd;obtain ⟨gi,gk,gj⟩:=hg;have AL:∀u,Bw w u->Bw w (u.alloc (.cells Z T))∧Bw u (u.alloc (.cells Z T)):=fun u hu=>⟨bst hu (iV u Z T).2.2,(iV u Z T).2.2⟩;have b0:=Below.refl w.heap.size w;refine yB i j r0 ?_ ?_
 ·refine AF i di hdi ei gi (xi w) ((ci w b0).mono ?_);rintro e u1 ⟨rfl,m1⟩;refine ⟨x,rfl,fun _=>hF u1 m1,?_⟩;refine xn k j dk dj R ek ej ⟨hdk,hdj,n2⟩ ⟨gk,gj⟩ r1 r2 r5 l1 l2 xk xk' xj (fun u hu=>hF u (bst m1 hu)) (fun u hu=>ck u (bst m1 hu)) ?_;intro y p u v v' hu hy hb hp hpb hz hn;exact h y p u v v' (bst m1 hu) hy hb hp (Nat.le_trans m1.size hpb) hz (bst m1 hn)
 ·have A:=AL w b0;refine CY j dj _ hdj ej gj (xj _ _) ⟨fun _=>hF _ A.1,?_⟩;refine sI i di hdi ei gi r3 (xi' _ _) ((ci _ A.1).mono ?_);rintro e u1 ⟨rfl,m1⟩;have m01:=bst A.1 m1;refine ⟨x,rfl,fun _=>hF u1 m01,?_⟩;rw [uj (Ne.symm n1)];refine sI k dk hdk ek gk r4 (xk' _ _) ((ck _ m01).mono ?_);rintro e u2 ⟨⟨y,rfl,hy⟩,m2⟩;have z:=(iV w Z T).2.1;have zz:=m1.size;have m12:=bst m01 m2;refine ⟨y,rfl,fun _=>hF u2 m12,?_⟩;rw [l3,uj (Ne.symm n2)];exact h y _ _ u2 u2 m01 hy brf (.inl (by omega)) nle (ae (ae (iV w Z T).1 m1 (by omega)) m2 (by omega)) m12
theorem kM {P:Program} {ops:Array Oper} {Q:Exit->Act->World->Prop} {F:World->Prop} {c:Nat} (i:Nat) {oi:Oper} (d:Tmp) (v:Value) {fuel:Nat} {listed:Array Bool} {a:Act} {w:World} (hi:ops[i]?=some oi) (hS:listed.getD c false=true∨F w)
 (h:iZ P ops Q F c fuel (listed.setIfInBounds i true) (a.put (some d) v) w)
 (hb:(Region.noSelect ops && oO ops listed && Region.free .any ops listed i && (Region.ready .any ops listed).contains i && (i != c) && Region.wanted oi (yielded ops a.tmps) && (oi.dst == some d))=true:=by kernel_rfl)
 (hQ:∀x a w,Q (.panic x) (a.put oi.dst v) w->Q (.panic x) a w:=by exact fun _ _ _ h=>h) (hy:∀u,(execOp a.eval oi).run P u=.ok (.value v) u:=by intro u;kernel_rfl):iZ P ops Q F c (fuel+1) listed a w:=by
 simp only [Bool.and_eq_true] at hb;obtain ⟨⟨⟨⟨⟨⟨h1,h2⟩,h3⟩,h4⟩,h5⟩,h7⟩,h8⟩:=hb;exact BL i d v hi h1 h2 h3 h4 h5 hQ h7 hy hS (by simpa using h8) h
theorem DY {P:Program} {ops:Array Oper} {Q:Exit->Act->World->Prop} {F:World->Prop} {c:Nat} {fuel:Nat} {listed L:Array Bool} {a:Act} {w:World} (k j:Nat) {ok oj:Oper} (dk dj:Tmp) {Z:Array Value} {T:TypeId} {g:FuncId} {brgs:Array Value} (R:World->Value->World->Prop)
 (ek:ops[k]?=some ok) (ej:ops[j]?=some oj) (l1:(listed.setIfInBounds k true).setIfInBounds j true=L)
 (hF:∀u,Bw w u->F u) (ck:∀u,Bw w u->Calls P g brgs u fun e w'=>(∃y,e=.returned y∧R u y w')∧Bw u w')
 (h:∀y p u v v',Bw w u->R u y v->Bw v v'->(p<u.heap.size∨v.heap.size<=p)->w.heap.size<=p->v'.heap[p]?=some (.cells Z T (0,0))->Bw w v'->iZ P ops Q F c fuel L ((a.put (some dk) y).put (some dj) (PT p 0)) v')
 (dd:(ok.dst == some dk && oj.dst == some dj && dk != dj && ok.guard.isNone && oj.guard.isNone)=true:=by kernel_rfl)
 (r1:Region.ready .any ops listed=[k,j]:=by kernel_rfl) (r2:Region.ready .any ops (listed.setIfInBounds k true)=[j]:=by kernel_rfl) (r5:Region.ready .any ops (listed.setIfInBounds j true)=[k]:=by kernel_rfl) (l2:(listed.setIfInBounds j true).setIfInBounds k true=L:=by kernel_rfl)
 (xk:∀u,(execOp a.eval ok).run P u=.ok (.enter g brgs) u:=by intro u;kernel_rfl) (xk':∀p u,(execOp (a.put (some dj) p).eval ok).run P u=.ok (.enter g brgs) u:=by intro p u;kernel_rfl)
 (xj:∀b u,(execOp b oj).run P u=.ok (.value (PT u.heap.size 0)) (u.alloc (.cells Z T)):=by intro b u;kernel_rfl):iZ P ops Q F c (fuel+2) listed a w:=by
 simp only [Bool.and_eq_true,beq_iff_eq,bne_iff_ne,Option.isNone_iff_eq_none] at dd;obtain ⟨⟨⟨⟨d1,d2⟩,d3⟩,g1⟩,g2⟩:=dd;exact xn k j dk dj R ek ej ⟨d1,d2,d3⟩ ⟨g1,g2⟩ r1 r2 r5 l1 l2 xk xk' xj hF ck h
theorem mz (sv:Value) (zs:List Int) (va root:Int) (w:World) (hB:SrcAt w sv zs) (hv0:0<=va) (hv1:va<=18446744073709551615) (hr0:0<=root) (hr1:root<=18446744073709551615):
 Calls Tryz.prog 187 #[sv,VU root,VU va] w fun e w'=>Ad w.heap.size w' e (aB zs root va)∧Bw w w':=by
 have b0:=(Below.refl w.heap.size w).alloc nle (Obj.cells #[VI 0,VU 0,SN] 296);have r0:Hid ((w.alloc (Obj.cells #[VI 0,VU 0,SN] 296)).heap[w.heap.size]?=some (.cells #[VI 0,VU 0,SN] 296 (0,0))):=F6 w _;have HB:=hid hB;clear hB;have hb0:0<=root%17592186044416∧root%17592186044416<17592186044416:=⟨Int.emod_nonneg _ (by omega),Int.emod_lt_of_pos _ (by omega)⟩;have HM:=hid (kB 44 root 17592186044415 rfl (by omega) hr0 hr1);unfold aB;cases hcn:jN va
 ·rw [if_pos rfl];have HC:=hid hcn;clear hcn;go_enter Tryz.func187,Tryz.ntmps187;go_wp2_with fail;generalize w.alloc (Obj.cells #[VI 0,VU 0,SN] 296)=v1 at b0 r0 |-;refine (mB va v1 hv0 hv1).mono ?_;rintro e v2 ⟨rfl,rfl⟩;rw [HC.out];obtain ⟨⟨d0,d1,d2⟩,f0,f1,f2⟩:=ij r0.out;go_wp2_with fail;refine bodyPost_ret (v:=.tuple #[.agg #[VI 2,VU 0,SN],.iface 268 (.agg #[])]) (by simp [results,Tryz.results187,go_sem,d0,d1,d2]) rfl ?_;exact ⟨⟨none,0,rfl,World.ownsRow_nil _ _ _ _⟩,lA b0 nle _ _ _⟩
 ·rw [if_neg (by simp)];have HC:=hid hcn;clear hcn;obtain ⟨X,hX⟩:∃X,ag zs va 2 (root%17592186044416)=X:=⟨_,rfl⟩;have HX:=hid hX;rw [hX];clear hX;go_enter Tryz.func187,Tryz.ntmps187;go_wp2_with fail;have l1:w.heap.size<(w.alloc (Obj.cells #[VI 0,VU 0,SN] 296)).heap.size:=by simp
  generalize w.alloc (Obj.cells #[VI 0,VU 0,SN] 296)=v1 at b0 r0 l1 |-;refine (mB va v1 hv0 hv1).mono ?_;rintro e v2 ⟨rfl,rfl⟩;rw [HC.out];go_wp2_with fail;refine (jM 44 17592186044415 _ (by omega)).mono ?_;rintro e v3 ⟨rfl,rfl⟩;go_wp2_with fail;rw [HM.out];refine (rK sv zs va (root%17592186044416) 2 v3 (HB.out.keep b0) (by omega) hv0 hv1 hb0.1 hb0.2).mono ?_;rintro e v4 ⟨hw,n4⟩;rw [HX.out] at hw;obtain ⟨ra,rc,rfl,o4⟩:=hw;obtain ⟨x1,x2,x3,rs⟩:=X;simp only at o4 |-;have HO:=hid o4;clear o4;have r4:=hid (ae r0.out n4 l1);have b4:=bst b0 n4;obtain ⟨⟨d0,d1,d2⟩,f0,f1,f2⟩:=ij r4.out;obtain ⟨fv,hfv⟩:∃fv,jg x1=fv:=⟨_,rfl⟩;have HF:=hid hfv;rw [hfv];clear hfv;go_wp2_with fail;refine bodyPost_ret (v:=.tuple #[.agg #[VI x2,VU x3,.slice ra rs.length rc],fv]) (by simp [results,Tryz.results187,go_sem,d0,d1,d2]) rfl ?_;exact ⟨⟨ra,rc,by rw [HF.out],ir (aD HO.out (gb3 _ w.heap.size _ _ _) l1) (by omega)⟩,lA b4 nle _ _ _⟩
section
attribute [local go_sem ↓] Go.wp_at_zero Go.wp_at_succ
theorem zu:∀(rs:List aT) (i j:Nat) (hi:i<rs.length),j<3->(js rs)[i*3+j]?=(ua rs[i])[j]?
 | r::rs,0,j,hi,hj=>by
  simp only [js,List.getElem_cons_zero,Nat.zero_mul,Nat.zero_add];rw [List.getElem?_append_left (by simpa [ua] using hj)]
 | r::rs,i+1,j,hi,hj=>by
  simp only [js,List.getElem_cons_succ];rw [List.getElem?_append_right (by simp [ua];omega)];have:(i+1)*3+j-(ua r).length=i*3+j:=by simp [ua];omega
  rw [this];exact zu rs i j (by simpa using hi) hj
theorem zv {w:World} {b off n:Nat} {rs:List aT} (h:RowC w (some (AD b off)) n 3 (js rs)) (hn:rs.length=n) (k:Nat) (x:aT) (hx:rs[k]?=some x) (j:Nat) (v:Value) (hj:j<3) (hv:(ua x)[j]?=some v):
 w.cell? ⟨b,off+k*3+j,none⟩=some v:=by
 obtain ⟨h1,h2⟩:=h;obtain ⟨hk,rfl⟩:=List.getElem?_eq_some_iff.1 hx;rcases h2 with h2 | ⟨b',off',e,_,hc⟩
 ·omega
 ·simp at e;obtain ⟨rfl,rfl⟩:=e;have:=hc (k*3+j) v (by rw [zu rs k j hk hj];exact hv);rw [<-Nat.add_assoc] at this;exact this
end
end Go.Proofs.YtjdmhibnhpdjaaaGreat
