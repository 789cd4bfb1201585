import Derived.Maps.RangeWalk
import Derived.Test.YthdgiakgepmabaaGreatPk10
import Derived.Test.YthdgiakgepmabaaGreatPk09
namespace Go.Proofs.YthdgiakgepmabaaGreat
open Go.RowKit
set_option linter.unusedVariables false
set_option maxHeartbeats 6400000
set_option maxRecDepth 20000
section
variable {P:Program} {ops:Array Oper} {Q:Exit->Act->World->Prop} {F:World->Prop} {c:Nat}
def aL (P:Program) (ops:Array Oper) (Q:Exit->Act->World->Prop) (F:World->Prop) (c:Nat):Nat->Array Bool->Act->World->Prop
 | 0,listed,a,w=>Region.ready .any ops listed=[]∧Q .normal a w
 | fuel+1,listed,a,w=>
  (Region.ready .any ops listed=[]->Q .normal a w)∧
  ∀i∈Region.ready .any ops listed,wpOp P ops Q i (fun a' w'=>((listed.setIfInBounds i true).getD c false=false->F w')∧aL P ops Q F c fuel (listed.setIfInBounds i true) a' w') a w
theorem ot:∀(fuel:Nat) (listed:Array Bool) (a:Act) (w:World),aL P ops Q F c fuel listed a w->wpAny P .any ops Q fuel listed a w
 | 0,_,_,_,h=>h
 | fuel+1,_,_,_,h=>⟨h.1,fun i hi=>wpOp_mono (fun a' w' h'=>ot fuel _ a' w' h'.2) (h.2 i hi)⟩
theorem ir {i:Nat} {oi:Oper} {v:Value} (hi:ops[i]?=some oi) (hic:i≠c) (hsel:∀(j:Nat) (o:Oper) cs b,ops[j]?=some o->o.op≠.select cs b)
 (hQ:∀x a w,Q (.panic x) (a.put oi.dst v) w->Q (.panic x) a w):
 ∀(fuel:Nat) (listed:Array Bool) (a:Act) (w:World),Closed ops listed->
  (∀j oj,ops[j]?=some oj->j≠i->listed.getD j true=false->(∀e∈oj.after,Region.binds .any e=true->e.on≠i)->oi.apart ops oj=true)->
  i∈Region.ready .any ops listed->YieldsIf P ops (fun w=>∃l,Closed ops l∧l.getD i true=false∧(l.getD c false=false->F w)) oi v a->(listed.getD c false=false->F w)->
  aL P ops Q F c fuel (listed.setIfInBounds i true) (a.put oi.dst v) w->aL P ops Q F c (fuel+1) listed a w:=by
 intro fuel
 induction fuel with
 | zero=>
  intro listed a w hc _ hr hy hS H;refine ⟨fun h=>(by rw [h] at hr;cases hr),fun j hj=>?_⟩;by_cases hji:j=i
  ·subst hji;exact hy.wpOp hi ⟨listed,hc,(mem_ready.1 hr).1,hS⟩ ⟨fun h=>hS (by rwa [getD_set_ne false hic] at h),H⟩
  ·have:=ready_mono hj hji;rw [H.1] at this;cases this
 | succ fuel ih=>
  intro listed a w hc hfree hr hy hS H;refine ⟨fun h=>(by rw [h] at hr;cases hr),fun j hj=>?_⟩;by_cases hji:j=i
  ·subst hji;exact hy.wpOp hi ⟨listed,hc,(mem_ready.1 hr).1,hS⟩ ⟨fun h=>hS (by rwa [getD_set_ne false hic] at h),H⟩
  ·have h1:=H.2 j (ready_mono hj hji);obtain ⟨hjun,oj,hoj,hall⟩:=mem_ready.1 hj;have hnot:∀e∈oj.after,Region.binds .any e=true->e.on≠i:=fun e he hb heq=>by
    have h1:=hall e he hb;have h0:=(mem_ready.1 hr).1;rw [heq] at h1;rcases Nat.lt_or_ge i listed.size with h' | h'
    ·simp [h'] at h0 h1;rw [h0] at h1;cases h1
    ·simp [Array.getElem?_eq_none h'] at h1
   have h2:=wpOp_putIf hoj (hfree j oj hoj hji hjun hnot) (fun cs b=>hsel i oi cs b hi) (fun cs b=>hsel j oj cs b hoj) hQ hy h1;have hfree':∀k ok,ops[k]?=some ok->k≠i->(listed.setIfInBounds j true).getD k true=false->
    (∀e∈ok.after,Region.binds .any e=true->e.on≠i)->oi.apart ops ok=true:=fun k ok hk hki hun hno=>by
    refine hfree k ok hk hki ?_ hno;by_cases hjk:j=k
    ·subst hjk;exact hjun
    ·rw [getD_set_ne true hjk] at hun;exact hun
   have hcm:(listed.setIfInBounds i true).setIfInBounds j true=(listed.setIfInBounds j true).setIfInBounds i true:=Array.setIfInBounds_comm _ _ (Ne.symm hji);refine wpOp_mono (fun a' w' h3=>?_) h2;have hF:(listed.setIfInBounds j true).getD c false=false->F w':=fun h=>h3.2.1 (by rw [hcm,getD_set_ne false hic];exact h);refine ⟨hF,ih (listed.setIfInBounds j true) a' w' (hc.set hj) hfree' (ready_mono hr (Ne.symm hji)) h3.1 hF ?_⟩;rw [<-hcm];exact h3.2.2
def it (ops:Array Oper) (listed:Array Bool):Bool:=
 (List.range ops.size).all fun j=>!listed.getD j false || match ops[j]? with
  | none=>true
  | some o=>o.after.all fun e=>!Region.binds .any e || listed.getD e.on false
theorem fM {listed:Array Bool} (h:it ops listed=true):Closed ops listed:=by
 intro j oj hj hl e he hb;have h1:=List.all_eq_true.1 h j (List.mem_range.2 (hpl hj));simp only [hj,hl,Bool.not_true,Bool.false_or] at h1;have h2:=Array.all_eq_true_iff_forall_mem.1 h1 e he;simpa [hb] using h2
def iT (ops:Array Oper):Nat->Nat->Nat->Bool
 | 0,c,i=>c == i
 | f+1,c,i=>c == i || (List.range ops.size).any fun j=>Region.waitsFor .any ops c j && iT ops f j i
theorem gy {listed:Array Bool} (hc:Closed ops listed) {i:Nat}:∀(f c:Nat),iT ops f c i=true->listed.getD c false=true->listed.getD i false=true
 | 0,c,h,hl=>by
  have:c=i:=by simpa [iT] using h
  subst this;exact hl
 | f+1,c,h,hl=>by
  simp only [iT,Bool.or_eq_true,beq_iff_eq,List.any_eq_true,Bool.and_eq_true] at h;rcases h with rfl | ⟨j,_,hw,hr⟩
  ·exact hl
  ·exact gy hc f j hr (qX hc hl hw)
theorem wo (i:Nat) {oi:Oper} (d:Tmp) (v:Value) {fuel:Nat} {listed:Array Bool} {a:Act} {w:World} (hi:ops[i]?=some oi) (hs:Region.noSelect ops=true) (hcl:it ops listed=true) (hf:Region.free .any ops listed i=true) (hr:(Region.ready .any ops listed).contains i=true) (hic:(i != c)=true) (hrc:iT ops ops.size c i=true)
 (hQ:∀x a w,Q (.panic x) (a.put oi.dst v) w->Q (.panic x) a w) (hw:Region.wanted oi (yielded ops a.tmps)=true) (hy:∀u,F u->(execOp a.eval oi).run P u=.ok (.value v) u) (hS:F w)
 (hd:oi.dst=some d) (h:aL P ops Q F c fuel (listed.setIfInBounds i true) (a.put (some d) v) w):aL P ops Q F c (fuel+1) listed a w:=
 ir hi (by simpa using hic) (Region.noSelect_spec hs) hQ fuel listed a w (fM hcl) (Region.free_spec hi hf) (by simpa using hr)
  (.inl ⟨hw,fun u ⟨l,h1,h2,h3⟩=>hy u (h3 (by
   cases hh:l.getD c false
   ·rfl
   ·have:=gy h1 _ _ hrc hh;rw [qY h2] at this;cases this))⟩) (fun _=>hS) (by rw [hd];exact h)
theorem hqp {Q:Exit->Act->World->Prop} (H:Hid (∀x (a:Act) d z w,Q (.panic x) (a.put d z) w->Q (.panic x) a w)) {d:Option Tmp} {v:Value} (x:List PanicEntry) (a:Act) (w:World) (h:Q (.panic x) (a.put d v) w):Q (.panic x) a w:=H.out _ _ _ _ _ h
theorem zE (i:Nat) {oi:Oper} (d:Tmp) (v:Value) {fuel:Nat} {listed:Array Bool} {a:Act} {w:World} (hi:ops[i]?=some oi)
 (hb:(Region.noSelect ops && it ops listed && Region.free .any ops listed i && (Region.ready .any ops listed).contains i && (i != c) && iT ops ops.size c i && Region.wanted oi (yielded ops a.tmps) && (oi.dst == some d))=true)
 (hQ:∀x a w,Q (.panic x) (a.put oi.dst v) w->Q (.panic x) a w) (hy:∀u,F u->(execOp a.eval oi).run P u=.ok (.value v) u) (hS:F w)
 (h:aL P ops Q F c fuel (listed.setIfInBounds i true) (a.put (some d) v) w):aL P ops Q F c (fuel+1) listed a w:=by
 simp only [Bool.and_eq_true] at hb;obtain ⟨⟨⟨⟨⟨⟨⟨h1,h2⟩,h3⟩,h4⟩,h5⟩,h6⟩,h7⟩,h8⟩:=hb;exact wo i d v hi h1 h2 h3 h4 h5 h6 hQ h7 hy hS (by simpa using h8) h
theorem ak (i:Nat) {oi:Oper} (d:Tmp) (v:Value) {fuel:Nat} {listed:Array Bool} {a:Act} {w:World} (hi:ops[i]?=some oi) (hS:F w)
 (h:aL P ops Q F c fuel (listed.setIfInBounds i true) (a.put (some d) v) w)
 (hb:(Region.noSelect ops && it ops listed && Region.free .any ops listed i && (Region.ready .any ops listed).contains i && (i != c) && iT ops ops.size c i && Region.wanted oi (yielded ops a.tmps) && (oi.dst == some d))=true:=by kernel_rfl)
 (hQ:∀x a w,Q (.panic x) (a.put oi.dst v) w->Q (.panic x) a w:=by exact fun _ _ _ h=>h) (hy:∀u,F u->(execOp a.eval oi).run P u=.ok (.value v) u:=by intro u _;kernel_rfl):aL P ops Q F c (fuel+1) listed a w:=
 zE i d v hi hb hQ hy hS h
theorem Hx (i:Nat) {oi:Oper} (d:Tmp) (v:Value) {fuel:Nat} {listed:Array Bool} {a:Act} {w:World} (hi:ops[i]?=some oi) (hs:Region.noSelect ops=true) (hcl:it ops listed=true) (hf:Region.free .any ops listed i=true) (hr:(Region.ready .any ops listed).contains i=true) (hic:(i != c)=true)
 (hQ:∀x a w,Q (.panic x) (a.put oi.dst v) w->Q (.panic x) a w) (hw:Region.wanted oi (yielded ops a.tmps)=true) (hy:∀u,(execOp a.eval oi).run P u=.ok (.value v) u) (hS:listed.getD c false=true∨F w)
 (hd:oi.dst=some d) (h:aL P ops Q F c fuel (listed.setIfInBounds i true) (a.put (some d) v) w):aL P ops Q F c (fuel+1) listed a w:=
 ir hi (by simpa using hic) (Region.noSelect_spec hs) hQ fuel listed a w (fM hcl) (Region.free_spec hi hf) (by simpa using hr) (.inl ⟨hw,fun u _=>hy u⟩) (fun h0=>hS.resolve_left (by rw [h0];simp)) (by rw [hd];exact h)
theorem fW {fuel:Nat} {listed:Array Bool} {a:Act} {w:World} (i:Nat) (hr:Region.ready .any ops listed=[i])
 (h:wpOp P ops Q i (fun a' w'=>((listed.setIfInBounds i true).getD c false=false->F w')∧aL P ops Q F c fuel (listed.setIfInBounds i true) a' w') a w):aL P ops Q F c (fuel+1) listed a w:=
 ⟨fun h0=>(by rw [hr] at h0;cases h0),fun j hj=>by
  rw [hr] at hj;have:j=i:=by simpa using hj
  subst this;exact h⟩
theorem ug {fuel:Nat} {listed:Array Bool} {a:Act} {w w':World} (i:Nat) {o:Oper} {T:TypeId} {x y:Operand} (hi:ops[i]?=some o) (hop:o.op=.store T x y) (hg:o.guard=none) (hd:o.dst=none) (hr:Region.ready .any ops listed=[i])
 {b off:Nat} {V:Value} (hx:a.eval x=PT b off) (hy:a.eval y=V) (hl:(Instr.storeAt T (PT b off) V).run P w=.ok () w') (hS:(listed.setIfInBounds i true).getD c false=true∨F w') (h:aL P ops Q F c fuel (listed.setIfInBounds i true) a w'):aL P ops Q F c (fuel+1) listed a w:=by
 refine fW i hr ?_;unfold wpOp;simp only [hi];rw [if_pos (by simp [Region.wanted,hg])];refine .inl ?_;unfold Oper.wp execOp;simp only [hop,hx,hy,Sem.run_bind,hl,Result.andThen_ok,Sem.run_pure];refine ⟨fun h0=>hS.resolve_left (by rw [h0];simp),?_⟩;rw [hd];exact h
theorem jq {fuel:Nat} {listed:Array Bool} {a:Act} {w:World} (i:Nat) {o:Oper} (d:Tmp) (hi:ops[i]?=some o) {f:FuncId} {args:Array Value}
 (h:Calls P f args w fun e w'=>∃x,e=.returned x∧((listed.setIfInBounds i true).getD c false=false->F w')∧aL P ops Q F c fuel (listed.setIfInBounds i true) (a.put (some d) x) w')
 (hd:o.dst=some d:=by kernel_rfl) (hg:Region.wanted o (yielded ops a.tmps)=true:=by kernel_rfl) (hr:Region.ready .any ops listed=[i]:=by kernel_rfl) (he:(execOp a.eval o).run P w=.ok (.enter f args) w:=by kernel_rfl):aL P ops Q F c (fuel+1) listed a w:=by
 refine fW i hr ?_;unfold wpOp;simp only [hi];rw [if_pos hg];refine .inl ?_;unfold Oper.wp;rw [he];refine h.mono ?_;rintro e w' ⟨x,rfl,hS,h2⟩;refine ⟨hS,?_⟩;rw [hd];exact h2
theorem Ed {fuel:Nat} {listed:Array Bool} {a:Act} {w:World} (i:Nat) {o:Oper} (d:Tmp) (hd:o.dst=some d) (hi:ops[i]?=some o) (hg:o.guard=none) (hr:Region.ready .any ops listed=[i]) {f:FuncId} {args:Array Value} (he:(execOp a.eval o).run P w=.ok (.enter f args) w)
 (h:Calls P f args w fun e w'=>∃x,e=.returned x∧((listed.setIfInBounds i true).getD c false=false->F w')∧aL P ops Q F c fuel (listed.setIfInBounds i true) (a.put (some d) x) w'):aL P ops Q F c (fuel+1) listed a w:=
 jq i d hi h hd (by simp [Region.wanted,hg]) hr he
theorem pL {listed:Array Bool} {a:Act} {w:World} (hr:Region.ready .any ops listed=[]) (h:Q .normal a w):∀fuel,aL P ops Q F c fuel listed a w
 | 0=>⟨hr,h⟩
 | _+1=>⟨fun _=>h,by rw [hr];simp⟩
theorem de {fuel:Nat} {listed:Array Bool} {a:Act} {w:World} (h:Q .normal a w) (hr:Region.ready .any ops listed=[]:=by kernel_rfl):aL P ops Q F c fuel listed a w:=pL hr h _
theorem dM {fuel:Nat} {listed:Array Bool} {a:Act} {w w':World} (i x y:Nat) {o:Oper} {T:TypeId} {b off:Nat} {V:Value} (hi:ops[i]?=some o) (hl:(Instr.storeAt T (PT b off) V).run P w=.ok () w') (h:aL P ops Q F c fuel (listed.setIfInBounds i true) a w')
 (hop:o.op=.store T (.tmp x) (.tmp y):=by kernel_rfl) (hg:o.guard=none:=by kernel_rfl) (hd:o.dst=none:=by kernel_rfl) (hr:Region.ready .any ops listed=[i]:=by kernel_rfl) (hx:a.eval (.tmp x)=PT b off:=by kernel_rfl) (hy:a.eval (.tmp y)=V:=by kernel_rfl)
 (hS:(listed.setIfInBounds i true).getD c false=true∨F w':=by exact .inl (by kernel_rfl)):aL P ops Q F c (fuel+1) listed a w:=ug i hi hop hg hd hr hx hy hl hS h
theorem jr {fuel:Nat} {listed:Array Bool} {a:Act} {w:World} (i:Nat) {o:Oper} (hi:ops[i]?=some o) (h:wpList P ops Q [o] a w) (hg:Region.wanted o (yielded ops a.tmps)=true:=by kernel_rfl) (hr:Region.ready .any ops listed=[i]:=by kernel_rfl)
 (hr2:Region.ready .any ops (listed.setIfInBounds i true)=[]:=by kernel_rfl) (hc:(listed.setIfInBounds i true).getD c false=true:=by kernel_rfl):aL P ops Q F c (fuel+1) listed a w:=by
 refine fW i hr ?_;unfold wpOp;simp only [hi];unfold wpList at h;rw [if_pos hg] at h |-;rcases h with h | h
 ·exact .inl (Oper.wp_mono (fun a' w' hQ=>⟨fun h0=>(by rw [hc] at h0;cases h0),pL hr2 hQ _⟩) h)
 ·exact .inr h
theorem ax {id:Nat} {a:Act} {w:World} (F:World->Prop) (c:Nat) (h:aL P ops Q F c ops.size (Array.replicate ops.size false) a w.drew) (hm:P.follows .mixedOrders=true:=by kernel_rfl):(Code.region id ops true).wp P Q a w:=
 wp_region_any hm (ot _ _ _ _ h)
end
theorem Fe {P:Program} {fn:Func} {R:Ending->World->Prop} {a:Act} {w:World} {s t:Tmp} {T:TypeId} {b:Nat} {V W:Value} (hr:fn.results=#[ResultVar.cell s T,ResultVar.tmp t]) (hs:a.tmps[s]?=some (PT b 0)) (ht:a.tmps[t]?=some W) (hl:(loadVar T (AD b 0)).run P w=.ok V w) (hd:a.defers=[]) (hR:R (.returned (.tuple #[V,W])) w):bodyPost P fn R .ret a w:=by
 refine bodyPost_ret (v:=.tuple #[V,W]) ?_ hd hR;simp [results,hr,hs,ht,asAddr,hl]
section
variable {P:Program} {ops:Array Oper} {Q:Exit->Act->World->Prop} {F:World->Prop} {c:Nat}
theorem xQ {fuel:Nat} {listed:Array Bool} {a:Act} {w w':World} (i:Nat) {o:Oper} (d:Tmp) (v:Value) (hd:o.dst=some d) (hi:ops[i]?=some o) (hg:o.guard=none) (hr:Region.ready .any ops listed=[i]) (he:(execOp a.eval o).run P w=.ok (.value v) w')
 (hS:(listed.setIfInBounds i true).getD c false=false->F w') (h:aL P ops Q F c fuel (listed.setIfInBounds i true) (a.put (some d) v) w'):aL P ops Q F c (fuel+1) listed a w:=by
 refine fW i hr ?_;unfold wpOp;simp only [hi];rw [if_pos (by simp [Region.wanted,hg])];refine .inl ?_;unfold Oper.wp;rw [he];refine ⟨hS,?_⟩;rw [hd];exact h
theorem gF {fuel:Nat} {listed:Array Bool} {a:Act} {w w':World} (i:Nat) {o:Oper} (d:Tmp) (v:Value) (hi:ops[i]?=some o) (hS:(listed.setIfInBounds i true).getD c false=false->F w') (h:aL P ops Q F c fuel (listed.setIfInBounds i true) (a.put (some d) v) w')
 (hd:o.dst=some d:=by kernel_rfl) (hg:o.guard=none:=by kernel_rfl) (hr:Region.ready .any ops listed=[i]:=by kernel_rfl) (he:(execOp a.eval o).run P w=.ok (.value v) w':=by kernel_rfl):aL P ops Q F c (fuel+1) listed a w:=xQ i d v hd hi hg hr he hS h
end
theorem Dp {P:Program} {ops:Array Oper} {Q:Exit->Act->World->Prop} {K:Act->World->Prop} {a:Act} {w:World} (i:Nat) {o:Oper} (d:Tmp) (hd:o.dst=some d) (hi:ops[i]?=some o) (hg:o.guard=none) {f:FuncId} {args:Array Value} (he:(execOp a.eval o).run P w=.ok (.enter f args) w)
 (h:Calls P f args w fun e w'=>∃x,e=.returned x∧K (a.put (some d) x) w'):wpOp P ops Q i K a w:=by
 unfold wpOp;simp only [hi];rw [if_pos (by simp [Region.wanted,hg])];refine .inl ?_;unfold Oper.wp;rw [he];refine h.mono ?_;rintro e w' ⟨x,rfl,h2⟩;rw [hd];exact h2
theorem ld {P:Program} {ops:Array Oper} {Q:Exit->Act->World->Prop} {K:Act->World->Prop} {a:Act} {w w':World} (i:Nat) {o:Oper} (d:Tmp) (v:Value) (hd:o.dst=some d) (hi:ops[i]?=some o) (hg:o.guard=none) (he:(execOp a.eval o).run P w=.ok (.value v) w')
 (h:K (a.put (some d) v) w'):wpOp P ops Q i K a w:=by
 unfold wpOp;simp only [hi];rw [if_pos (by simp [Region.wanted,hg])];refine .inl ?_;unfold Oper.wp;rw [he];show K (a.put o.dst v) w';rw [hd];exact h
theorem xR {P:Program} {ops:Array Oper} {Q:Exit->Act->World->Prop} {F:World->Prop} {c:Nat} {fuel:Nat} {listed:Array Bool} {a:Act} {w:World} (i j:Nat) (hr:Region.ready .any ops listed=[i,j])
 (hi:wpOp P ops Q i (fun a' w'=>((listed.setIfInBounds i true).getD c false=false->F w')∧aL P ops Q F c fuel (listed.setIfInBounds i true) a' w') a w)
 (hj:wpOp P ops Q j (fun a' w'=>((listed.setIfInBounds j true).getD c false=false->F w')∧aL P ops Q F c fuel (listed.setIfInBounds j true) a' w') a w):aL P ops Q F c (fuel+1) listed a w:=
 ⟨fun h0=>(by rw [hr] at h0;cases h0),fun k hk=>by
  rw [hr] at hk;simp only [List.mem_cons,List.not_mem_nil,or_false] at hk;rcases hk with rfl | rfl
  ·exact hi
  ·exact hj⟩
theorem nv {a:Act} {d e:Tmp} {u v:Value} (h:d≠e):(a.put (some d) u).put (some e) v=(a.put (some e) v).put (some d) u:=by
 show Act.mk _ _=Act.mk _ _;congr 1;exact Array.setIfInBounds_comm _ _ h
theorem GZ {P:Program} {ops:Array Oper} {Q:Exit->Act->World->Prop} {F:World->Prop} {c:Nat} {fuel:Nat} {listed L:Array Bool} {a:Act} {w:World} (k j:Nat) {ok oj:Oper} (dk dj:Tmp) {Z:Array Value} {T:TypeId} {g:FuncId} {brgs:Array Value} (R:World->Value->World->Prop)
 (ek:ops[k]?=some ok) (ej:ops[j]?=some oj) (dd:ok.dst=some dk∧oj.dst=some dj∧dk≠dj) (hg:ok.guard=none∧oj.guard=none)
 (r1:Region.ready .any ops listed=[k,j]) (r2:Region.ready .any ops (listed.setIfInBounds k true)=[j]) (r5:Region.ready .any ops (listed.setIfInBounds j true)=[k])
 (l1:(listed.setIfInBounds k true).setIfInBounds j true=L) (l2:(listed.setIfInBounds j true).setIfInBounds k true=L)
 (xk:∀u,(execOp a.eval ok).run P u=.ok (.enter g brgs) u) (xk':∀p u,(execOp (a.put (some dj) p).eval ok).run P u=.ok (.enter g brgs) u)
 (xj:∀b u,(execOp b oj).run P u=.ok (.value (PT u.heap.size 0)) (u.alloc (.cells Z T)))
 (hF:∀u,Bw w u->F u) (ck:∀u,Bw w u->Calls P g brgs u fun e w'=>(∃y,e=.returned y∧R u y w')∧Bw u w')
 (h:∀y p u v v',Bw w u->R u y v->Bw v v'->(p<u.heap.size∨v.heap.size<=p)->w.heap.size<=p->v'.heap[p]?=some (.cells Z T (0,0))->Bw w v'->aL P ops Q F c fuel L ((a.put (some dk) y).put (some dj) (PT p 0)) v'):aL P ops Q F c (fuel+2) listed a w:=by
 obtain ⟨hdk,hdj,n2⟩:=dd;obtain ⟨gk,gj⟩:=hg;have m1:=Below.refl w.heap.size w;refine xR k j r1 ?_ ?_
 ·refine Dp k dk hdk ek gk (xk w) ((ck w m1).mono ?_);rintro e u2 ⟨⟨y,rfl,hy⟩,m2⟩;refine ⟨y,rfl,fun _=>hF u2 m2,?_⟩;have A:=(ew u2 Z T).2.2;refine xQ j dj _ hdj ej gj r2 (xj _ _) (fun _=>hF _ (bst m2 A)) ?_;rw [l1];exact h y _ w u2 _ m1 hy A (.inr nle) m2.size (ew u2 Z T).1 (bst m2 A)
 ·have A:=(ew w Z T).2.2;refine ld j dj _ hdj ej gj (xj _ _) ⟨fun _=>hF _ A,?_⟩;refine Ed k dk hdk ek gk r5 (xk' _ _) ((ck _ A).mono ?_);rintro e u2 ⟨⟨y,rfl,hy⟩,m2⟩;have z:=(ew w Z T).2.1;have m12:=bst A m2;refine ⟨y,rfl,fun _=>hF u2 m12,?_⟩;rw [l2,nv (Ne.symm n2)];exact h y _ _ u2 u2 A hy brf (.inl (by omega)) nle (ag (ew w Z T).1 m2 (by omega)) m12
theorem Io {P:Program} {ops:Array Oper} {Q:Exit->Act->World->Prop} {F:World->Prop} {c:Nat} {fuel:Nat} {listed L:Array Bool} {a:Act} {w:World} (i k j:Nat) {oi ok oj:Oper} (di dk dj:Tmp) (x:Value) {Z:Array Value} {T:TypeId} {f g:FuncId} {args brgs:Array Value} (R:World->Value->World->Prop)
 (ei:ops[i]?=some oi) (ek:ops[k]?=some ok) (ej:ops[j]?=some oj) (dd:oi.dst=some di∧ok.dst=some dk∧oj.dst=some dj∧di≠dj∧dk≠dj) (hg:oi.guard=none∧ok.guard=none∧oj.guard=none)
 (r0:Region.ready .any ops listed=[i,j]) (r1:Region.ready .any ops (listed.setIfInBounds i true)=[k,j]) (r2:Region.ready .any ops ((listed.setIfInBounds i true).setIfInBounds k true)=[j]) (r3:Region.ready .any ops (listed.setIfInBounds j true)=[i]) (r4:Region.ready .any ops ((listed.setIfInBounds j true).setIfInBounds i true)=[k]) (r5:Region.ready .any ops ((listed.setIfInBounds i true).setIfInBounds j true)=[k])
 (l1:((listed.setIfInBounds i true).setIfInBounds k true).setIfInBounds j true=L) (l2:((listed.setIfInBounds i true).setIfInBounds j true).setIfInBounds k true=L) (l3:((listed.setIfInBounds j true).setIfInBounds i true).setIfInBounds k true=L)
 (xi:∀u,(execOp a.eval oi).run P u=.ok (.enter f args) u) (xi':∀p u,(execOp (a.put (some dj) p).eval oi).run P u=.ok (.enter f args) u) (xk:∀u,(execOp (a.put (some di) x).eval ok).run P u=.ok (.enter g brgs) u) (xk':∀p u,(execOp ((a.put (some di) x).put (some dj) p).eval ok).run P u=.ok (.enter g brgs) u)
 (xj:∀b u,(execOp b oj).run P u=.ok (.value (PT u.heap.size 0)) (u.alloc (.cells Z T)))
 (hF:∀u,Bw w u->F u) (ci:∀u,Bw w u->Calls P f args u fun e w'=>e=.returned x∧Bw u w') (ck:∀u,Bw w u->Calls P g brgs u fun e w'=>(∃y,e=.returned y∧R u y w')∧Bw u w')
 (h:∀y p u v v',Bw w u->R u y v->Bw v v'->(p<u.heap.size∨v.heap.size<=p)->w.heap.size<=p->v'.heap[p]?=some (.cells Z T (0,0))->Bw w v'->aL P ops Q F c fuel L (((a.put (some di) x).put (some dk) y).put (some dj) (PT p 0)) v'):aL P ops Q F c (fuel+3) listed a w:=by
 obtain ⟨hdi,hdk,hdj,n1,n2⟩:=dd;obtain ⟨gi,gk,gj⟩:=hg;have AL:∀u,Bw w u->Bw w (u.alloc (.cells Z T))∧Bw u (u.alloc (.cells Z T)):=fun u hu=>⟨bst hu (ew u Z T).2.2,(ew u Z T).2.2⟩;have b0:=Below.refl w.heap.size w;refine xR i j r0 ?_ ?_
 ·refine Dp i di hdi ei gi (xi w) ((ci w b0).mono ?_);rintro e u1 ⟨rfl,m1⟩;refine ⟨x,rfl,fun _=>hF u1 m1,?_⟩;refine GZ k j dk dj R ek ej ⟨hdk,hdj,n2⟩ ⟨gk,gj⟩ r1 r2 r5 l1 l2 xk xk' xj (fun u hu=>hF u (bst m1 hu)) (fun u hu=>ck u (bst m1 hu)) ?_;intro y p u v v' hu hy hb hp hpb hz hn;exact h y p u v v' (bst m1 hu) hy hb hp (Nat.le_trans m1.size hpb) hz (bst m1 hn)
 ·have A:=AL w b0;refine ld j dj _ hdj ej gj (xj _ _) ⟨fun _=>hF _ A.1,?_⟩;refine Ed i di hdi ei gi r3 (xi' _ _) ((ci _ A.1).mono ?_);rintro e u1 ⟨rfl,m1⟩;have m01:=bst A.1 m1;refine ⟨x,rfl,fun _=>hF u1 m01,?_⟩;rw [nv (Ne.symm n1)];refine Ed k dk hdk ek gk r4 (xk' _ _) ((ck _ m01).mono ?_);rintro e u2 ⟨⟨y,rfl,hy⟩,m2⟩;have z:=(ew w Z T).2.1;have zz:=m1.size;have m12:=bst m01 m2;refine ⟨y,rfl,fun _=>hF u2 m12,?_⟩;rw [l3,nv (Ne.symm n2)];exact h y _ _ u2 u2 m01 hy brf (.inl (by omega)) nle (ag (ag (ew w Z T).1 m1 (by omega)) m2 (by omega)) m12
theorem Ai {P:Program} {ops:Array Oper} {Q:Exit->Act->World->Prop} {F:World->Prop} {c:Nat} (i:Nat) {oi:Oper} (d:Tmp) (v:Value) {fuel:Nat} {listed:Array Bool} {a:Act} {w:World} (hi:ops[i]?=some oi) (hS:listed.getD c false=true∨F w)
 (h:aL P ops Q F c fuel (listed.setIfInBounds i true) (a.put (some d) v) w)
 (hb:(Region.noSelect ops && it ops listed && Region.free .any ops listed i && (Region.ready .any ops listed).contains i && (i != c) && Region.wanted oi (yielded ops a.tmps) && (oi.dst == some d))=true:=by kernel_rfl)
 (hQ:∀x a w,Q (.panic x) (a.put oi.dst v) w->Q (.panic x) a w:=by exact fun _ _ _ h=>h) (hy:∀u,(execOp a.eval oi).run P u=.ok (.value v) u:=by intro u;kernel_rfl):aL P ops Q F c (fuel+1) listed a w:=by
 simp only [Bool.and_eq_true] at hb;obtain ⟨⟨⟨⟨⟨⟨h1,h2⟩,h3⟩,h4⟩,h5⟩,h7⟩,h8⟩:=hb;exact Hx i d v hi h1 h2 h3 h4 h5 hQ h7 hy hS (by simpa using h8) h
theorem IF {P:Program} {ops:Array Oper} {Q:Exit->Act->World->Prop} {F:World->Prop} {c:Nat} {fuel:Nat} {listed L:Array Bool} {a:Act} {w:World} (k j:Nat) {ok oj:Oper} (dk dj:Tmp) {Z:Array Value} {T:TypeId} {g:FuncId} {brgs:Array Value} (R:World->Value->World->Prop)
 (ek:ops[k]?=some ok) (ej:ops[j]?=some oj) (l1:(listed.setIfInBounds k true).setIfInBounds j true=L)
 (hF:∀u,Bw w u->F u) (ck:∀u,Bw w u->Calls P g brgs u fun e w'=>(∃y,e=.returned y∧R u y w')∧Bw u w')
 (h:∀y p u v v',Bw w u->R u y v->Bw v v'->(p<u.heap.size∨v.heap.size<=p)->w.heap.size<=p->v'.heap[p]?=some (.cells Z T (0,0))->Bw w v'->aL P ops Q F c fuel L ((a.put (some dk) y).put (some dj) (PT p 0)) v')
 (dd:(ok.dst == some dk && oj.dst == some dj && dk != dj && ok.guard.isNone && oj.guard.isNone)=true:=by kernel_rfl)
 (r1:Region.ready .any ops listed=[k,j]:=by kernel_rfl) (r2:Region.ready .any ops (listed.setIfInBounds k true)=[j]:=by kernel_rfl) (r5:Region.ready .any ops (listed.setIfInBounds j true)=[k]:=by kernel_rfl) (l2:(listed.setIfInBounds j true).setIfInBounds k true=L:=by kernel_rfl)
 (xk:∀u,(execOp a.eval ok).run P u=.ok (.enter g brgs) u:=by intro u;kernel_rfl) (xk':∀p u,(execOp (a.put (some dj) p).eval ok).run P u=.ok (.enter g brgs) u:=by intro p u;kernel_rfl)
 (xj:∀b u,(execOp b oj).run P u=.ok (.value (PT u.heap.size 0)) (u.alloc (.cells Z T)):=by intro b u;kernel_rfl):aL P ops Q F c (fuel+2) listed a w:=by
 simp only [Bool.and_eq_true,beq_iff_eq,bne_iff_ne,Option.isNone_iff_eq_none] at dd;obtain ⟨⟨⟨⟨d1,d2⟩,d3⟩,g1⟩,g2⟩:=dd;exact GZ k j dk dj R ek ej ⟨d1,d2,d3⟩ ⟨g1,g2⟩ r1 r2 r5 l1 l2 xk xk' xj hF ck h
theorem Cq (p:PtrM) (al:Option Addr) (cl:Nat) (plain:Bool) (pick:Int) (r:RunM) (c t:Int) (w:World):
 Calls Tryz.prog 67 #[.agg (Bb p al cl plain pick r),VI c,VU t] w fun e w'=>e=.returned (.agg (Bb p al cl plain pick (cf r c t)))∧Bw w w':=by
 have hsz:=ef p al cl plain pick r;have h1:=rp p al cl plain pick r;have HE:Hid (((Bb p al cl plain pick r).setIfInBounds 23 (VI c)).setIfInBounds 24 (VU t)=Bb p al cl plain pick (cf r c t)):=rfl;have g23:(Bb p al cl plain pick r)[23]?=some (VI r.cause):=rfl;have g24:(Bb p al cl plain pick r)[24]?=some (VU r.tval):=rfl;generalize Bb p al cl plain pick r=C at *;generalize Bb p al cl plain pick (cf r c t)=D at *;have HO:=hid h1;clear h1;go_enter Tryz.func67,Tryz.ntmps67;go_upto_region 1 with fail;obtain ⟨v1,Ev1,F⟩:=ax2 w C zS 54 54;rw [Ev1.out];clear Ev1;obtain ⟨h3,h6,l1,n1⟩:=F;have H3:Hid _:=h3;have H6:Hid _:=h6;have b1:w.heap.size<v1.heap.size:=by omega
 have f23:=ay h3 23;have f24:=ay h3 24;have c23:=ce h3 23 g23;have c24:=ce h3 24 g24;clear h3 h6;have hz:=cZ;have HL:Hid ((Instr.loadAt 54 (PT w.heap.size 0)).run Tryz.prog ((v1.setCell (AD w.heap.size 23) (VI c)).setCell (AD w.heap.size 24) (VU t))=.ok (.agg ((C.setIfInBounds 23 (VI c)).setIfInBounds 24 (VU t))) ((v1.setCell (AD w.heap.size 23) (VI c)).setCell (AD w.heap.size 24) (VU t))):=ey (cV (cV H3.out 23 _) 24 _) Tryz.underlying54 rfl (by simp only [Array.size_setIfInBounds,hsz];exact po);have HS:Hid _:=dh (P:=Tryz.prog) (T:=54) (V:=(C.setIfInBounds 23 (VI c)).setIfInBounds 24 (VU t)) (qV (qV H6.out 23 (VI c) (show w.heap.size+1≠w.heap.size by omega)) 24 (VU t) (show w.heap.size+1≠w.heap.size by omega)) (by simp only [Array.size_setIfInBounds,hsz];exact po) (by simp only [Array.size_setIfInBounds,hsz,hz]) (Dw (Dw HO.out _ rfl) _ rfl);go_wp2_with (first
  | ((with_reducible refine ja ?_ HL.out ?_);(exact rfl))
  | ((with_reducible refine bI ?_ ?_ HS.out ?_);(exact rfl);(exact rfl)))
 have hD:D.size=31:=by rw [<-HE.out];simp only [Array.size_setIfInBounds,hsz]
 have e1:=cD (V:=(C.setIfInBounds 23 (VI c)).setIfInBounds 24 (VU t)) (qV (qV H6.out 23 (VI c) (show w.heap.size+1≠w.heap.size by omega)) 24 (VU t) (show w.heap.size+1≠w.heap.size by omega)) (by rw [HE.out,hD,hz]);have e2:=dn (show w.heap.size<=w.heap.size+1 by omega) ((C.setIfInBounds 23 (VI c)).setIfInBounds 24 (VU t)).toList 0 _ (eO (eO n1 nle 23 (VI c)) nle 24 (VU t));rw [HE.out] at e1 e2 |-;generalize ((v1.setCell (AD w.heap.size 23) (VI c)).setCell (AD w.heap.size 24) (VU t)).setCells (w.heap.size+1) 0 D.toList=v2 at e1 e2 |-;exact tp (b:=w.heap.size+1) Tryz.results67 rfl (dR (P:=Tryz.prog) e1 Tryz.underlying54 rfl (by rw [hD];exact po)) rfl ⟨rfl,e2⟩
theorem Eg (p:PtrM) (h:HartM) (w:World):
 Calls Tryz.prog 34 #[.agg (aA p h)] w fun e w'=>e=.returned (Bz h.mode h.sum h.mxr h.satp)∧Bw w w':=by
 have hsz:=gI p h;have g3:(aA p h)[3]?=some (VI h.mode):=rfl;have g4:(aA p h)[4]?=some (.bool h.sum):=rfl;have g5:(aA p h)[5]?=some (.bool h.mxr):=rfl;have g6:(aA p h)[6]?=some (VU h.satp):=rfl;generalize aA p h=C at *;unfold Bz;go_enter Tryz.func34,Tryz.ntmps34;go_upto_region 1 with fail;obtain ⟨v1,Ev1,F⟩:=ax2 w C #[VI 0,.bool false,.bool false,VU 0] 44 110;rw [Ev1.out];clear Ev1;obtain ⟨h3,h6,l1,n1⟩:=F;have c3:=ce h3 3 g3;have c4:=ce h3 4 g4;have c5:=ce h3 5 g5;have c6:=ce h3 6 g6;have k0:=ce h6 0 (v:=VI 0) rfl;have k1:=ce h6 1 (v:=.bool false) rfl;have k2:=ce h6 2 (v:=.bool false) rfl;have k3:=ce h6 3 (v:=VU 0) rfl;have f0:=ay h6 0;have f1:=ay h6 1;have f2:=ay h6 2;have f3:=ay h6 3;have ne1:w.heap.size≠w.heap.size+1:=by omega
 have ne2:w.heap.size+1≠w.heap.size:=by omega
 have b1:w.heap.size<v1.heap.size:=by omega
 have b2:w.heap.size+1<v1.heap.size:=by omega
 clear h3 h6;go_wp2_with fail;exact bodyPost_ret (v:=.agg #[VI h.mode,.bool h.sum,.bool h.mxr,VU h.satp]) (by simp [results,Tryz.results34,go_sem,k0,k1,k2,k3]) rfl ⟨rfl,eO (eO (eO (eO n1 (by omega) _ _) (by omega) _ _) (by omega) _ _) (by omega) _ _⟩
theorem DS (satp:Int) (w:World) (h0:0<=satp) (h1:satp<=18446744073709551615):
 Calls Tryz.prog 29 #[VU satp] w fun e w'=>e=.returned (.bool (cW satp))∧Bw w w':=by
 have HS:Hid (cW satp=(satp/1152921504606846976%16 == 0 || satp/1152921504606846976%16 == 8)):=rfl;have HB:Hid (∀u,Calls Tryz.prog 64 #[VU satp,VI 60,VI 63] u fun e w'=>e=.returned (VU (satp/1152921504606846976%16))∧∃n,w'=u.drewN n):=fun u=>en satp 60 63 _ _ u h0 h1 (by omega) (by omega) (by omega) (by omega) (by decide) (by decide);generalize cW satp=q at *;generalize satp/1152921504606846976%16=x at *;by_cases hx:x=0
 ·subst hx;have hq:q=true:=by rw [HS.out];rfl
  subst hq;go_enter Tryz.func29,Tryz.ntmps29;go_wp2_with fail;refine (HB.out w).mono ?_;rintro e v1 ⟨rfl,n,rfl⟩;go_wp2;go_ret;exact ⟨rfl,below_drewN brf n⟩
 ·have hx':(x == 0)=false:=by simpa using hx
  go_enter Tryz.func29,Tryz.ntmps29;go_wp2_with fail;refine (HB.out w).mono ?_;rintro e v1 ⟨rfl,n,rfl⟩;go_wp2_with fail;refine (HB.out _).mono ?_;rintro e v2 ⟨rfl,m,rfl⟩;go_wp2;go_ret;exact ⟨aR (by rw [HS.out,hx'];simp),below_drewN brf (n+m)⟩
theorem DT (a:Option Addr) (len cap:Nat) (zs:List Int) (i:Nat) (w:World) (h:Byt w a len zs) (hl:len<=1048576) (hi:i<=9223372036854775807):
 Calls Tryz.prog 27 #[.slice a len cap,VI i] w fun e w'=>e=.returned (VI (atM zs i))∧w'=w:=by
 obtain ⟨h1,h2,h3⟩:=h;by_cases hlt:i<len
 ·rcases h3 with h3 | ⟨b,off,rfl,hbw,hc⟩
  ·omega
  have g1:=hc i hlt;have g2:=h2 i;have HA:Hid (zs[i]?.getD 0=atM zs i):=rfl;generalize zs[i]?.getD 0=x at g1 g2 HA;clear hc h2;go_enter Tryz.func27,Tryz.ntmps27;go_wp2;go_ret;exact ⟨eQ HA.out,rfl⟩
 ·have HA:Hid (atM zs i=0):=by
   show zs[i]?.getD 0=0;rw [List.getElem?_eq_none (by omega)];rfl
  clear h2 h3;go_enter Tryz.func27,Tryz.ntmps27;go_wp2;go_ret;exact ⟨eQ HA.out.symm,rfl⟩
theorem Tryz.infoU:(Tryz.prog.info? 33).map (fun i=>(i.zero,i.size,i.bytes))=some (some (VU 0),1,8):=by kernel_rfl
theorem DX (zs:List Int):∀u∈cF zs,u.oneCell'=true:=by
 intro u hu;obtain ⟨_,_,rfl⟩:=List.mem_map.1 hu;rfl
theorem vJ (zs:List Int) (i:Nat) (x:Int):(cF zs).set i (VU x)=cF (zs.set i x):=by simp [cF,List.map_set]
theorem xE (zs:List Int) (i:Nat) (h:i<zs.length):(cF zs)[i]?=some (VU (zs[i]?.getD 0)):=by
 simp [cF,h]
def Gd (p:PtrM) (g cap:Nat):PtrM:=⟨p.am,p.cm,some (AD g 0),cap,p.a1,p.c1,p.a2,p.c2,p.a3,p.c3⟩
theorem RunIn.reg {w w':World} {p:PtrM} {al:Option Addr} {cl:Nat} {r:RunM} {rs:List Int} {g cap:Nat} (k:RunIn w p al cl r) (hb:Bw w w') (hr:RowC w' (some (AD g 0)) rs.length 1 (cF rs)) (hc:rs.length<=cap∧cap<=9223372036854775807) (hlt:g<w'.heap.size):
 RunIn w' (Gd p g cap) al cl (el r (fy r.h rs)):=
 ⟨⟨k.h.mem.keep hb,k.h.memc,hr,hc,⟨fun h=>(by cases h),fun q hq=>by cases hq;rfl⟩,k.h.ks.keep hb,fun q hq=>by
  simp only [dW,Gd,List.mem_cons,List.not_mem_nil,or_false] at hq;have hl:=fun q hq=>ltl (k.h.low q hq) hb.size;rcases hq with hq | hq | hq | hq | hq
  ·exact hl q (by simp [dW,hq])
  ·cases hq;exact hlt
  ·exact hl q (by simp [dW,hq])
  ·exact hl q (by simp [dW,hq])
  ·exact hl q (by simp [dW,hq])⟩,k.looks.keep hb,k.lookc,k.looka,k.lookl,fun q hq=>ltl (k.low q hq) hb.size⟩
theorem FH {B g cap:Nat} {p:PtrM} (h:B<=g):From B p (Gd p g cap):=fun q hq=>by
 simp only [dW,Gd,List.mem_cons,List.not_mem_nil,or_false] at hq;rcases hq with hq | hq | hq | hq | hq
 ·exact .inl (by simp [dW,hq])
 ·cases hq;exact .inr h
 ·exact .inl (by simp [dW,hq])
 ·exact .inl (by simp [dW,hq])
 ·exact .inl (by simp [dW,hq])
theorem Ck (p:PtrM) (al:Option Addr) (cl:Nat) (plain:Bool) (pick:Int) (r:RunM) (a x:Int) (w:World) (hr:RunIn w p al cl r) (ha:0<=a) (ha':a.toNat<r.h.regs.length) (hl:r.h.regs.length<=1048576):
 Calls Tryz.prog 94 #[.agg (Bb p al cl plain pick r),VI a,VU x] w fun e w'=>(∃p',e=.returned (.agg (Bb p' al cl plain pick (cE r a x)))∧RunIn w' p' al cl (cE r a x)∧From w.heap.size p p')∧Bw w w':=by
 obtain ⟨n,rfl⟩:=Int.eq_ofNat_of_zero_le ha;have HI:=hid hr;have HA:=hid ha';have HR:=hid hr.h.regs;have HRa:=hid hr.h.rega;have HP:Hid (∀g cap rs,rs.length=r.h.regs.length->(Bb p al cl plain pick r).setIfInBounds 1 (SL g r.h.regs.length cap)=Bb (Gd p g cap) al cl plain pick (el r (fy r.h rs))):=fun g cap rs hl=>by
  unfold Bb Gd el fy;simp [hl]
 have HM:Hid (cE r (n:Int) x=el r (fy r.h (if 0<(n:Int) then r.h.regs.set n x else r.h.regs))):=rfl;have hsz:=ef p al cl plain pick r;have g1:(Bb p al cl plain pick r)[1]?=some (.slice p.ar r.h.regs.length p.cr):=rfl;have HO:=hid (rp p al cl plain pick r);generalize hC:Bb p al cl plain pick r=C at *;have hlen:=hl;generalize hN:r.h.regs.length=N at *;have hn:=HA.out;clear hr hC ha ha';go_enter Tryz.func94,Tryz.ntmps94;go_upto_region 1 with fail;obtain ⟨v1,Ev1,F⟩:=ax2 w C zS 54 54;rw [Ev1.out];clear Ev1;obtain ⟨h3,h6,l1,n1⟩:=F;have H3:Hid _:=h3;have H6:Hid _:=h6;have b1:w.heap.size<v1.heap.size:=by omega
 have b2:w.heap.size+1<v1.heap.size:=by omega
 have c1:=ce h3 1 g1;have OE:=OwnC.new 33 1 v1 [] 0 rfl (by decide);have nE:=(Below.refl v1.heap.size v1).alloc nle (Obj.cells #[] 33);clear h3 h6 l1;go_upto_region 2 with (at_builtin;refine BP _ rfl (.tmp 8) (.tmp 11) 32 rfl 33 Tryz.underlying32 (VU 0) 1 8 Tryz.infoU rfl (by decide) v1.heap.size v1.heap.size 0 0 [] rfl OE p.ar N p.cr (cF r.h.regs) rfl HRa.out.1 HRa.out.2 (RowC.keep (RowC.keep HR.out n1) nE) (DX _) (by omega) (by omega) v1.heap.size v1 nE nle ?_;intro g2 cap2 v2 o2 n2;clear OE nE c1);simp only [Nat.zero_add,List.nil_append] at o2 |-;have f2:=o2.facts;have K3:Hid _:=ag H3.out n2 b1;have K6:Hid _:=ag H6.out n2 b2;have n12:=bst n1 n2;have z2:=n2.size;have hcap:(cap2:Int)<=9223372036854775807:=by have:=f2.2.2.2.2;unfold maxLen at this;omega
 have HM2:Hid (cap2<=9223372036854775807):=by have:=f2.2.2.2.2;unfold maxLen at this;exact this
 have hNc:=f2.2.2.2.1;have hg1:=f2.2.1;have hg2:=f2.2.2.1;clear f2 H3 H6 n1 n2 HR HRa;have b5:w.heap.size<v2.heap.size:=by omega
 have q1:=ce K3.out 1 g1;have q2:=ay K3.out 1;have ng:w.heap.size≠g2:=by omega
 have ng':g2≠w.heap.size:=by omega
 by_cases h0:0<n
 ·have h0':(0:Int)<(n:Int):=by omega
  have HM1:Hid (cE r (n:Int) x=el r (fy r.h (r.h.regs.set n x))):=by
   have hm:=HM.out;rw [if_pos h0'] at hm;exact hm
  have s1:=aK o2 n _ (xE r.h.regs n (by omega));have s2:=aT o2 n;have O3:Hid (OwnC 33 1 (v2.setCell (AD g2 n) (VU x)) v1.heap.size g2 N cap2 (cF (r.h.regs.set n x))):=by
   have:=aJ o2 n (VU x);rw [vJ] at this;exact this
  have K3':Hid _:=qV K3.out n (VU x) (show w.heap.size≠g2 by omega);have K6':Hid _:=qV K6.out n (VU x) (show w.heap.size+1≠g2 by omega);have n3:=eO n12 (show w.heap.size<=g2 by omega) n (VU x);go_upto_region 4 with fail;generalize v2.setCell (AD g2 n) (VU x)=v3 at O3 K3' K6' n3 |-;clear q1 q2 s1 s2;have q1:=ce K3'.out 1 g1;have q2:=ay K3'.out 1;have b6:=(hpl K3'.out);go_upto_region 5 with fail;have K3q:Hid _:=cV K3'.out 1 (SL g2 N cap2);have K6q:Hid _:=qV K6'.out 1 (SL g2 N cap2) (show w.heap.size+1≠w.heap.size by omega);have n4:=eO n3 nle 1 (SL g2 N cap2);have O4:Hid _:=OwnC.gb O3.out (aj (cC v3 (some w.heap.size)) 1 (SL g2 N cap2)) ng';have HV:Hid _:=HP.out g2 cap2 (r.h.regs.set n x) (by simp [hN]);have hV:(C.setIfInBounds 1 (SL g2 N cap2)).size=31:=by simp only [Array.size_setIfInBounds,hsz]
  generalize v3.setCell (AD w.heap.size 1) (SL g2 N cap2)=v4 at K3q K6q n4 O4 |-;have hone:=Dw HO.out 1 (v:=SL g2 N cap2) rfl;generalize C.setIfInBounds 1 (SL g2 N cap2)=D at K3q HV hV hone;have HLr:Hid _:=ey (P:=Tryz.prog) (T:=54) K3q.out Tryz.underlying54 rfl (by rw [hV];exact po);have HSr:Hid _:=dh (P:=Tryz.prog) (T:=54) (V:=D) K6q.out (by rw [hV];exact po) (by rw [hV,cZ]) hone;have e1:=cD (V:=D) K6q.out (by rw [hV,cZ]);have e2:=dn (show w.heap.size<=w.heap.size+1 by omega) (D).toList 0 _ n4;have eG:=bK (w.heap.size+1) (D).toList 0 v4 v4 (cC v4 _);go_wp2_with (first
   | ((with_reducible refine ja ?_ HLr.out ?_);(exact rfl))
   | ((with_reducible refine bI ?_ ?_ HSr.out ?_);(exact rfl);(exact rfl)))
  refine tp (b:=w.heap.size+1) Tryz.results94 rfl (dR (P:=Tryz.prog) e1 Tryz.underlying54 rfl (by rw [hV];exact po)) rfl ?_;rw [HM1.out];exact ⟨⟨Gd p g2 cap2,by rw [HV.out],RunIn.reg (rs:=r.h.regs.set n x) HI.out e2 (by rw [List.length_set,hN];exact (OwnC.gb O4.out eG (by omega)).row) (by rw [List.length_set,hN];exact ⟨hNc,HM2.out⟩) (OwnC.facts (OwnC.gb O4.out eG (show g2≠w.heap.size+1 by omega))).2.2.1,FH (by omega)⟩,e2⟩
 ·have h0':¬(0:Int)<(n:Int):=by omega
  have hn0:n=0:=by omega
  have HM1:Hid (cE r (n:Int) x=el r (fy r.h r.h.regs)):=by
   have hm:=HM.out;rw [if_neg h0'] at hm;exact hm
  clear hn0;have O2:Hid _:=o2;clear o2;go_upto_region 5 with fail;have K3q:Hid _:=cV K3.out 1 (SL g2 N cap2);have K6q:Hid _:=qV K6.out 1 (SL g2 N cap2) (show w.heap.size+1≠w.heap.size by omega);have n4:=eO n12 nle 1 (SL g2 N cap2);have O4:Hid _:=OwnC.gb O2.out (aj (cC v2 (some w.heap.size)) 1 (SL g2 N cap2)) ng';have HV:Hid _:=HP.out g2 cap2 r.h.regs hN;have hV:(C.setIfInBounds 1 (SL g2 N cap2)).size=31:=by simp only [Array.size_setIfInBounds,hsz]
  generalize v2.setCell (AD w.heap.size 1) (SL g2 N cap2)=v4 at K3q K6q n4 O4 |-;have hone:=Dw HO.out 1 (v:=SL g2 N cap2) rfl;generalize C.setIfInBounds 1 (SL g2 N cap2)=D at K3q HV hV hone;have HLr:Hid _:=ey (P:=Tryz.prog) (T:=54) K3q.out Tryz.underlying54 rfl (by rw [hV];exact po);have HSr:Hid _:=dh (P:=Tryz.prog) (T:=54) (V:=D) K6q.out (by rw [hV];exact po) (by rw [hV,cZ]) hone;have e1:=cD (V:=D) K6q.out (by rw [hV,cZ]);have e2:=dn (show w.heap.size<=w.heap.size+1 by omega) (D).toList 0 _ n4;have eG:=bK (w.heap.size+1) (D).toList 0 v4 v4 (cC v4 _);go_wp2_with (first
   | ((with_reducible refine ja ?_ HLr.out ?_);(exact rfl))
   | ((with_reducible refine bI ?_ ?_ HSr.out ?_);(exact rfl);(exact rfl)))
  refine tp (b:=w.heap.size+1) Tryz.results94 rfl (dR (P:=Tryz.prog) e1 Tryz.underlying54 rfl (by rw [hV];exact po)) rfl ?_;rw [HM1.out];exact ⟨⟨Gd p g2 cap2,by rw [HV.out],RunIn.reg (rs:=r.h.regs) HI.out e2 (by rw [hN];exact (OwnC.gb O4.out eG (by omega)).row) (by rw [hN];exact ⟨hNc,HM2.out⟩) (OwnC.facts (OwnC.gb O4.out eG (show g2≠w.heap.size+1 by omega))).2.2.1,FH (by omega)⟩,e2⟩
end Go.Proofs.YthdgiakgepmabaaGreat
