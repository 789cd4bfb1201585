import Derived.OrdersHeld
import Derived.Test.YtgnnmgfgfihljaaGreatPk13
namespace Go.Proofs.YtgnnmgfgfihljaaGreat
open Go.RowKit
set_option linter.unusedVariables false
set_option maxHeartbeats 6400000
set_option maxRecDepth 20000
section
variable {P:Program} {ops:Array Oper} {Q:Exit->Act->World->Prop} {F:World->Prop} {c:Nat}
def du (P:Program) (ops:Array Oper) (Q:Exit->Act->World->Prop) (F:World->Prop) (c:Nat):Nat->Array Bool->Act->World->Prop
 | 0,listed,a,w=>Region.ready .any ops listed=[]∧Q .normal a w
 | fuel+1,listed,a,w=>
  (Region.ready .any ops listed=[]->Q .normal a w)∧
  ∀i∈Region.ready .any ops listed,wpOp P ops Q i (fun a' w'=>((listed.setIfInBounds i true).getD c false=false->F w')∧du P ops Q F c fuel (listed.setIfInBounds i true) a' w') a w
theorem qJ:∀(fuel:Nat) (listed:Array Bool) (a:Act) (w:World),du P ops Q F c fuel listed a w->wpAny P .any ops Q fuel listed a w
 | 0,_,_,_,h=>h
 | fuel+1,_,_,_,h=>⟨h.1,fun i hi=>wpOp_mono (fun a' w' h'=>qJ fuel _ a' w' h'.2) (h.2 i hi)⟩
theorem jk {i:Nat} {oi:Oper} {v:Value} (hi:ops[i]?=some oi) (hic:i≠c) (hsel:∀(j:Nat) (o:Oper) cs b,ops[j]?=some o->o.op≠.select cs b)
 (hQ:∀x a w,Q (.panic x) (a.put oi.dst v) w->Q (.panic x) a w):
 ∀(fuel:Nat) (listed:Array Bool) (a:Act) (w:World),Closed ops listed->
  (∀j oj,ops[j]?=some oj->j≠i->listed.getD j true=false->(∀e∈oj.after,Region.binds .any e=true->e.on≠i)->oi.apart ops oj=true)->
  i∈Region.ready .any ops listed->YieldsIf P ops (fun w=>∃l,Closed ops l∧l.getD i true=false∧(l.getD c false=false->F w)) oi v a->(listed.getD c false=false->F w)->
  du P ops Q F c fuel (listed.setIfInBounds i true) (a.put oi.dst v) w->du P ops Q F c (fuel+1) listed a w:=by
 intro fuel
 induction fuel with
 | zero=>
  intro listed a w hc _ hr hy hS H;refine ⟨fun h=>(by rw [h] at hr;cases hr),fun j hj=>?_⟩;by_cases hji:j=i
  ·subst hji;exact hy.wpOp hi ⟨listed,hc,(mem_ready.1 hr).1,hS⟩ ⟨fun h=>hS (by rwa [getD_set_ne false hic] at h),H⟩
  ·have:=ready_mono hj hji;rw [H.1] at this;cases this
 | succ fuel ih=>
  intro listed a w hc hfree hr hy hS H;refine ⟨fun h=>(by rw [h] at hr;cases hr),fun j hj=>?_⟩;by_cases hji:j=i
  ·subst hji;exact hy.wpOp hi ⟨listed,hc,(mem_ready.1 hr).1,hS⟩ ⟨fun h=>hS (by rwa [getD_set_ne false hic] at h),H⟩
  ·have h1:=H.2 j (ready_mono hj hji);obtain ⟨hjun,oj,hoj,hall⟩:=mem_ready.1 hj;have hnot:∀e∈oj.after,Region.binds .any e=true->e.on≠i:=fun e he hb heq=>by
    have h1:=hall e he hb;have h0:=(mem_ready.1 hr).1;rw [heq] at h1;rcases Nat.lt_or_ge i listed.size with h' | h'
    ·simp [h'] at h0 h1;rw [h0] at h1;cases h1
    ·simp [Array.getElem?_eq_none h'] at h1
   have h2:=wpOp_putIf hoj (hfree j oj hoj hji hjun hnot) (fun cs b=>hsel i oi cs b hi) (fun cs b=>hsel j oj cs b hoj) hQ hy h1;have hfree':∀k ok,ops[k]?=some ok->k≠i->(listed.setIfInBounds j true).getD k true=false->
    (∀e∈ok.after,Region.binds .any e=true->e.on≠i)->oi.apart ops ok=true:=fun k ok hk hki hun hno=>by
    refine hfree k ok hk hki ?_ hno;by_cases hjk:j=k
    ·subst hjk;exact hjun
    ·rw [getD_set_ne true hjk] at hun;exact hun
   have hcm:(listed.setIfInBounds i true).setIfInBounds j true=(listed.setIfInBounds j true).setIfInBounds i true:=Array.setIfInBounds_comm _ _ (Ne.symm hji);refine wpOp_mono (fun a' w' h3=>?_) h2;have hF:(listed.setIfInBounds j true).getD c false=false->F w':=fun h=>h3.2.1 (by rw [hcm,getD_set_ne false hic];exact h);refine ⟨hF,ih (listed.setIfInBounds j true) a' w' (hc.set hj) hfree' (ready_mono hr (Ne.symm hji)) h3.1 hF ?_⟩;rw [<-hcm];exact h3.2.2
def pC (ops:Array Oper) (listed:Array Bool):Bool:=
 (List.range ops.size).all fun j=>!listed.getD j false || match ops[j]? with
  | none=>true
  | some o=>o.after.all fun e=>!Region.binds .any e || listed.getD e.on false
theorem gW {listed:Array Bool} (h:pC ops listed=true):Closed ops listed:=by
 intro j oj hj hl e he hb;have h1:=List.all_eq_true.1 h j (List.mem_range.2 (hpl hj));simp only [hj,hl,Bool.not_true,Bool.false_or] at h1;have h2:=Array.all_eq_true_iff_forall_mem.1 h1 e he;simpa [hb] using h2
def nU (ops:Array Oper):Nat->Nat->Nat->Bool
 | 0,c,i=>c == i
 | f+1,c,i=>c == i || (List.range ops.size).any fun j=>Region.waitsFor .any ops c j && nU ops f j i
theorem iz {listed:Array Bool} (hc:Closed ops listed) {i:Nat}:∀(f c:Nat),nU ops f c i=true->listed.getD c false=true->listed.getD i false=true
 | 0,c,h,hl=>by
  have:c=i:=by simpa [nU] using h
  subst this;exact hl
 | f+1,c,h,hl=>by
  simp only [nU,Bool.or_eq_true,beq_iff_eq,List.any_eq_true,Bool.and_eq_true] at h;rcases h with rfl | ⟨j,_,hw,hr⟩
  ·exact hl
  ·exact iz hc f j hr (mU hc hl hw)
theorem aq (i:Nat) {oi:Oper} (d:Tmp) (v:Value) {fuel:Nat} {listed:Array Bool} {a:Act} {w:World} (hi:ops[i]?=some oi) (hs:Region.noSelect ops=true) (hcl:pC ops listed=true) (hf:Region.free .any ops listed i=true) (hr:(Region.ready .any ops listed).contains i=true) (hic:(i != c)=true) (hrc:nU ops ops.size c i=true)
 (hQ:∀x a w,Q (.panic x) (a.put oi.dst v) w->Q (.panic x) a w) (hw:Region.wanted oi (yielded ops a.tmps)=true) (hy:∀u,F u->(execOp a.eval oi).run P u=.ok (.value v) u) (hS:F w)
 (hd:oi.dst=some d) (h:du P ops Q F c fuel (listed.setIfInBounds i true) (a.put (some d) v) w):du P ops Q F c (fuel+1) listed a w:=
 jk hi (by simpa using hic) (Region.noSelect_spec hs) hQ fuel listed a w (gW hcl) (Region.free_spec hi hf) (by simpa using hr)
  (.inl ⟨hw,fun u ⟨l,h1,h2,h3⟩=>hy u (h3 (by
   cases hh:l.getD c false
   ·rfl
   ·have:=iz h1 _ _ hrc hh;rw [kS h2] at this;cases this))⟩) (fun _=>hS) (by rw [hd];exact h)
theorem aPt (a:Act) (d:Tmp) (v:Value):a.put (some d) v={ a with tmps:=a.tmps.setIfInBounds d v }:=rfl
theorem sTa (l:List Value) (i:Nat) (v:Value):l.toArray.setIfInBounds i v=(l.set i v).toArray:=List.setIfInBounds_toArray ..
theorem sCs (x:Value) (l:List Value) (i:Nat) (v:Value):(x::l).set (i+1) v=x::l.set i v:=rfl
theorem sCz (x:Value) (l:List Value) (v:Value):(x::l).set 0 v=v::l:=rfl
theorem Ct (i:Nat) {oi:Oper} (d:Tmp) (v:Value) {fuel:Nat} {listed:Array Bool} {a:Act} {w:World} (hi:ops[i]?=some oi)
 (hb:(Region.noSelect ops && pC ops listed && Region.free .any ops listed i && (Region.ready .any ops listed).contains i && (i != c) && nU ops ops.size c i && Region.wanted oi (yielded ops a.tmps) && (oi.dst == some d))=true)
 (hQ:∀x a w,Q (.panic x) (a.put oi.dst v) w->Q (.panic x) a w) (hy:∀u,F u->(execOp a.eval oi).run P u=.ok (.value v) u) (hS:F w)
 (h:du P ops Q F c fuel (listed.setIfInBounds i true) (a.put (some d) v) w):du P ops Q F c (fuel+1) listed a w:=by
 simp only [Bool.and_eq_true] at hb;obtain ⟨⟨⟨⟨⟨⟨⟨h1,h2⟩,h3⟩,h4⟩,h5⟩,h6⟩,h7⟩,h8⟩:=hb;exact aq i d v hi h1 h2 h3 h4 h5 h6 hQ h7 hy hS (by simpa using h8) h
theorem dJ (i:Nat) {oi:Oper} (d:Tmp) (v:Value) {fuel:Nat} {listed:Array Bool} {a:Act} {w:World} (hi:ops[i]?=some oi) (hs:Region.noSelect ops=true) (hcl:pC ops listed=true) (hf:Region.free .any ops listed i=true) (hr:(Region.ready .any ops listed).contains i=true) (hic:(i != c)=true)
 (hQ:∀x a w,Q (.panic x) (a.put oi.dst v) w->Q (.panic x) a w) (hw:Region.wanted oi (yielded ops a.tmps)=true) (hy:∀u,(execOp a.eval oi).run P u=.ok (.value v) u) (hS:listed.getD c false=true∨F w)
 (hd:oi.dst=some d) (h:du P ops Q F c fuel (listed.setIfInBounds i true) (a.put (some d) v) w):du P ops Q F c (fuel+1) listed a w:=
 jk hi (by simpa using hic) (Region.noSelect_spec hs) hQ fuel listed a w (gW hcl) (Region.free_spec hi hf) (by simpa using hr) (.inl ⟨hw,fun u _=>hy u⟩) (fun h0=>hS.resolve_left (by rw [h0];simp)) (by rw [hd];exact h)
theorem mG {fuel:Nat} {listed:Array Bool} {a:Act} {w:World} (i:Nat) (hr:Region.ready .any ops listed=[i])
 (h:wpOp P ops Q i (fun a' w'=>((listed.setIfInBounds i true).getD c false=false->F w')∧du P ops Q F c fuel (listed.setIfInBounds i true) a' w') a w):du P ops Q F c (fuel+1) listed a w:=
 ⟨fun h0=>(by rw [hr] at h0;cases h0),fun j hj=>by
  rw [hr] at hj;have:j=i:=by simpa using hj
  subst this;exact h⟩
theorem cz {fuel:Nat} {listed:Array Bool} {a:Act} {w w':World} (i:Nat) {o:Oper} {T:TypeId} {x y:Operand} (hi:ops[i]?=some o) (hop:o.op=.store T x y) (hg:o.guard=none) (hd:o.dst=none) (hr:Region.ready .any ops listed=[i])
 {b off:Nat} {V:Value} (hx:a.eval x=.pointer (some ⟨b,off,none⟩)) (hy:a.eval y=V) (hl:(Instr.storeAt T (.pointer (some ⟨b,off,none⟩)) V).run P w=.ok () w') (hS:(listed.setIfInBounds i true).getD c false=true∨F w') (h:du P ops Q F c fuel (listed.setIfInBounds i true) a w'):du P ops Q F c (fuel+1) listed a w:=by
 refine mG i hr ?_;unfold wpOp;simp only [hi];rw [if_pos (by simp [Region.wanted,hg])];refine .inl ?_;unfold Oper.wp execOp;simp only [hop,hx,hy,Sem.run_bind,hl,Result.andThen_ok,Sem.run_pure];refine ⟨fun h0=>hS.resolve_left (by rw [h0];simp),?_⟩;rw [hd];exact h
theorem dd {fuel:Nat} {listed:Array Bool} {a:Act} {w:World} (i:Nat) {o:Oper} (d:Tmp) (hd:o.dst=some d) (hi:ops[i]?=some o) (hg:o.guard=none) (hr:Region.ready .any ops listed=[i]) {f:FuncId} {args:Array Value} (he:(execOp a.eval o).run P w=.ok (.enter f args) w)
 (h:Calls P f args w fun e w'=>∃x,e=.returned x∧((listed.setIfInBounds i true).getD c false=false->F w')∧du P ops Q F c fuel (listed.setIfInBounds i true) (a.put (some d) x) w'):du P ops Q F c (fuel+1) listed a w:=by
 refine mG i hr ?_;unfold wpOp;simp only [hi];rw [if_pos (by simp [Region.wanted,hg])];refine .inl ?_;unfold Oper.wp;rw [he];refine h.mono ?_;rintro e w' ⟨x,rfl,hS,h2⟩;refine ⟨hS,?_⟩;rw [hd];exact h2
theorem cf {listed:Array Bool} {a:Act} {w:World} (hr:Region.ready .any ops listed=[]) (h:Q .normal a w):∀fuel,du P ops Q F c fuel listed a w
 | 0=>⟨hr,h⟩
 | _+1=>⟨fun _=>h,by rw [hr];simp⟩
theorem aO {id:Nat} {a:Act} {w:World} (F:World->Prop) (c:Nat) (hm:P.follows .mixedOrders=true) (h:du P ops Q F c ops.size (Array.replicate ops.size false) a w.drew):(Code.region id ops true).wp P Q a w:=
 wp_region_any hm (qJ _ _ _ _ h)
end
theorem qK {P:Program} {fn:Func} {R:Ending->World->Prop} {a:Act} {w:World} {s t:Tmp} {T:TypeId} {b:Nat} {V W:Value} (hr:fn.results=#[ResultVar.cell s T,ResultVar.tmp t]) (hs:a.tmps[s]?=some (.pointer (some ⟨b,0,none⟩))) (ht:a.tmps[t]?=some W) (hl:(loadVar T ⟨b,0,none⟩).run P w=.ok V w) (hd:a.defers=[]) (hR:R (.returned (.tuple #[V,W])) w):bodyPost P fn R .ret a w:=by
 refine bodyPost_ret (v:=.tuple #[V,W]) ?_ hd hR;simp [results,hr,hs,ht,asAddr,hl]
end Go.Proofs.YtgnnmgfgfihljaaGreat
