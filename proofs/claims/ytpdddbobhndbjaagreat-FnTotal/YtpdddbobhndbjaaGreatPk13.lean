import Derived.Test.YtpdddbobhndbjaaGreatPk12
import Derived.Test.YtpdddbobhndbjaaGreatPk11
namespace Go.Proofs.YtpdddbobhndbjaaGreat
open Go.RowKit
set_option linter.unusedVariables false
set_option maxHeartbeats 6400000
set_option maxRecDepth 20000
section
variable {P:Program} {ops:Array Oper} {Q:Exit->Act->World->Prop} {F:World->Prop} {c:Nat}
def cB (P:Program) (ops:Array Oper) (Q:Exit->Act->World->Prop) (F:World->Prop) (c:Nat):Nat->Array Bool->Act->World->Prop
 | 0,listed,a,w=>Region.ready .any ops listed=[]∧Q .normal a w
 | fuel+1,listed,a,w=>
  (Region.ready .any ops listed=[]->Q .normal a w)∧
  ∀i∈Region.ready .any ops listed,wpOp P ops Q i (fun a' w'=>((listed.setIfInBounds i true).getD c false=false->F w')∧cB P ops Q F c fuel (listed.setIfInBounds i true) a' w') a w
theorem rZ:∀(fuel:Nat) (listed:Array Bool) (a:Act) (w:World),cB P ops Q F c fuel listed a w->wpAny P .any ops Q fuel listed a w
 | 0,_,_,_,h=>h
 | fuel+1,_,_,_,h=>⟨h.1,fun i hi=>wpOp_mono (fun a' w' h'=>rZ fuel _ a' w' h'.2) (h.2 i hi)⟩
theorem kf {i:Nat} {oi:Oper} {v:Value} (hi:ops[i]?=some oi) (hic:i≠c) (hsel:∀(j:Nat) (o:Oper) cs b,ops[j]?=some o->o.op≠.select cs b)
 (hQ:∀x a w,Q (.panic x) (a.put oi.dst v) w->Q (.panic x) a w):
 ∀(fuel:Nat) (listed:Array Bool) (a:Act) (w:World),Closed ops listed->
  (∀j oj,ops[j]?=some oj->j≠i->listed.getD j true=false->(∀e∈oj.after,Region.binds .any e=true->e.on≠i)->oi.apart ops oj=true)->
  i∈Region.ready .any ops listed->YieldsIf P ops (fun w=>∃l,Closed ops l∧l.getD i true=false∧(l.getD c false=false->F w)) oi v a->(listed.getD c false=false->F w)->
  cB P ops Q F c fuel (listed.setIfInBounds i true) (a.put oi.dst v) w->cB P ops Q F c (fuel+1) listed a w:=by
 intro fuel
 induction fuel with
 | zero=>
  intro listed a w hc _ hr hy hS H;refine ⟨fun h=>(by rw [h] at hr;cases hr),fun j hj=>?_⟩;by_cases hji:j=i
  ·subst hji;exact hy.wpOp hi ⟨listed,hc,(mem_ready.1 hr).1,hS⟩ ⟨fun h=>hS (by rwa [getD_set_ne false hic] at h),H⟩
  ·have:=ready_mono hj hji;rw [H.1] at this;cases this
 | succ fuel ih=>
  intro listed a w hc hfree hr hy hS H;refine ⟨fun h=>(by rw [h] at hr;cases hr),fun j hj=>?_⟩;by_cases hji:j=i
  ·subst hji;exact hy.wpOp hi ⟨listed,hc,(mem_ready.1 hr).1,hS⟩ ⟨fun h=>hS (by rwa [getD_set_ne false hic] at h),H⟩
  ·have h1:=H.2 j (ready_mono hj hji);obtain ⟨hjun,oj,hoj,hall⟩:=mem_ready.1 hj;have hnot:∀e∈oj.after,Region.binds .any e=true->e.on≠i:=fun e he hb heq=>by
    have h1:=hall e he hb;have h0:=(mem_ready.1 hr).1;rw [heq] at h1;rcases Nat.lt_or_ge i listed.size with h' | h'
    ·simp [h'] at h0 h1;rw [h0] at h1;cases h1
    ·simp [Array.getElem?_eq_none h'] at h1
   have h2:=wpOp_putIf hoj (hfree j oj hoj hji hjun hnot) (fun cs b=>hsel i oi cs b hi) (fun cs b=>hsel j oj cs b hoj) hQ hy h1;have hfree':∀k ok,ops[k]?=some ok->k≠i->(listed.setIfInBounds j true).getD k true=false->
    (∀e∈ok.after,Region.binds .any e=true->e.on≠i)->oi.apart ops ok=true:=fun k ok hk hki hun hno=>by
    refine hfree k ok hk hki ?_ hno;by_cases hjk:j=k
    ·subst hjk;exact hjun
    ·rw [getD_set_ne true hjk] at hun;exact hun
   have hcm:(listed.setIfInBounds i true).setIfInBounds j true=(listed.setIfInBounds j true).setIfInBounds i true:=Array.setIfInBounds_comm _ _ (Ne.symm hji);refine wpOp_mono (fun a' w' h3=>?_) h2;have hF:(listed.setIfInBounds j true).getD c false=false->F w':=fun h=>h3.2.1 (by rw [hcm,getD_set_ne false hic];exact h);refine ⟨hF,ih (listed.setIfInBounds j true) a' w' (hc.set hj) hfree' (ready_mono hr (Ne.symm hji)) h3.1 hF ?_⟩;rw [<-hcm];exact h3.2.2
def lW (ops:Array Oper) (listed:Array Bool):Bool:=
 (List.range ops.size).all fun j=>!listed.getD j false || match ops[j]? with
  | none=>true
  | some o=>o.after.all fun e=>!Region.binds .any e || listed.getD e.on false
theorem iN {listed:Array Bool} (h:lW ops listed=true):Closed ops listed:=by
 intro j oj hj hl e he hb;have h1:=List.all_eq_true.1 h j (List.mem_range.2 (hpl hj));simp only [hj,hl,Bool.not_true,Bool.false_or] at h1;have h2:=Array.all_eq_true_iff_forall_mem.1 h1 e he;simpa [hb] using h2
def li (ops:Array Oper):Nat->Nat->Nat->Bool
 | 0,c,i=>c == i
 | f+1,c,i=>c == i || (List.range ops.size).any fun j=>Region.waitsFor .any ops c j && li ops f j i
theorem jl {listed:Array Bool} (hc:Closed ops listed) {i:Nat}:∀(f c:Nat),li ops f c i=true->listed.getD c false=true->listed.getD i false=true
 | 0,c,h,hl=>by
  have:c=i:=by simpa [li] using h
  subst this;exact hl
 | f+1,c,h,hl=>by
  simp only [li,Bool.or_eq_true,beq_iff_eq,List.any_eq_true,Bool.and_eq_true] at h;rcases h with rfl | ⟨j,_,hw,hr⟩
  ·exact hl
  ·exact jl hc f j hr (oL hc hl hw)
theorem zG (i:Nat) {oi:Oper} (d:Tmp) (v:Value) {fuel:Nat} {listed:Array Bool} {a:Act} {w:World} (hi:ops[i]?=some oi) (hs:Region.noSelect ops=true) (hcl:lW ops listed=true) (hf:Region.free .any ops listed i=true) (hr:(Region.ready .any ops listed).contains i=true) (hic:(i != c)=true) (hrc:li ops ops.size c i=true)
 (hQ:∀x a w,Q (.panic x) (a.put oi.dst v) w->Q (.panic x) a w) (hw:Region.wanted oi (yielded ops a.tmps)=true) (hy:∀u,F u->(execOp a.eval oi).run P u=.ok (.value v) u) (hS:F w)
 (hd:oi.dst=some d) (h:cB P ops Q F c fuel (listed.setIfInBounds i true) (a.put (some d) v) w):cB P ops Q F c (fuel+1) listed a w:=
 kf hi (by simpa using hic) (Region.noSelect_spec hs) hQ fuel listed a w (iN hcl) (Region.free_spec hi hf) (by simpa using hr)
  (.inl ⟨hw,fun u ⟨l,h1,h2,h3⟩=>hy u (h3 (by
   cases hh:l.getD c false
   ·rfl
   ·have:=jl h1 _ _ hrc hh;rw [mh h2] at this;cases this))⟩) (fun _=>hS) (by rw [hd];exact h)
theorem aPt (a:Act) (d:Tmp) (v:Value):a.put (some d) v={ a with tmps:=a.tmps.setIfInBounds d v }:=rfl
theorem sTa (l:List Value) (i:Nat) (v:Value):l.toArray.setIfInBounds i v=(l.set i v).toArray:=List.setIfInBounds_toArray ..
theorem sCs (x:Value) (l:List Value) (i:Nat) (v:Value):(x::l).set (i+1) v=x::l.set i v:=rfl
theorem sCz (x:Value) (l:List Value) (v:Value):(x::l).set 0 v=v::l:=rfl
theorem aw (i:Nat) {oi:Oper} (d:Tmp) (v:Value) {fuel:Nat} {listed:Array Bool} {a:Act} {w:World} (hi:ops[i]?=some oi)
 (hb:(Region.noSelect ops && lW ops listed && Region.free .any ops listed i && (Region.ready .any ops listed).contains i && (i != c) && li ops ops.size c i && Region.wanted oi (yielded ops a.tmps) && (oi.dst == some d))=true)
 (hQ:∀x a w,Q (.panic x) (a.put oi.dst v) w->Q (.panic x) a w) (hy:∀u,F u->(execOp a.eval oi).run P u=.ok (.value v) u) (hS:F w)
 (h:cB P ops Q F c fuel (listed.setIfInBounds i true) (a.put (some d) v) w):cB P ops Q F c (fuel+1) listed a w:=by
 simp only [Bool.and_eq_true] at hb;obtain ⟨⟨⟨⟨⟨⟨⟨h1,h2⟩,h3⟩,h4⟩,h5⟩,h6⟩,h7⟩,h8⟩:=hb;exact zG i d v hi h1 h2 h3 h4 h5 h6 hQ h7 hy hS (by simpa using h8) h
theorem lj (i:Nat) {oi:Oper} (d:Tmp) (v:Value) {fuel:Nat} {listed:Array Bool} {a:Act} {w:World} (hi:ops[i]?=some oi) (hS:F w)
 (h:cB P ops Q F c fuel (listed.setIfInBounds i true) (a.put (some d) v) w)
 (hb:(Region.noSelect ops && lW ops listed && Region.free .any ops listed i && (Region.ready .any ops listed).contains i && (i != c) && li ops ops.size c i && Region.wanted oi (yielded ops a.tmps) && (oi.dst == some d))=true:=by kernel_rfl)
 (hQ:∀x a w,Q (.panic x) (a.put oi.dst v) w->Q (.panic x) a w:=by exact fun _ _ _ h=>h) (hy:∀u,F u->(execOp a.eval oi).run P u=.ok (.value v) u:=by intro u _;kernel_rfl):cB P ops Q F c (fuel+1) listed a w:=
 aw i d v hi hb hQ hy hS h
theorem dc (i:Nat) {oi:Oper} (d:Tmp) (v:Value) {fuel:Nat} {listed:Array Bool} {a:Act} {w:World} (hi:ops[i]?=some oi) (hs:Region.noSelect ops=true) (hcl:lW ops listed=true) (hf:Region.free .any ops listed i=true) (hr:(Region.ready .any ops listed).contains i=true) (hic:(i != c)=true)
 (hQ:∀x a w,Q (.panic x) (a.put oi.dst v) w->Q (.panic x) a w) (hw:Region.wanted oi (yielded ops a.tmps)=true) (hy:∀u,(execOp a.eval oi).run P u=.ok (.value v) u) (hS:listed.getD c false=true∨F w)
 (hd:oi.dst=some d) (h:cB P ops Q F c fuel (listed.setIfInBounds i true) (a.put (some d) v) w):cB P ops Q F c (fuel+1) listed a w:=
 kf hi (by simpa using hic) (Region.noSelect_spec hs) hQ fuel listed a w (iN hcl) (Region.free_spec hi hf) (by simpa using hr) (.inl ⟨hw,fun u _=>hy u⟩) (fun h0=>hS.resolve_left (by rw [h0];simp)) (by rw [hd];exact h)
theorem jN {fuel:Nat} {listed:Array Bool} {a:Act} {w:World} (i:Nat) (hr:Region.ready .any ops listed=[i])
 (h:wpOp P ops Q i (fun a' w'=>((listed.setIfInBounds i true).getD c false=false->F w')∧cB P ops Q F c fuel (listed.setIfInBounds i true) a' w') a w):cB P ops Q F c (fuel+1) listed a w:=
 ⟨fun h0=>(by rw [hr] at h0;cases h0),fun j hj=>by
  rw [hr] at hj;have:j=i:=by simpa using hj
  subst this;exact h⟩
theorem bI {fuel:Nat} {listed:Array Bool} {a:Act} {w w':World} (i:Nat) {o:Oper} {T:TypeId} {x y:Operand} (hi:ops[i]?=some o) (hop:o.op=.store T x y) (hg:o.guard=none) (hd:o.dst=none) (hr:Region.ready .any ops listed=[i])
 {b off:Nat} {V:Value} (hx:a.eval x=.pointer (some ⟨b,off,none⟩)) (hy:a.eval y=V) (hl:(Instr.storeAt T (.pointer (some ⟨b,off,none⟩)) V).run P w=.ok () w') (hS:(listed.setIfInBounds i true).getD c false=true∨F w') (h:cB P ops Q F c fuel (listed.setIfInBounds i true) a w'):cB P ops Q F c (fuel+1) listed a w:=by
 refine jN i hr ?_;unfold wpOp;simp only [hi];rw [if_pos (by simp [Region.wanted,hg])];refine .inl ?_;unfold Oper.wp execOp;simp only [hop,hx,hy,Sem.run_bind,hl,Result.andThen_ok,Sem.run_pure];refine ⟨fun h0=>hS.resolve_left (by rw [h0];simp),?_⟩;rw [hd];exact h
theorem uB {fuel:Nat} {listed:Array Bool} {a:Act} {w:World} (i:Nat) {o:Oper} (d:Tmp) (hi:ops[i]?=some o) {f:FuncId} {args:Array Value}
 (h:Calls P f args w fun e w'=>∃x,e=.returned x∧((listed.setIfInBounds i true).getD c false=false->F w')∧cB P ops Q F c fuel (listed.setIfInBounds i true) (a.put (some d) x) w')
 (hd:o.dst=some d:=by kernel_rfl) (hg:Region.wanted o (yielded ops a.tmps)=true:=by kernel_rfl) (hr:Region.ready .any ops listed=[i]:=by kernel_rfl) (he:(execOp a.eval o).run P w=.ok (.enter f args) w:=by kernel_rfl):cB P ops Q F c (fuel+1) listed a w:=by
 refine jN i hr ?_;unfold wpOp;simp only [hi];rw [if_pos hg];refine .inl ?_;unfold Oper.wp;rw [he];refine h.mono ?_;rintro e w' ⟨x,rfl,hS,h2⟩;refine ⟨hS,?_⟩;rw [hd];exact h2
theorem cC {fuel:Nat} {listed:Array Bool} {a:Act} {w:World} (i:Nat) {o:Oper} (d:Tmp) (hd:o.dst=some d) (hi:ops[i]?=some o) (hg:o.guard=none) (hr:Region.ready .any ops listed=[i]) {f:FuncId} {args:Array Value} (he:(execOp a.eval o).run P w=.ok (.enter f args) w)
 (h:Calls P f args w fun e w'=>∃x,e=.returned x∧((listed.setIfInBounds i true).getD c false=false->F w')∧cB P ops Q F c fuel (listed.setIfInBounds i true) (a.put (some d) x) w'):cB P ops Q F c (fuel+1) listed a w:=
 uB i d hi h hd (by simp [Region.wanted,hg]) hr he
theorem bJ {listed:Array Bool} {a:Act} {w:World} (hr:Region.ready .any ops listed=[]) (h:Q .normal a w):∀fuel,cB P ops Q F c fuel listed a w
 | 0=>⟨hr,h⟩
 | _+1=>⟨fun _=>h,by rw [hr];simp⟩
theorem zH {fuel:Nat} {listed:Array Bool} {a:Act} {w:World} (i:Nat) {o:Oper} (hi:ops[i]?=some o) (h:wpList P ops Q [o] a w) (hg:Region.wanted o (yielded ops a.tmps)=true:=by kernel_rfl) (hr:Region.ready .any ops listed=[i]:=by kernel_rfl)
 (hr2:Region.ready .any ops (listed.setIfInBounds i true)=[]:=by kernel_rfl) (hc:(listed.setIfInBounds i true).getD c false=true:=by kernel_rfl):cB P ops Q F c (fuel+1) listed a w:=by
 refine jN i hr ?_;unfold wpOp;simp only [hi];unfold wpList at h;rw [if_pos hg] at h |-;rcases h with h | h
 ·exact .inl (Oper.wp_mono (fun a' w' hQ=>⟨fun h0=>(by rw [hc] at h0;cases h0),bJ hr2 hQ _⟩) h)
 ·exact .inr h
theorem aN {id:Nat} {a:Act} {w:World} (F:World->Prop) (c:Nat) (hm:P.follows .mixedOrders=true) (h:cB P ops Q F c ops.size (Array.replicate ops.size false) a w.drew):(Code.region id ops true).wp P Q a w:=
 wp_region_any hm (rZ _ _ _ _ h)
end
theorem sa {P:Program} {fn:Func} {R:Ending->World->Prop} {a:Act} {w:World} {s t:Tmp} {T:TypeId} {b:Nat} {V W:Value} (hr:fn.results=#[ResultVar.cell s T,ResultVar.tmp t]) (hs:a.tmps[s]?=some (.pointer (some ⟨b,0,none⟩))) (ht:a.tmps[t]?=some W) (hl:(loadVar T ⟨b,0,none⟩).run P w=.ok V w) (hd:a.defers=[]) (hR:R (.returned (.tuple #[V,W])) w):bodyPost P fn R .ret a w:=by
 refine bodyPost_ret (v:=.tuple #[V,W]) ?_ hd hR;simp [results,hr,hs,ht,asAddr,hl]
section
variable {P:Program} {ops:Array Oper} {Q:Exit->Act->World->Prop} {F:World->Prop} {c:Nat}
theorem eM {fuel:Nat} {listed:Array Bool} {a:Act} {w w':World} (i:Nat) {o:Oper} (d:Tmp) (v:Value) (hd:o.dst=some d) (hi:ops[i]?=some o) (hg:o.guard=none) (hr:Region.ready .any ops listed=[i]) (he:(execOp a.eval o).run P w=.ok (.value v) w')
 (hS:(listed.setIfInBounds i true).getD c false=false->F w') (h:cB P ops Q F c fuel (listed.setIfInBounds i true) (a.put (some d) v) w'):cB P ops Q F c (fuel+1) listed a w:=by
 refine jN i hr ?_;unfold wpOp;simp only [hi];rw [if_pos (by simp [Region.wanted,hg])];refine .inl ?_;unfold Oper.wp;rw [he];refine ⟨hS,?_⟩;rw [hd];exact h
end
theorem yu {P:Program} {ops:Array Oper} {Q:Exit->Act->World->Prop} {K:Act->World->Prop} {a:Act} {w:World} (i:Nat) {o:Oper} (d:Tmp) (hd:o.dst=some d) (hi:ops[i]?=some o) (hg:o.guard=none) {f:FuncId} {args:Array Value} (he:(execOp a.eval o).run P w=.ok (.enter f args) w)
 (h:Calls P f args w fun e w'=>∃x,e=.returned x∧K (a.put (some d) x) w'):wpOp P ops Q i K a w:=by
 unfold wpOp;simp only [hi];rw [if_pos (by simp [Region.wanted,hg])];refine .inl ?_;unfold Oper.wp;rw [he];refine h.mono ?_;rintro e w' ⟨x,rfl,h2⟩;rw [hd];exact h2
theorem AD {P:Program} {ops:Array Oper} {Q:Exit->Act->World->Prop} {K:Act->World->Prop} {a:Act} {w w':World} (i:Nat) {o:Oper} (d:Tmp) (v:Value) (hd:o.dst=some d) (hi:ops[i]?=some o) (hg:o.guard=none) (he:(execOp a.eval o).run P w=.ok (.value v) w')
 (h:K (a.put (some d) v) w'):wpOp P ops Q i K a w:=by
 unfold wpOp;simp only [hi];rw [if_pos (by simp [Region.wanted,hg])];refine .inl ?_;unfold Oper.wp;rw [he];show K (a.put o.dst v) w';rw [hd];exact h
theorem vM {P:Program} {ops:Array Oper} {Q:Exit->Act->World->Prop} {F:World->Prop} {c:Nat} {fuel:Nat} {listed:Array Bool} {a:Act} {w:World} (i j:Nat) (hr:Region.ready .any ops listed=[i,j])
 (hi:wpOp P ops Q i (fun a' w'=>((listed.setIfInBounds i true).getD c false=false->F w')∧cB P ops Q F c fuel (listed.setIfInBounds i true) a' w') a w)
 (hj:wpOp P ops Q j (fun a' w'=>((listed.setIfInBounds j true).getD c false=false->F w')∧cB P ops Q F c fuel (listed.setIfInBounds j true) a' w') a w):cB P ops Q F c (fuel+1) listed a w:=
 ⟨fun h0=>(by rw [hr] at h0;cases h0),fun k hk=>by
  rw [hr] at hk;simp only [List.mem_cons,List.not_mem_nil,or_false] at hk;rcases hk with rfl | rfl
  ·exact hi
  ·exact hj⟩
theorem rG {a:Act} {d e:Tmp} {u v:Value} (h:d≠e):(a.put (some d) u).put (some e) v=(a.put (some e) v).put (some d) u:=by
 show Act.mk _ _=Act.mk _ _;congr 1;exact Array.setIfInBounds_comm _ _ h
theorem yv {P:Program} {ops:Array Oper} {Q:Exit->Act->World->Prop} {F:World->Prop} {c:Nat} {fuel:Nat} {listed L:Array Bool} {a:Act} {w:World} (k j:Nat) {ok oj:Oper} (dk dj:Tmp) {Z:Array Value} {T:TypeId} {g:FuncId} {brgs:Array Value} (R:World->Value->World->Prop)
 (ek:ops[k]?=some ok) (ej:ops[j]?=some oj) (dd:ok.dst=some dk∧oj.dst=some dj∧dk≠dj) (hg:ok.guard=none∧oj.guard=none)
 (r1:Region.ready .any ops listed=[k,j]) (r2:Region.ready .any ops (listed.setIfInBounds k true)=[j]) (r5:Region.ready .any ops (listed.setIfInBounds j true)=[k])
 (l1:(listed.setIfInBounds k true).setIfInBounds j true=L) (l2:(listed.setIfInBounds j true).setIfInBounds k true=L)
 (xk:∀u,(execOp a.eval ok).run P u=.ok (.enter g brgs) u) (xk':∀p u,(execOp (a.put (some dj) p).eval ok).run P u=.ok (.enter g brgs) u)
 (xj:∀b u,(execOp b oj).run P u=.ok (.value (.pointer (some ⟨u.heap.size,0,none⟩))) (u.alloc (.cells Z T)))
 (hF:∀u,Bw w u->F u) (ck:∀u,Bw w u->Calls P g brgs u fun e w'=>(∃y,e=.returned y∧R u y w')∧Bw u w')
 (h:∀y p u v v',Bw w u->R u y v->Bw v v'->(p<u.heap.size∨v.heap.size<=p)->w.heap.size<=p->v'.heap[p]?=some (.cells Z T (0,0))->Bw w v'->cB P ops Q F c fuel L ((a.put (some dk) y).put (some dj) (.pointer (some ⟨p,0,none⟩))) v'):cB P ops Q F c (fuel+2) listed a w:=by
 obtain ⟨hdk,hdj,n2⟩:=dd;obtain ⟨gk,gj⟩:=hg;have m1:=Below.refl w.heap.size w;refine vM k j r1 ?_ ?_
 ·refine yu k dk hdk ek gk (xk w) ((ck w m1).mono ?_);rintro e u2 ⟨⟨y,rfl,hy⟩,m2⟩;refine ⟨y,rfl,fun _=>hF u2 m2,?_⟩;have A:=(bS u2 Z T).2.2;refine eM j dj _ hdj ej gj r2 (xj _ _) (fun _=>hF _ (bst m2 A)) ?_;rw [l1];exact h y _ w u2 _ m1 hy A (.inr nle) m2.size (bS u2 Z T).1 (bst m2 A)
 ·have A:=(bS w Z T).2.2;refine AD j dj _ hdj ej gj (xj _ _) ⟨fun _=>hF _ A,?_⟩;refine cC k dk hdk ek gk r5 (xk' _ _) ((ck _ A).mono ?_);rintro e u2 ⟨⟨y,rfl,hy⟩,m2⟩;have z:=(bS w Z T).2.1;have m12:=bst A m2;refine ⟨y,rfl,fun _=>hF u2 m12,?_⟩;rw [l2,rG (Ne.symm n2)];exact h y _ _ u2 u2 A hy (Below.refl _ _) (.inl (by omega)) nle (ae (bS w Z T).1 m2 (by omega)) m12
theorem AE {P:Program} {ops:Array Oper} {Q:Exit->Act->World->Prop} {F:World->Prop} {c:Nat} {fuel:Nat} {listed L:Array Bool} {a:Act} {w:World} (i k j:Nat) {oi ok oj:Oper} (di dk dj:Tmp) (x:Value) {Z:Array Value} {T:TypeId} {f g:FuncId} {args brgs:Array Value} (R:World->Value->World->Prop)
 (ei:ops[i]?=some oi) (ek:ops[k]?=some ok) (ej:ops[j]?=some oj) (dd:oi.dst=some di∧ok.dst=some dk∧oj.dst=some dj∧di≠dj∧dk≠dj) (hg:oi.guard=none∧ok.guard=none∧oj.guard=none)
 (r0:Region.ready .any ops listed=[i,j]) (r1:Region.ready .any ops (listed.setIfInBounds i true)=[k,j]) (r2:Region.ready .any ops ((listed.setIfInBounds i true).setIfInBounds k true)=[j]) (r3:Region.ready .any ops (listed.setIfInBounds j true)=[i]) (r4:Region.ready .any ops ((listed.setIfInBounds j true).setIfInBounds i true)=[k]) (r5:Region.ready .any ops ((listed.setIfInBounds i true).setIfInBounds j true)=[k])
 (l1:((listed.setIfInBounds i true).setIfInBounds k true).setIfInBounds j true=L) (l2:((listed.setIfInBounds i true).setIfInBounds j true).setIfInBounds k true=L) (l3:((listed.setIfInBounds j true).setIfInBounds i true).setIfInBounds k true=L)
 (xi:∀u,(execOp a.eval oi).run P u=.ok (.enter f args) u) (xi':∀p u,(execOp (a.put (some dj) p).eval oi).run P u=.ok (.enter f args) u) (xk:∀u,(execOp (a.put (some di) x).eval ok).run P u=.ok (.enter g brgs) u) (xk':∀p u,(execOp ((a.put (some di) x).put (some dj) p).eval ok).run P u=.ok (.enter g brgs) u)
 (xj:∀b u,(execOp b oj).run P u=.ok (.value (.pointer (some ⟨u.heap.size,0,none⟩))) (u.alloc (.cells Z T)))
 (hF:∀u,Bw w u->F u) (ci:∀u,Bw w u->Calls P f args u fun e w'=>e=.returned x∧Bw u w') (ck:∀u,Bw w u->Calls P g brgs u fun e w'=>(∃y,e=.returned y∧R u y w')∧Bw u w')
 (h:∀y p u v v',Bw w u->R u y v->Bw v v'->(p<u.heap.size∨v.heap.size<=p)->w.heap.size<=p->v'.heap[p]?=some (.cells Z T (0,0))->Bw w v'->cB P ops Q F c fuel L (((a.put (some di) x).put (some dk) y).put (some dj) (.pointer (some ⟨p,0,none⟩))) v'):cB P ops Q F c (fuel+3) listed a w:=by
 obtain ⟨hdi,hdk,hdj,n1,n2⟩:=dd;obtain ⟨gi,gk,gj⟩:=hg;have AL:∀u,Bw w u->Bw w (u.alloc (.cells Z T))∧Bw u (u.alloc (.cells Z T)):=fun u hu=>⟨bst hu (bS u Z T).2.2,(bS u Z T).2.2⟩;have b0:=Below.refl w.heap.size w;refine vM i j r0 ?_ ?_
 ·refine yu i di hdi ei gi (xi w) ((ci w b0).mono ?_);rintro e u1 ⟨rfl,m1⟩;refine ⟨x,rfl,fun _=>hF u1 m1,?_⟩;refine yv k j dk dj R ek ej ⟨hdk,hdj,n2⟩ ⟨gk,gj⟩ r1 r2 r5 l1 l2 xk xk' xj (fun u hu=>hF u (bst m1 hu)) (fun u hu=>ck u (bst m1 hu)) ?_;intro y p u v v' hu hy hb hp hpb hz hn;exact h y p u v v' (bst m1 hu) hy hb hp (Nat.le_trans m1.size hpb) hz (bst m1 hn)
 ·have A:=AL w b0;refine AD j dj _ hdj ej gj (xj _ _) ⟨fun _=>hF _ A.1,?_⟩;refine cC i di hdi ei gi r3 (xi' _ _) ((ci _ A.1).mono ?_);rintro e u1 ⟨rfl,m1⟩;have m01:=bst A.1 m1;refine ⟨x,rfl,fun _=>hF u1 m01,?_⟩;rw [rG (Ne.symm n1)];refine cC k dk hdk ek gk r4 (xk' _ _) ((ck _ m01).mono ?_);rintro e u2 ⟨⟨y,rfl,hy⟩,m2⟩;have z:=(bS w Z T).2.1;have zz:=m1.size;have m12:=bst m01 m2;refine ⟨y,rfl,fun _=>hF u2 m12,?_⟩;rw [l3,rG (Ne.symm n2)];exact h y _ _ u2 u2 m01 hy (Below.refl _ _) (.inl (by omega)) nle (ae (ae (bS w Z T).1 m1 (by omega)) m2 (by omega)) m12
theorem iI (sv:Value) (zs:List Int) (va root:Int) (w:World) (hB:SrcAt w sv zs) (hv0:0<=va) (hv1:va<=18446744073709551615) (hr0:0<=root) (hr1:root<=18446744073709551615):
 Calls Tryz.prog 175 #[sv,.int .u64 root,.int .u64 va] w fun e w'=>xQ w.heap.size w' e (dv zs root va)∧Bw w w':=by
 have b0:=(Below.refl w.heap.size w).alloc nle (Obj.cells #[.int .i64 0,.int .u64 0,.slice none 0 0] 276);have r0:Hid ((w.alloc (Obj.cells #[.int .i64 0,.int .u64 0,.slice none 0 0] 276)).heap[w.heap.size]?=some (.cells #[.int .i64 0,.int .u64 0,.slice none 0 0] 276 (0,0))):=heap_alloc_new w _;have HB:=hid hB;clear hB;have hb0:0<=root%17592186044416∧root%17592186044416<17592186044416:=⟨Int.emod_nonneg _ (by omega),Int.emod_lt_of_pos _ (by omega)⟩;have HM:=hid (eE 44 root 17592186044415 rfl (by omega) hr0 hr1);unfold dv;cases hcn:du va
 ·rw [if_pos rfl];have HC:=hid hcn;clear hcn;go_enter Tryz.func175,Tryz.ntmps175;go_wp2_with fail;generalize w.alloc (Obj.cells #[.int .i64 0,.int .u64 0,.slice none 0 0] 276)=v1 at b0 r0 |-;refine (iK va v1 hv0 hv1).mono ?_;rintro e v2 ⟨rfl,rfl⟩;rw [HC.out];obtain ⟨⟨d0,d1,d2⟩,f0,f1,f2⟩:=aA r0.out;go_wp2_with fail;refine bodyPost_ret (v:=.tuple #[.agg #[.int .i64 2,.int .u64 0,.slice none 0 0],.iface 248 (.agg #[])]) (by simp [results,Tryz.results175,go_sem,d0,d1,d2]) rfl ?_;exact ⟨⟨none,0,rfl,World.ownsRow_nil _ _ _ _⟩,fU b0 nle _ _ _⟩
 ·rw [if_neg (by simp)];have HC:=hid hcn;clear hcn;obtain ⟨X,hX⟩:∃X,cQ zs va 2 (root%17592186044416)=X:=⟨_,rfl⟩;have HX:=hid hX;rw [hX];clear hX;go_enter Tryz.func175,Tryz.ntmps175;go_wp2_with fail;have l1:w.heap.size<(w.alloc (Obj.cells #[.int .i64 0,.int .u64 0,.slice none 0 0] 276)).heap.size:=by simp
  generalize w.alloc (Obj.cells #[.int .i64 0,.int .u64 0,.slice none 0 0] 276)=v1 at b0 r0 l1 |-;refine (iK va v1 hv0 hv1).mono ?_;rintro e v2 ⟨rfl,rfl⟩;rw [HC.out];go_wp2_with fail;refine (dt 44 17592186044415 _ (by omega)).mono ?_;rintro e v3 ⟨rfl,rfl⟩;go_wp2_with fail;rw [HM.out];refine (nY sv zs va (root%17592186044416) 2 v3 (HB.out.keep b0) (by omega) hv0 hv1 hb0.1 hb0.2).mono ?_;rintro e v4 ⟨hw,n4⟩;rw [HX.out] at hw;obtain ⟨ra,rc,rfl,o4⟩:=hw;obtain ⟨x1,x2,x3,rs⟩:=X;simp only at o4 |-;have HO:=hid o4;clear o4;have r4:=hid (ae r0.out n4 l1);have b4:=bst b0 n4;obtain ⟨⟨d0,d1,d2⟩,f0,f1,f2⟩:=aA r4.out;obtain ⟨fv,hfv⟩:∃fv,cF x1=fv:=⟨_,rfl⟩;have HF:=hid hfv;rw [hfv];clear hfv;go_wp2_with fail;refine bodyPost_ret (v:=.tuple #[.agg #[.int .i64 x2,.int .u64 x3,.slice ra rs.length rc],fv]) (by simp [results,Tryz.results175,go_sem,d0,d1,d2]) rfl ?_;exact ⟨⟨ra,rc,by rw [HF.out],aP (aI HO.out (gb3 _ w.heap.size _ _ _) l1) (by omega)⟩,fU b4 nle _ _ _⟩
theorem DV {P:Program} {ops:Array Oper} {Q:Exit->Act->World->Prop} {F:World->Prop} {c:Nat} (i:Nat) {oi:Oper} (d:Tmp) (v:Value) {fuel:Nat} {listed:Array Bool} {a:Act} {w:World} (hi:ops[i]?=some oi) (hS:listed.getD c false=true∨F w)
 (h:cB P ops Q F c fuel (listed.setIfInBounds i true) (a.put (some d) v) w)
 (hb:(Region.noSelect ops && lW ops listed && Region.free .any ops listed i && (Region.ready .any ops listed).contains i && (i != c) && Region.wanted oi (yielded ops a.tmps) && (oi.dst == some d))=true:=by kernel_rfl)
 (hQ:∀x a w,Q (.panic x) (a.put oi.dst v) w->Q (.panic x) a w:=by exact fun _ _ _ h=>h) (hy:∀u,(execOp a.eval oi).run P u=.ok (.value v) u:=by intro u;kernel_rfl):cB P ops Q F c (fuel+1) listed a w:=by
 simp only [Bool.and_eq_true] at hb;obtain ⟨⟨⟨⟨⟨⟨h1,h2⟩,h3⟩,h4⟩,h5⟩,h7⟩,h8⟩:=hb;exact dc i d v hi h1 h2 h3 h4 h5 hQ h7 hy hS (by simpa using h8) h
theorem jc (p:PtrM) (al:Option Addr) (cl:Nat) (plain:Bool) (pick:Int) (r:RunM) (c t:Int) (w:World):
 Calls Tryz.prog 62 #[.agg (aK p al cl plain pick r),.int .i64 c,.int .u64 t] w fun e w'=>e=.returned (.agg (aK p al cl plain pick (bT r c t)))∧Bw w w':=by
 have hsz:=bx p al cl plain pick r;have h1:=dn p al cl plain pick r;have HE:Hid (((aK p al cl plain pick r).setIfInBounds 23 (.int .i64 c)).setIfInBounds 24 (.int .u64 t)=aK p al cl plain pick (bT r c t)):=rfl;have g23:(aK p al cl plain pick r)[23]?=some (.int .i64 r.cause):=rfl;have g24:(aK p al cl plain pick r)[24]?=some (.int .u64 r.tval):=rfl;generalize aK p al cl plain pick r=C at *;generalize aK p al cl plain pick (bT r c t)=D at *;have HO:=hid h1;clear h1;go_enter Tryz.func62,Tryz.ntmps62;go_upto_region 1 with fail;obtain ⟨v1,Ev1,F⟩:=ax2 w C ey 51 51;rw [Ev1.out];clear Ev1;obtain ⟨h3,h6,l1,n1⟩:=F;have H3:Hid _:=h3;have H6:Hid _:=h6;have b1:w.heap.size<v1.heap.size:=by omega
 have f23:=ay h3 23;have f24:=ay h3 24;have c23:=ab h3 23 g23;have c24:=ab h3 24 g24;clear h3 h6;have hz:=aU;have HL:Hid ((Instr.loadAt 51 (.pointer (some ⟨w.heap.size,0,none⟩))).run Tryz.prog ((v1.setCell ⟨w.heap.size,23,none⟩ (.int .i64 c)).setCell ⟨w.heap.size,24,none⟩ (.int .u64 t))=.ok (.agg ((C.setIfInBounds 23 (.int .i64 c)).setIfInBounds 24 (.int .u64 t))) ((v1.setCell ⟨w.heap.size,23,none⟩ (.int .i64 c)).setCell ⟨w.heap.size,24,none⟩ (.int .u64 t))):=be (bt (bt H3.out 23 _) 24 _) Tryz.underlying51 rfl (by simp only [Array.size_setIfInBounds,hsz];exact cZ);have HS:Hid _:=bh (P:=Tryz.prog) (T:=51) (V:=(C.setIfInBounds 23 (.int .i64 c)).setIfInBounds 24 (.int .u64 t)) (bM (bM H6.out 23 (.int .i64 c) (show w.heap.size+1≠w.heap.size by omega)) 24 (.int .u64 t) (show w.heap.size+1≠w.heap.size by omega)) (by simp only [Array.size_setIfInBounds,hsz];exact cZ) (by simp only [Array.size_setIfInBounds,hsz,hz]) (mf (mf HO.out _ rfl) _ rfl);go_wp2_with (first
  | ((with_reducible refine aZ ?_ HL.out ?_);(exact rfl))
  | ((with_reducible refine aG ?_ ?_ HS.out ?_);(exact rfl);(exact rfl)))
 have hD:D.size=31:=by rw [<-HE.out];simp only [Array.size_setIfInBounds,hsz]
 have e1:=aT (V:=(C.setIfInBounds 23 (.int .i64 c)).setIfInBounds 24 (.int .u64 t)) (bM (bM H6.out 23 (.int .i64 c) (show w.heap.size+1≠w.heap.size by omega)) 24 (.int .u64 t) (show w.heap.size+1≠w.heap.size by omega)) (by rw [HE.out,hD,hz]);have e2:=aS (show w.heap.size<=w.heap.size+1 by omega) ((C.setIfInBounds 23 (.int .i64 c)).setIfInBounds 24 (.int .u64 t)).toList 0 _ (bN (bN n1 nle 23 (.int .i64 c)) nle 24 (.int .u64 t));rw [HE.out] at e1 e2 |-;generalize ((v1.setCell ⟨w.heap.size,23,none⟩ (.int .i64 c)).setCell ⟨w.heap.size,24,none⟩ (.int .u64 t)).setCells (w.heap.size+1) 0 D.toList=v2 at e1 e2 |-;exact dz (b:=w.heap.size+1) Tryz.results62 rfl (bu (P:=Tryz.prog) e1 Tryz.underlying51 rfl (by rw [hD];exact cZ)) rfl ⟨rfl,e2⟩
theorem tT (p:PtrM) (h:HartM) (w:World):
 Calls Tryz.prog 85 #[.agg (ax p h)] w fun e w'=>e=.returned (dV h.mode h.sum h.mxr h.satp)∧Bw w w':=by
 have hsz:=eh p h;have g3:(ax p h)[3]?=some (.int .i64 h.mode):=rfl;have g4:(ax p h)[4]?=some (.bool h.sum):=rfl;have g5:(ax p h)[5]?=some (.bool h.mxr):=rfl;have g6:(ax p h)[6]?=some (.int .u64 h.satp):=rfl;generalize ax p h=C at *;unfold dV;go_enter Tryz.func85,Tryz.ntmps85;go_upto_region 1 with fail;obtain ⟨v1,Ev1,F⟩:=ax2 w C #[.int .i64 0,.bool false,.bool false,.int .u64 0] 41 172;rw [Ev1.out];clear Ev1;obtain ⟨h3,h6,l1,n1⟩:=F;have c3:=ab h3 3 g3;have c4:=ab h3 4 g4;have c5:=ab h3 5 g5;have c6:=ab h3 6 g6;have k0:=ab h6 0 (v:=.int .i64 0) rfl;have k1:=ab h6 1 (v:=.bool false) rfl;have k2:=ab h6 2 (v:=.bool false) rfl;have k3:=ab h6 3 (v:=.int .u64 0) rfl;have f0:=ay h6 0;have f1:=ay h6 1;have f2:=ay h6 2;have f3:=ay h6 3;have ne1:w.heap.size≠w.heap.size+1:=by omega
 have ne2:w.heap.size+1≠w.heap.size:=by omega
 have b1:w.heap.size<v1.heap.size:=by omega
 have b2:w.heap.size+1<v1.heap.size:=by omega
 clear h3 h6;go_wp2_with fail;exact bodyPost_ret (v:=.agg #[.int .i64 h.mode,.bool h.sum,.bool h.mxr,.int .u64 h.satp]) (by simp [results,Tryz.results85,go_sem,k0,k1,k2,k3]) rfl ⟨rfl,bN (bN (bN (bN n1 (by omega) _ _) (by omega) _ _) (by omega) _ _) (by omega) _ _⟩
theorem oG (satp:Int) (w:World) (h0:0<=satp) (h1:satp<=18446744073709551615):
 Calls Tryz.prog 30 #[.int .u64 satp] w fun e w'=>e=.returned (.bool (de satp))∧Bw w w':=by
 have HS:Hid (de satp=(satp/1152921504606846976%16 == 0 || satp/1152921504606846976%16 == 8)):=rfl;have HB:Hid (∀u,Calls Tryz.prog 59 #[.int .u64 satp,.int .i64 60,.int .i64 63] u fun e w'=>e=.returned (.int .u64 (satp/1152921504606846976%16))∧∃n,w'=u.drewN n):=fun u=>bK satp 60 63 _ _ u h0 h1 (by omega) (by omega) (by omega) (by omega) (by decide) (by decide);generalize de satp=q at *;generalize satp/1152921504606846976%16=x at *;by_cases hx:x=0
 ·subst hx;have hq:q=true:=by rw [HS.out];rfl
  subst hq;go_enter Tryz.func30,Tryz.ntmps30;go_wp2_with fail;refine (HB.out w).mono ?_;rintro e v1 ⟨rfl,n,rfl⟩;go_wp2_with fail;go_ret;exact ⟨rfl,below_drewN (Below.refl _ _) n⟩
 ·have hx':(x == 0)=false:=by simpa using hx
  go_enter Tryz.func30,Tryz.ntmps30;go_wp2_with fail;refine (HB.out w).mono ?_;rintro e v1 ⟨rfl,n,rfl⟩;go_wp2_with fail;refine (HB.out _).mono ?_;rintro e v2 ⟨rfl,m,rfl⟩;go_wp2_with fail;go_ret;exact ⟨aE (by rw [HS.out,hx'];simp),below_drewN (Below.refl _ _) (n+m)⟩
theorem oH (a:Option Addr) (len cap:Nat) (zs:List Int) (i:Nat) (w:World) (h:Byt w a len zs) (hl:len<=1048576) (hi:i<=9223372036854775807):
 Calls Tryz.prog 28 #[.slice a len cap,.int .i64 i] w fun e w'=>e=.returned (.int .i64 (atM zs i))∧w'=w:=by
 obtain ⟨h1,h2,h3⟩:=h;by_cases hlt:i<len
 ·rcases h3 with h3 | ⟨b,off,rfl,hbw,hc⟩
  ·omega
  have g1:=hc i hlt;have g2:=h2 i;have HA:Hid (zs[i]?.getD 0=atM zs i):=rfl;generalize zs[i]?.getD 0=x at g1 g2 HA;clear hc h2;go_enter Tryz.func28,Tryz.ntmps28;go_wp2_with fail;go_ret;exact ⟨cx HA.out,rfl⟩
 ·have HA:Hid (atM zs i=0):=by
   show zs[i]?.getD 0=0;rw [List.getElem?_eq_none (by omega)];rfl
  clear h2 h3;go_enter Tryz.func28,Tryz.ntmps28;go_wp2_with fail;go_ret;exact ⟨cx HA.out.symm,rfl⟩
end Go.Proofs.YtpdddbobhndbjaaGreat
