import Derived.Maps.RangeWalk
import Derived.OrdersHeld
import Derived.Test.YthdgiakgepmabaaGreatPk01
import Derived.StillTailTactics
import Derived.Deep.MidRow
import Derived.Deep.CutRange
namespace Go.Proofs.YthdgiakgepmabaaGreat
open Go.RowKit
set_option linter.unusedVariables false
set_option maxHeartbeats 6400000
set_option maxRecDepth 20000
section
variable {P:Program} {ops:Array Oper} {Q:Exit->Act->World->Prop} {F:World->Prop} {c:Nat}
def aL (P:Program) (ops:Array Oper) (Q:Exit->Act->World->Prop) (F:World->Prop) (c:Nat):Nat->Array Bool->Act->World->Prop
 | 0,listed,a,w=>Region.ready .any ops listed=[]∧Q .normal a w
 | fuel+1,listed,a,w=>
  (Region.ready .any ops listed=[]->Q .normal a w)∧
  ∀i∈Region.ready .any ops listed,wpOp P ops Q i (fun a' w'=>((listed.setIfInBounds i true).getD c false=false->F w')∧aL P ops Q F c fuel (listed.setIfInBounds i true) a' w') a w
theorem ot:∀(fuel:Nat) (listed:Array Bool) (a:Act) (w:World),aL P ops Q F c fuel listed a w->wpAny P .any ops Q fuel listed a w
 | 0,_,_,_,h=>h
 | fuel+1,_,_,_,h=>⟨h.1,fun i hi=>wpOp_mono (fun a' w' h'=>ot fuel _ a' w' h'.2) (h.2 i hi)⟩
theorem ir {i:Nat} {oi:Oper} {v:Value} (hi:ops[i]?=some oi) (hic:i≠c) (hsel:∀(j:Nat) (o:Oper) cs b,ops[j]?=some o->o.op≠.select cs b)
 (hQ:∀x a w,Q (.panic x) (a.put oi.dst v) w->Q (.panic x) a w):
 ∀(fuel:Nat) (listed:Array Bool) (a:Act) (w:World),Closed ops listed->
  (∀j oj,ops[j]?=some oj->j≠i->listed.getD j true=false->(∀e∈oj.after,Region.binds .any e=true->e.on≠i)->oi.apart ops oj=true)->
  i∈Region.ready .any ops listed->YieldsIf P ops (fun w=>∃l,Closed ops l∧l.getD i true=false∧(l.getD c false=false->F w)) oi v a->(listed.getD c false=false->F w)->
  aL P ops Q F c fuel (listed.setIfInBounds i true) (a.put oi.dst v) w->aL P ops Q F c (fuel+1) listed a w:=by
 intro fuel
 induction fuel with
 | zero=>
  intro listed a w hc _ hr hy hS H;refine ⟨fun h=>(by rw [h] at hr;cases hr),fun j hj=>?_⟩;by_cases hji:j=i
  ·subst hji;exact hy.wpOp hi ⟨listed,hc,(mem_ready.1 hr).1,hS⟩ ⟨fun h=>hS (by rwa [getD_set_ne false hic] at h),H⟩
  ·have:=ready_mono hj hji;rw [H.1] at this;cases this
 | succ fuel ih=>
  intro listed a w hc hfree hr hy hS H;refine ⟨fun h=>(by rw [h] at hr;cases hr),fun j hj=>?_⟩;by_cases hji:j=i
  ·subst hji;exact hy.wpOp hi ⟨listed,hc,(mem_ready.1 hr).1,hS⟩ ⟨fun h=>hS (by rwa [getD_set_ne false hic] at h),H⟩
  ·have h1:=H.2 j (ready_mono hj hji);obtain ⟨hjun,oj,hoj,hall⟩:=mem_ready.1 hj;have hnot:∀e∈oj.after,Region.binds .any e=true->e.on≠i:=fun e he hb heq=>by
    have h1:=hall e he hb;have h0:=(mem_ready.1 hr).1;rw [heq] at h1;rcases Nat.lt_or_ge i listed.size with h' | h'
    ·simp [h'] at h0 h1;rw [h0] at h1;cases h1
    ·simp [Array.getElem?_eq_none h'] at h1
   have h2:=wpOp_putIf hoj (hfree j oj hoj hji hjun hnot) (fun cs b=>hsel i oi cs b hi) (fun cs b=>hsel j oj cs b hoj) hQ hy h1;have hfree':∀k ok,ops[k]?=some ok->k≠i->(listed.setIfInBounds j true).getD k true=false->
    (∀e∈ok.after,Region.binds .any e=true->e.on≠i)->oi.apart ops ok=true:=fun k ok hk hki hun hno=>by
    refine hfree k ok hk hki ?_ hno;by_cases hjk:j=k
    ·subst hjk;exact hjun
    ·rw [getD_set_ne true hjk] at hun;exact hun
   have hcm:(listed.setIfInBounds i true).setIfInBounds j true=(listed.setIfInBounds j true).setIfInBounds i true:=Array.setIfInBounds_comm _ _ (Ne.symm hji);refine wpOp_mono (fun a' w' h3=>?_) h2;have hF:(listed.setIfInBounds j true).getD c false=false->F w':=fun h=>h3.2.1 (by rw [hcm,getD_set_ne false hic];exact h);refine ⟨hF,ih (listed.setIfInBounds j true) a' w' (hc.set hj) hfree' (ready_mono hr (Ne.symm hji)) h3.1 hF ?_⟩;rw [<-hcm];exact h3.2.2
def it (ops:Array Oper) (listed:Array Bool):Bool:=
 (List.range ops.size).all fun j=>!listed.getD j false || match ops[j]? with
  | none=>true
  | some o=>o.after.all fun e=>!Region.binds .any e || listed.getD e.on false
theorem fM {listed:Array Bool} (h:it ops listed=true):Closed ops listed:=by
 intro j oj hj hl e he hb;have h1:=List.all_eq_true.1 h j (List.mem_range.2 (hpl hj));simp only [hj,hl,Bool.not_true,Bool.false_or] at h1;have h2:=Array.all_eq_true_iff_forall_mem.1 h1 e he;simpa [hb] using h2
def iT (ops:Array Oper):Nat->Nat->Nat->Bool
 | 0,c,i=>c == i
 | f+1,c,i=>c == i || (List.range ops.size).any fun j=>Region.waitsFor .any ops c j && iT ops f j i
theorem gy {listed:Array Bool} (hc:Closed ops listed) {i:Nat}:∀(f c:Nat),iT ops f c i=true->listed.getD c false=true->listed.getD i false=true
 | 0,c,h,hl=>by
  have:c=i:=by simpa [iT] using h
  subst this;exact hl
 | f+1,c,h,hl=>by
  simp only [iT,Bool.or_eq_true,beq_iff_eq,List.any_eq_true,Bool.and_eq_true] at h;rcases h with rfl | ⟨j,_,hw,hr⟩
  ·exact hl
  ·exact gy hc f j hr (qX hc hl hw)
theorem wo (i:Nat) {oi:Oper} (d:Tmp) (v:Value) {fuel:Nat} {listed:Array Bool} {a:Act} {w:World} (hi:ops[i]?=some oi) (hs:Region.noSelect ops=true) (hcl:it ops listed=true) (hf:Region.free .any ops listed i=true) (hr:(Region.ready .any ops listed).contains i=true) (hic:(i != c)=true) (hrc:iT ops ops.size c i=true)
 (hQ:∀x a w,Q (.panic x) (a.put oi.dst v) w->Q (.panic x) a w) (hw:Region.wanted oi (yielded ops a.tmps)=true) (hy:∀u,F u->(execOp a.eval oi).run P u=.ok (.value v) u) (hS:F w)
 (hd:oi.dst=some d) (h:aL P ops Q F c fuel (listed.setIfInBounds i true) (a.put (some d) v) w):aL P ops Q F c (fuel+1) listed a w:=
 ir hi (by simpa using hic) (Region.noSelect_spec hs) hQ fuel listed a w (fM hcl) (Region.free_spec hi hf) (by simpa using hr)
  (.inl ⟨hw,fun u ⟨l,h1,h2,h3⟩=>hy u (h3 (by
   cases hh:l.getD c false
   ·rfl
   ·have:=gy h1 _ _ hrc hh;rw [qY h2] at this;cases this))⟩) (fun _=>hS) (by rw [hd];exact h)
theorem hqp {Q:Exit->Act->World->Prop} (H:Hid (∀x (a:Act) d z w,Q (.panic x) (a.put d z) w->Q (.panic x) a w)) {d:Option Tmp} {v:Value} (x:List PanicEntry) (a:Act) (w:World) (h:Q (.panic x) (a.put d v) w):Q (.panic x) a w:=H.out _ _ _ _ _ h
theorem zE (i:Nat) {oi:Oper} (d:Tmp) (v:Value) {fuel:Nat} {listed:Array Bool} {a:Act} {w:World} (hi:ops[i]?=some oi)
 (hb:(Region.noSelect ops && it ops listed && Region.free .any ops listed i && (Region.ready .any ops listed).contains i && (i != c) && iT ops ops.size c i && Region.wanted oi (yielded ops a.tmps) && (oi.dst == some d))=true)
 (hQ:∀x a w,Q (.panic x) (a.put oi.dst v) w->Q (.panic x) a w) (hy:∀u,F u->(execOp a.eval oi).run P u=.ok (.value v) u) (hS:F w)
 (h:aL P ops Q F c fuel (listed.setIfInBounds i true) (a.put (some d) v) w):aL P ops Q F c (fuel+1) listed a w:=by
 simp only [Bool.and_eq_true] at hb;obtain ⟨⟨⟨⟨⟨⟨⟨h1,h2⟩,h3⟩,h4⟩,h5⟩,h6⟩,h7⟩,h8⟩:=hb;exact wo i d v hi h1 h2 h3 h4 h5 h6 hQ h7 hy hS (by simpa using h8) h
theorem ak (i:Nat) {oi:Oper} (d:Tmp) (v:Value) {fuel:Nat} {listed:Array Bool} {a:Act} {w:World} (hi:ops[i]?=some oi) (hS:F w)
 (h:aL P ops Q F c fuel (listed.setIfInBounds i true) (a.put (some d) v) w)
 (hb:(Region.noSelect ops && it ops listed && Region.free .any ops listed i && (Region.ready .any ops listed).contains i && (i != c) && iT ops ops.size c i && Region.wanted oi (yielded ops a.tmps) && (oi.dst == some d))=true:=by kernel_rfl)
 (hQ:∀x a w,Q (.panic x) (a.put oi.dst v) w->Q (.panic x) a w:=by exact fun _ _ _ h=>h) (hy:∀u,F u->(execOp a.eval oi).run P u=.ok (.value v) u:=by intro u _;kernel_rfl):aL P ops Q F c (fuel+1) listed a w:=
 zE i d v hi hb hQ hy hS h
theorem wq (i:Nat) {oi:Oper} (d:Tmp) (v:Value) {fuel:Nat} {listed:Array Bool} {a:Act} {w:World} (hi:ops[i]?=some oi) (hs:Region.noSelect ops=true) (hcl:it ops listed=true) (hf:Region.free .any ops listed i=true) (hr:(Region.ready .any ops listed).contains i=true) (hic:(i != c)=true)
 (hQ:∀x a w,Q (.panic x) (a.put oi.dst v) w->Q (.panic x) a w) (hw:Region.wanted oi (yielded ops a.tmps)=true) (hy:∀u,(execOp a.eval oi).run P u=.ok (.value v) u) (hS:listed.getD c false=true∨F w)
 (hd:oi.dst=some d) (h:aL P ops Q F c fuel (listed.setIfInBounds i true) (a.put (some d) v) w):aL P ops Q F c (fuel+1) listed a w:=
 ir hi (by simpa using hic) (Region.noSelect_spec hs) hQ fuel listed a w (fM hcl) (Region.free_spec hi hf) (by simpa using hr) (.inl ⟨hw,fun u _=>hy u⟩) (fun h0=>hS.resolve_left (by rw [h0];simp)) (by rw [hd];exact h)
theorem fW {fuel:Nat} {listed:Array Bool} {a:Act} {w:World} (i:Nat) (hr:Region.ready .any ops listed=[i])
 (h:wpOp P ops Q i (fun a' w'=>((listed.setIfInBounds i true).getD c false=false->F w')∧aL P ops Q F c fuel (listed.setIfInBounds i true) a' w') a w):aL P ops Q F c (fuel+1) listed a w:=
 ⟨fun h0=>(by rw [hr] at h0;cases h0),fun j hj=>by
  rw [hr] at hj;have:j=i:=by simpa using hj
  subst this;exact h⟩
theorem ug {fuel:Nat} {listed:Array Bool} {a:Act} {w w':World} (i:Nat) {o:Oper} {T:TypeId} {x y:Operand} (hi:ops[i]?=some o) (hop:o.op=.store T x y) (hg:o.guard=none) (hd:o.dst=none) (hr:Region.ready .any ops listed=[i])
 {b off:Nat} {V:Value} (hx:a.eval x=PT b off) (hy:a.eval y=V) (hl:(Instr.storeAt T (PT b off) V).run P w=.ok () w') (hS:(listed.setIfInBounds i true).getD c false=true∨F w') (h:aL P ops Q F c fuel (listed.setIfInBounds i true) a w'):aL P ops Q F c (fuel+1) listed a w:=by
 refine fW i hr ?_;unfold wpOp;simp only [hi];rw [if_pos (by simp [Region.wanted,hg])];refine .inl ?_;unfold Oper.wp execOp;simp only [hop,hx,hy,Sem.run_bind,hl,Result.andThen_ok,Sem.run_pure];refine ⟨fun h0=>hS.resolve_left (by rw [h0];simp),?_⟩;rw [hd];exact h
theorem jq {fuel:Nat} {listed:Array Bool} {a:Act} {w:World} (i:Nat) {o:Oper} (d:Tmp) (hi:ops[i]?=some o) {f:FuncId} {args:Array Value}
 (h:Calls P f args w fun e w'=>∃x,e=.returned x∧((listed.setIfInBounds i true).getD c false=false->F w')∧aL P ops Q F c fuel (listed.setIfInBounds i true) (a.put (some d) x) w')
 (hd:o.dst=some d:=by kernel_rfl) (hg:Region.wanted o (yielded ops a.tmps)=true:=by kernel_rfl) (hr:Region.ready .any ops listed=[i]:=by kernel_rfl) (he:(execOp a.eval o).run P w=.ok (.enter f args) w:=by kernel_rfl):aL P ops Q F c (fuel+1) listed a w:=by
 refine fW i hr ?_;unfold wpOp;simp only [hi];rw [if_pos hg];refine .inl ?_;unfold Oper.wp;rw [he];refine h.mono ?_;rintro e w' ⟨x,rfl,hS,h2⟩;refine ⟨hS,?_⟩;rw [hd];exact h2
theorem pL {listed:Array Bool} {a:Act} {w:World} (hr:Region.ready .any ops listed=[]) (h:Q .normal a w):∀fuel,aL P ops Q F c fuel listed a w
 | 0=>⟨hr,h⟩
 | _+1=>⟨fun _=>h,by rw [hr];simp⟩
theorem de {fuel:Nat} {listed:Array Bool} {a:Act} {w:World} (h:Q .normal a w) (hr:Region.ready .any ops listed=[]:=by kernel_rfl):aL P ops Q F c fuel listed a w:=pL hr h _
theorem dM {fuel:Nat} {listed:Array Bool} {a:Act} {w w':World} (i x y:Nat) {o:Oper} {T:TypeId} {b off:Nat} {V:Value} (hi:ops[i]?=some o) (hl:(Instr.storeAt T (PT b off) V).run P w=.ok () w') (h:aL P ops Q F c fuel (listed.setIfInBounds i true) a w')
 (hop:o.op=.store T (.tmp x) (.tmp y):=by kernel_rfl) (hg:o.guard=none:=by kernel_rfl) (hd:o.dst=none:=by kernel_rfl) (hr:Region.ready .any ops listed=[i]:=by kernel_rfl) (hx:a.eval (.tmp x)=PT b off:=by kernel_rfl) (hy:a.eval (.tmp y)=V:=by kernel_rfl)
 (hS:(listed.setIfInBounds i true).getD c false=true∨F w':=by exact .inl (by kernel_rfl)):aL P ops Q F c (fuel+1) listed a w:=ug i hi hop hg hd hr hx hy hl hS h
theorem jr {fuel:Nat} {listed:Array Bool} {a:Act} {w:World} (i:Nat) {o:Oper} (hi:ops[i]?=some o) (h:wpList P ops Q [o] a w) (hg:Region.wanted o (yielded ops a.tmps)=true:=by kernel_rfl) (hr:Region.ready .any ops listed=[i]:=by kernel_rfl)
 (hr2:Region.ready .any ops (listed.setIfInBounds i true)=[]:=by kernel_rfl) (hc:(listed.setIfInBounds i true).getD c false=true:=by kernel_rfl):aL P ops Q F c (fuel+1) listed a w:=by
 refine fW i hr ?_;unfold wpOp;simp only [hi];unfold wpList at h;rw [if_pos hg] at h |-;rcases h with h | h
 ·exact .inl (Oper.wp_mono (fun a' w' hQ=>⟨fun h0=>(by rw [hc] at h0;cases h0),pL hr2 hQ _⟩) h)
 ·exact .inr h
theorem ax {id:Nat} {a:Act} {w:World} (F:World->Prop) (c:Nat) (h:aL P ops Q F c ops.size (Array.replicate ops.size false) a w.drew) (hm:P.follows .mixedOrders=true:=by kernel_rfl):(Code.region id ops true).wp P Q a w:=
 wp_region_any hm (ot _ _ _ _ h)
end
theorem au {v:World} {p:Nat} {T:TypeId} {a b c:Value} (h:v.heap[p]?=some (.cells #[a,b,c] T (0,0))):
 (v.cell? (AD p 0)=some a∧v.cell? (AD p 1)=some b∧v.cell? (AD p 2)=some c)∧v.frozen? (AD p 0)=false∧v.frozen? (AD p 1)=false∧v.frozen? (AD p 2)=false:=by
 simp [World.cell?,World.frozen?,h]
theorem zU {v:World} {p:Nat} {T:TypeId} {a b c u:Value} (h:v.heap[p]?=some (.cells #[a,b,c] T (0,0))):(v.setCell (AD p 0) u).heap[p]?=some (.cells #[u,b,c] T (0,0)):=by
 simp [World.setCell,Array.getElem?_modify,h]
theorem AS {v:World} {p:Nat} {T:TypeId} {a b c u:Value} (h:v.heap[p]?=some (.cells #[a,b,c] T (0,0))):(v.setCell (AD p 2) u).heap[p]?=some (.cells #[a,b,u] T (0,0)):=by
 simp [World.setCell,Array.getElem?_modify,h]
theorem gb3 (v:World) (g:Nat) (x y z:Value):v.grownBy (((v.setCell (AD g 0) x).setCell (AD g 1) y).setCell (AD g 2) z) (some g):=
 aj (aj (aj (ap v (some g)) 0 x) 1 y) 2 z
theorem iG {B:Nat} {a w:World} {g:Nat} (h:Below B a w) (hg:B<=g) (x y z:Value):Below B a (((w.setCell (AD g 0) x).setCell (AD g 1) y).setCell (AD g 2) z):=
 ((h.setCell (p:=(AD g 0)) hg x).setCell (p:=(AD g 1)) hg y).setCell (p:=(AD g 2)) hg z
theorem bD {e:TypeId} {size:Nat} {w:World} {base base' n:Nat} {v:Value} {cs:List Value} (h:w.ownsRow base e size v n cs) (hb:base'<=base):w.ownsRow base' e size v n cs:=by
 obtain ⟨h1,h2⟩:=h;refine ⟨h1,?_⟩;rcases h2 with h2 | ⟨g,cap,cur,h2,hb',r⟩
 ·exact .inl h2
 ·exact .inr ⟨g,cap,cur,h2,by omega,r⟩
theorem ao {e:TypeId} {size:Nat} {w w':World} {base n r:Nat} {v:Value} {cs:List Value} (h:w.ownsRow base e size v n cs) (hg:w.grownBy w' (some r)) (hr:r<base):w'.ownsRow base e size v n cs:=by
 refine h.kept hg ?_;rcases h.2 with ⟨rfl,_⟩ | ⟨g,cap,cur,rfl,hb',_⟩
 ·exact .inl rfl
 ·refine .inr ?_;simp [Value.ownBlock];omega
theorem ai {e:TypeId} {size:Nat} {w w':World} {base n:Nat} {v:Value} {cs:List Value} (h:w.ownsRow base e size v n cs) (hb:Bw w w'):w'.ownsRow base e size v n cs:=by
 obtain ⟨h1,h2⟩:=h;refine ⟨h1,?_⟩;rcases h2 with h2 | ⟨g,cap,cur,h2,hb',hg,r⟩
 ·exact .inl h2
 ·refine .inr ⟨g,cap,cur,h2,hb',?_,r⟩;exact ag hg hb (hpl hg)
theorem sO {P:Program} (w:World) {o:Oper} {a:Act} {K:Act->World->Prop} {Q:Exit->Act->World->Prop} (s x:Operand) (t:TypeId)
 (ho:o.op=.call { callee:=.builtin .append,args:=#[s,x],argTypes:=#[t,t] }) (e:TypeId) (ht:P.underlying t=some (.slice e)) (z:Value) (size bytes:Nat)
 (hi:(P.info? e).map (fun i=>(i.zero,i.size,i.bytes))=some (some z,size,bytes)) (hzs:z.cells.size=size) (hsz:0<size)
 (base n:Nat) (v:Value) (cs:List Value) (hs:a.eval s=v) (hown:w.ownsRow base e size v n cs)
 (b off m c:Nat) (ys:List Value) (hx:a.eval x=.slice (some (AD b off)) m c) (hm:0<m) (hy:RowC w (some (AD b off)) m size ys) (h1:∀u∈ys,u.oneCell'=true)
 (hbd:(n+m)*bytes<=140737488355328) (hbd':n+m<=9223372036854775807)
 (hbw:base<=w.heap.size) (B:Nat) (W:World) (hb:Below B W w) (hB:B<=base)
 (h:∀g' cap' w',w'.ownsRow base e size (SL g' (n+m) cap') (n+m) (cs++ys)->Below B W w'->K (a.put o.dst (SL g' (n+m) cap')) w'):o.wp P a w K Q:=by
 obtain ⟨i0,hi,hz0,hz1,hz2⟩:=info_parts hi;refine wp_append_own w s x t ho base e i0 z size bytes ht hi hz0 hz1 hz2 hzs hsz v n _ hs hown (AD b off) m c ys hx hy.1 (uw hy) h1 (by unfold maxLen;omega) hbd (by omega) ?_;intro v' w' h1 h2 h3;have hbl:=hb.grown h2 (by omega) (fun k hk=>by have:=(hown.lt k hk).1;omega);rcases h1.2 with ⟨e1,e2⟩ | ⟨g,cap,cur,e1,r⟩
 ·omega
 ·subst e1;exact h g cap w' h1 hbl
theorem oq {P:Program} (w:World) {ops:Array Oper} {rest:List Oper} {o:Oper} {a:Act} {Q:Exit->Act->World->Prop} (hgd:o.guard=none) (s x:Operand) (t:TypeId)
 (ho:o.op=.call { callee:=.builtin .append,args:=#[s,x],argTypes:=#[t,t] }) (e:TypeId) (ht:P.underlying t=some (.slice e)) (z:Value) (size bytes:Nat)
 (hi:(P.info? e).map (fun i=>(i.zero,i.size,i.bytes))=some (some z,size,bytes)) (hzs:z.cells.size=size) (hsz:0<size)
 (base n:Nat) (v:Value) (cs:List Value) (hs:a.eval s=v) (hown:w.ownsRow base e size v n cs)
 (b off m c:Nat) (ys:List Value) (hx:a.eval x=.slice (some (AD b off)) m c) (hm:0<m) (hy:RowC w (some (AD b off)) m size ys) (h1:∀u∈ys,u.oneCell'=true)
 (hbd:(n+m)*bytes<=140737488355328) (hbd':n+m<=9223372036854775807)
 (hbw:base<=w.heap.size) (B:Nat) (W:World) (hb:Below B W w) (hB:B<=base)
 (h:∀g' cap' w',w'.ownsRow base e size (SL g' (n+m) cap') (n+m) (cs++ys)->Below B W w'->wpList P ops Q rest (a.put o.dst (SL g' (n+m) cap')) w'):wpList P ops Q (o::rest) a w:=
 wpList_plain hgd fun _ hK=>sO w s x t ho e ht z size bytes hi hzs hsz base n v cs hs hown b off m c ys hx hm hy h1 hbd hbd' hbw B W hb hB fun g' cap' w' h2 h3=>hK _ _ (h g' cap' w' h2 h3)
theorem sP {e:TypeId} {size:Nat} {w:World} {base n:Nat} {v:Value} {cs:List Value} (h:w.ownsRow base e size v n cs):w.drew.ownsRow base e size v n cs:=h
def CurAt (e:TypeId) (w:World) (g m:Nat) (cs:List Value):Prop:=cs.length=m∧∃cur,w.heap[g]?=some (.cells cur e (0,0))∧cur.toList.take m=cs
theorem CurAt.lt {e:TypeId} {w:World} {g m:Nat} {cs:List Value} (h:CurAt e w g m cs):g<w.heap.size:=by
 obtain ⟨_,cur,h2,_⟩:=h;exact (hpl h2)
theorem CurAt.cell {e:TypeId} {w:World} {g m:Nat} {cs:List Value} (h:CurAt e w g m cs) (j:Nat) (u:Value) (hj:cs[j]?=some u):w.cell? (AD g j)=some u:=by
 obtain ⟨h1,cur,h2,h3⟩:=h;subst h3;rw [List.getElem?_take] at hj;split at hj
 ·simp only [World.cell?,h2];simpa using hj
 ·cases hj
theorem CurAt.free {e:TypeId} {w:World} {g m:Nat} {cs:List Value} (h:CurAt e w g m cs) (j:Nat):w.frozen? (AD g j)=false:=by
 obtain ⟨h1,cur,h2,h3⟩:=h;simp [World.frozen?,h2]
theorem CurAt.store {e:TypeId} {w:World} {g m:Nat} {cs:List Value} (h:CurAt e w g m cs) (j:Nat) (u:Value):CurAt e (w.setCell (AD g j) u) g m (cs.set j u):=by
 obtain ⟨h1,cur,h2,h3⟩:=h;refine ⟨by simpa using h1,cur.setIfInBounds j u,by simp [World.setCell,Array.getElem?_modify,h2],?_⟩;subst h3;rw [Array.toList_setIfInBounds,List.take_set]
theorem CurAt.gb {e:TypeId} {w w':World} {g m r:Nat} {cs:List Value} (h:CurAt e w g m cs) (hg:w.grownBy w' (some r)) (hne:g≠r):CurAt e w' g m cs:=by
 obtain ⟨h1,cur,h2,h3⟩:=h;exact ⟨h1,cur,aq h2 hg hne,h3⟩
theorem CurAt.of_own {e:TypeId} {size:Nat} {w:World} {base g n cap:Nat} {cs:List Value} (h:w.ownsRow base e size (SL g n cap) n cs):CurAt e w g (n*size) cs∧base<=g:=by
 obtain ⟨h1,h2⟩:=h;rcases h2 with ⟨h2,_⟩ | ⟨g',cap',cur,h2,hb,hg,_,_,_,ht⟩
 ·cases h2
 ·cases h2;exact ⟨⟨h1,cur,hg,ht⟩,hb⟩
theorem cT {e:TypeId} {size:Nat} {w:World} {base n:Nat} {a:Option Addr} {cap:Nat} {cs:List Value} (h:w.ownsRow base e size (.slice a n cap) n cs):RowC w a n size cs:=by
 cases a with
 | none=>
  obtain ⟨h1,h2⟩:=h;rcases h2 with ⟨_,h2⟩ | ⟨g',cap',cur,h2,_⟩
  ·subst h2;exact ⟨h1,.inl rfl⟩
  ·cases h2
 | some q=>
  have hq:q=(AD q.block 0):=by
   obtain ⟨h1,h2⟩:=h;rcases h2 with ⟨h2,_⟩ | ⟨g',cap',cur,h2,_⟩
   ·cases h2
   ·cases h2;rfl
  rw [hq] at h |-;have:=CurAt.of_own h;refine ⟨h.1,.inr ⟨q.block,0,rfl,this.1.lt,fun i u hu=>?_⟩⟩;rw [Nat.zero_add];exact this.1.cell i u hu
theorem bx {e:TypeId} {size:Nat} {w:World} {base n cap:Nat} {q:Addr} {cs:List Value} (h:w.ownsRow base e size (.slice (some q) n cap) n cs):q=(AD q.block 0)∧base<=q.block∧q.block<w.heap.size:=by
 rcases h.2 with ⟨h2,_⟩ | ⟨g',cap',cur,h2,hb,hg,_⟩
 ·cases h2
 ·cases h2;exact ⟨rfl,hb,(hpl hg)⟩
theorem cP {a b c:World} {r:Option Nat} (h:a.grownBy b r) (k:b.grownBy c r):a.grownBy c r:=
 ⟨k.os.trans h.os,k.tape.trans h.tape,k.output.trans h.output,Nat.le_trans h.size k.size,fun i hi hn=>(k.block i (ltl hi h.size) hn).trans (h.block i hi hn)⟩
theorem ae {w w':World} {b:Nat} {o:Obj} (h:Hid (w.heap[b]?=some o)) (n:Bw w w'):Hid (w'.heap[b]?=some o):=ag h.out n (hpl h.out)
theorem aJ {e:TypeId} {size:Nat} {w:World} {base g n cap:Nat} {cs:List Value} (h:w.ownsRow base e size (SL g n cap) n cs) (j:Nat) (u:Value):
 (w.setCell (AD g j) u).ownsRow base e size (SL g n cap) n (cs.set j u):=by
 obtain ⟨h1,h2⟩:=h;refine ⟨by simpa using h1,?_⟩;rcases h2 with ⟨h2,_⟩ | ⟨g',cap',cur,h2,hb,hg,hc1,hc2,hc3,ht⟩
 ·cases h2
 ·cases h2;refine .inr ⟨g,cap,cur.setIfInBounds j u,rfl,hb,by simp [World.setCell,Array.getElem?_modify,hg],hc1,hc2,by simpa using hc3,?_⟩;subst ht;rw [Array.toList_setIfInBounds,List.take_set]
theorem aK {e:TypeId} {size:Nat} {w:World} {base g n cap:Nat} {cs:List Value} (h:w.ownsRow base e size (SL g n cap) n cs) (j:Nat) (u:Value) (hj:cs[j]?=some u):w.cell? (AD g j)=some u:=
 (CurAt.of_own h).1.cell j u hj
theorem aT {e:TypeId} {size:Nat} {w:World} {base g n cap:Nat} {cs:List Value} (h:w.ownsRow base e size (SL g n cap) n cs) (j:Nat):w.frozen? (AD g j)=false:=
 (CurAt.of_own h).1.free j
theorem iQ {a b c:World} {r:Option Nat} (h:a.grownBy b r) (k:Bw b c):a.grownBy c r:=
 ⟨k.os.trans h.os,k.tape.trans h.tape,k.output.trans h.output,Nat.le_trans h.size k.size,fun i hi hn=>(k.block i (ltl hi h.size)).trans (h.block i hi hn)⟩
theorem qM {a b:World} {r g o:Nat} {x:Option Value} (h:a.grownBy b (some r)) (hc:a.cell? (AD g o)=x) (hg:g<a.heap.size) (hne:g≠r):b.cell? (AD g o)=x:=
 (World.cell?_of_block (h.block g hg (by simpa using hne))).trans hc
theorem bM {P:Program} {id:Nat} {Q:Exit->Act->World->Prop} {a:Act} {w:World} {l:List Oper} (n:Nat) (hm:P.follows .mixedOrders=true) (hB:Region.lexTailB .any l.toArray n=true)
 (h:wpStill P l.toArray w.drew (fun a'=>wpList P l.toArray Q (l.drop n) a' w.drew) (l.take n) a):(Code.region id l.toArray true).wp P Q a w:=
 wp_region_still_tail n hm hB h
section
variable {P:Program} {ops:Array Oper} {Q:Exit->Act->World->Prop} {rest:List Oper} {a:Act}
theorem ja {d:Tmp} {T ty:TypeId} {x:Operand} {pos:String} {af:Array Edge} {w:World} {b o:Nat} {V:Value} (hx:a.eval x=PT b o) (hl:(Instr.loadAt T (PT b o)).run P w=.ok V w)
 (h:wpList P ops Q rest (a.put (some d) V) w):wpList P ops Q ({ dst:=some d,op:=.load T x,type:=ty,pos:=pos,after:=af,guard:=none }::rest) a w:=
 wpList_plain rfl fun K hK=>by
  unfold Oper.wp execOp;simp only [hx,Sem.run_bind,hl,Result.andThen_ok,Sem.run_pure];exact hK _ _ h
theorem bI {T ty:TypeId} {x y:Operand} {pos:String} {af:Array Edge} {w w':World} {b o:Nat} {V:Value} (hx:a.eval x=PT b o) (hy:a.eval y=V) (hl:(Instr.storeAt T (PT b o) V).run P w=.ok () w')
 (h:wpList P ops Q rest (a.put none undef) w'):wpList P ops Q ({ dst:=none,op:=.store T x y,type:=ty,pos:=pos,after:=af,guard:=none }::rest) a w:=
 wpList_plain rfl fun K hK=>by
  unfold Oper.wp execOp;simp only [hx,hy,Sem.run_bind,hl,Result.andThen_ok,Sem.run_pure];exact hK _ _ h
end
theorem pY {w:World} {b:Nat} {C:Array Value} {t:TypeId} {fr:Nat × Nat} (hb:w.heap[b]?=some (.cells C t fr)) {o n:Nat} {L:List Value} (hL:(C.toList.drop o).take n=L):w.rangeAt b o L:=by
 intro j v hv;rw [<-hL,List.getElem?_take] at hv;split at hv
 ·rw [List.getElem?_drop] at hv;simp only [World.cell?,hb];simpa using hv
 ·cases hv
theorem hU {P:Program} {w:World} {b:Nat} {C:Array Value} {t:TypeId} {fr:Nat × Nat} (hb:w.heap[b]?=some (.cells C t fr)) {T:TypeId} {d:TypeDesc} (hu:P.underlying T=some d) (hd:d.isRow=true) {o n:Nat} (L:List Value) (hi:(P.info? T).map (·.size)=some n) (hL:(C.toList.drop o).take n=L) (hn:L.length=n):
 (Instr.loadAt T (PT b o)).run P w=.ok (.agg L.toArray) w:=
 run_loadAt_mid w b o T L d (pY hb hL) hu hd (by rw [hn];exact hi)
theorem lY {P:Program} {w:World} {b:Nat} {C:Array Value} {t:TypeId} {fr:Nat × Nat} (hb:w.heap[b]?=some (.cells C t fr)) {T:TypeId} {d:TypeDesc} (hu:P.underlying T=some d) (hd:d.isRow=true) {o n:Nat} (L:List Value) (hi:(P.info? T).map (·.size)=some n) (hL:(C.toList.drop o).take n=L) (hn:L.length=n):
 (loadVar T (AD b o)).run P w=.ok (.agg L.toArray) w:=
 run_loadVar_mid w b o T L d (pY hb hL) hu hd (by rw [hn];exact hi)
def lz (C:Array Value) (o:Nat) (L:List Value):Array Value:=(C.toList.take o++L++C.toList.drop (o+L.length)).toArray
theorem dD (b:Nat):∀(L:List Value) (o:Nat) (w:World) (C:Array Value) (t:TypeId) (fr:Nat × Nat),w.heap[b]?=some (.cells C t fr)->o+L.length<=C.size->(w.setCells b o L).heap[b]?=some (.cells (lz C o L) t fr)
 | [],o,w,C,t,fr,h,hl=>by simp [World.setCells,lz,h]
 | v::L,o,w,C,t,fr,h,hl=>by
  simp only [List.length_cons] at hl;have h1:(w.setCell (AD b o) v).heap[b]?=some (.cells (C.setIfInBounds o v) t fr):=by
   simp [World.setCell,Array.getElem?_modify,h]
  have h2:=dD b L (o+1) _ _ t fr h1 (by simp;omega);have e:lz (C.setIfInBounds o v) (o+1) L=lz C o (v::L):=by
   unfold lz;congr 1;simp only [Array.toList_setIfInBounds,List.length_cons];have hlen:o<C.toList.length:=by simpa using (by omega:o<C.size)
   rw [List.take_add_one,List.take_set_of_le nle,List.getElem?_set_self hlen,List.drop_set_of_lt (by omega),show o+1+L.length=o+(L.length+1) by omega];simp
  rw [<-e];exact h2
theorem bK (b:Nat):∀(L:List Value) (o:Nat) (w v:World),w.grownBy v (some b)->w.grownBy (v.setCells b o L) (some b)
 | [],o,w,v,h=>h
 | x::L,o,w,v,h=>bK b L (o+1) w _ (aj h o x)
theorem hZ {P:Program} {w:World} {b:Nat} {C:Array Value} {t:TypeId} (hb:w.heap[b]?=some (.cells C t (0,0))) {T:TypeId} {o:Nat} {V:Array Value} (hi:(P.info? T).map (·.size)=some V.size) (hs:o+V.size<=C.size) (h1:V.all (·.oneCell')=true):
 (Instr.storeAt T (PT b o) (.agg V)).run P w=.ok () (w.setCells b o V.toList):=by
 refine run_storeAt_mid w b o T V (fun j hj=>?_) hi h1;refine ⟨?_,?_⟩
 ·have:o+j<C.size:=by omega
  simp [World.cell?,hb,this]
 ·simp [World.frozen?,hb]
theorem cV {w:World} {b:Nat} {C:Array Value} {t:TypeId} {fr:Nat × Nat} (hb:w.heap[b]?=some (.cells C t fr)) (i:Nat) (v:Value):(w.setCell (AD b i) v).heap[b]?=some (.cells (C.setIfInBounds i v) t fr):=by
 simp [World.setCell,Array.getElem?_modify,hb]
theorem aa {w:World} {b:Nat} {C:Array Value} {t:TypeId} {fr:Nat × Nat} (hb:w.heap[b]?=some (.cells C t fr)) (i:Nat) {v:Value} (hv:C[i]?=some v):w.cell? (AD b i)=some v:=by
 simp [World.cell?,hb,hv]
theorem ay {w:World} {b:Nat} {C:Array Value} {t:TypeId} (hb:w.heap[b]?=some (.cells C t (0,0))) (i:Nat):w.frozen? (AD b i)=false:=by
 simp [World.frozen?,hb]
theorem qV {w:World} {b r:Nat} {o:Obj} (h:w.heap[b]?=some o) (i:Nat) (v:Value) (hne:b≠r):(w.setCell (AD r i) v).heap[b]?=some o:=by
 rw [<-h];simp [World.setCell,Array.getElem?_modify,Ne.symm hne]
theorem eO {B:Nat} {a w:World} {g:Nat} (h:Below B a w) (hg:B<=g) (i:Nat) (v:Value):Below B a (w.setCell (AD g i) v):=h.setCell hg _
theorem dn {B:Nat} {a:World} {g:Nat} (hg:B<=g):∀(L:List Value) (o:Nat) (w:World),Below B a w->Below B a (w.setCells g o L)
 | [],o,w,h=>h
 | x::L,o,w,h=>dn hg L (o+1) _ (h.setCell hg _)
theorem fP (b:Nat):∀(L:List Value) (o:Nat) (w:World),(w.setCells b o L).heap.size=w.heap.size
 | [],o,w=>rfl
 | x::L,o,w=>by
  rw [World.setCells,fP b L (o+1)];simp
theorem yD (C V:Array Value) (h:V.size=C.size):lz C 0 V.toList=V:=by
 unfold lz;rw [List.take_zero,List.drop_of_length_le (by simp [h])];simp
theorem ey {P:Program} {w:World} {b:Nat} {C:Array Value} {t:TypeId} {fr:Nat × Nat} (hb:w.heap[b]?=some (.cells C t fr)) {T:TypeId} {d:TypeDesc} (hu:P.underlying T=some d) (hd:d.isRow=true) (hi:(P.info? T).map (·.size)=some C.size):
 (Instr.loadAt T (PT b 0)).run P w=.ok (.agg C) w:=by
 have:=hU (P:=P) hb hu hd (o:=0) C.toList hi (by rw [List.drop_zero,List.take_of_length_le (by simp)]) (by simp);simpa using this
theorem dR {P:Program} {w:World} {b:Nat} {C:Array Value} {t:TypeId} {fr:Nat × Nat} (hb:w.heap[b]?=some (.cells C t fr)) {T:TypeId} {d:TypeDesc} (hu:P.underlying T=some d) (hd:d.isRow=true) (hi:(P.info? T).map (·.size)=some C.size):
 (loadVar T (AD b 0)).run P w=.ok (.agg C) w:=by
 have:=lY (P:=P) hb hu hd (o:=0) C.toList hi (by rw [List.drop_zero,List.take_of_length_le (by simp)]) (by simp);simpa using this
theorem dh {P:Program} {w:World} {b:Nat} {C V:Array Value} {t:TypeId} (hb:w.heap[b]?=some (.cells C t (0,0))) {T:TypeId} (hi:(P.info? T).map (·.size)=some V.size) (hs:V.size=C.size) (h1:V.all (·.oneCell')=true):
 (Instr.storeAt T (PT b 0) (.agg V)).run P w=.ok () (w.setCells b 0 V.toList):=
 hZ hb hi (by omega) h1
theorem cD {w:World} {b:Nat} {C V:Array Value} {t:TypeId} {fr:Nat × Nat} (hb:w.heap[b]?=some (.cells C t fr)) (hs:V.size=C.size):(w.setCells b 0 V.toList).heap[b]?=some (.cells V t fr):=by
 rw [dD b V.toList 0 w C t fr hb (by simp;omega),yD C V hs]
theorem gA {P:Program} {fn:Func} {R:Ending->World->Prop} {a:Act} {w:World} {s:Tmp} {T:TypeId} {b:Nat} {V:Value} (hr:fn.results=#[ResultVar.cell s T]) (hs:a.tmps[s]?=some (PT b 0)) (hl:(loadVar T (AD b 0)).run P w=.ok V w) (hd:a.defers=[]) (hR:R (.returned V) w):bodyPost P fn R .ret a w:=by
 refine bodyPost_ret (v:=V) ?_ hd hR;simp [results,hr,hs,asAddr,hl]
theorem aY {e T:TypeId} {size base n pb:Nat} {w:World} {s:Value} {cs:List Value} {cur:Array Value} {q:Nat × Nat} (h:w.ownsRow base e size s n cs) (hp:w.heap[pb]?=some (.cells cur T q)) (hT:T≠e):s.ownBlock≠some pb:=by
 rcases h.2 with ⟨h1,_⟩ | ⟨g,cap,cur',h1,_,h3,_⟩
 ·rw [h1];simp [Value.ownBlock]
 ·rw [h1];simp only [Value.ownBlock];intro he;have:g=pb:=Option.some.inj he;subst this;rw [h3] at hp;cases hp;exact hT rfl
theorem bS {e T:TypeId} {size base n pb:Nat} {w w':World} {s:Value} {cs:List Value} {cur:Array Value} {q:Nat × Nat} (h:w.ownsRow base e size s n cs) (hp:w.heap[pb]?=some (.cells cur T q)) (hT:T≠e) (hg:w.grownBy w' (some pb)):w'.ownsRow base e size s n cs:=
 h.kept hg (.inr (aY h hp hT))
theorem aP {P:Program} {a:Act} {d:Option Tmp} {T ty:TypeId} {x:Operand} {pos:String} {af:Array Edge} {g:Option (Nat × Bool)} {w:World} {b o:Nat} {V:Value} (hx:a.eval x=PT b o) (hl:(Instr.loadAt T (PT b o)).run P w=.ok V w):
 (execOp a.eval { dst:=d,op:=.load T x,type:=ty,pos:=pos,after:=af,guard:=g }).run P w=.ok (.value V) w:=by
 unfold execOp;simp only [hx,Sem.run_bind,hl,Result.andThen_ok,Sem.run_pure]
section
variable {P:Program} {ops:Array Oper} {Q:Exit->Act->World->Prop} {F:World->Prop} {c:Nat}
theorem xQ {fuel:Nat} {listed:Array Bool} {a:Act} {w w':World} (i:Nat) {o:Oper} (d:Tmp) (v:Value) (hd:o.dst=some d) (hi:ops[i]?=some o) (hg:o.guard=none) (hr:Region.ready .any ops listed=[i]) (he:(execOp a.eval o).run P w=.ok (.value v) w')
 (hS:(listed.setIfInBounds i true).getD c false=false->F w') (h:aL P ops Q F c fuel (listed.setIfInBounds i true) (a.put (some d) v) w'):aL P ops Q F c (fuel+1) listed a w:=by
 refine fW i hr ?_;unfold wpOp;simp only [hi];rw [if_pos (by simp [Region.wanted,hg])];refine .inl ?_;unfold Oper.wp;rw [he];refine ⟨hS,?_⟩;rw [hd];exact h
theorem gF {fuel:Nat} {listed:Array Bool} {a:Act} {w w':World} (i:Nat) {o:Oper} (d:Tmp) (v:Value) (hi:ops[i]?=some o) (hS:(listed.setIfInBounds i true).getD c false=false->F w') (h:aL P ops Q F c fuel (listed.setIfInBounds i true) (a.put (some d) v) w')
 (hd:o.dst=some d:=by kernel_rfl) (hg:o.guard=none:=by kernel_rfl) (hr:Region.ready .any ops listed=[i]:=by kernel_rfl) (he:(execOp a.eval o).run P w=.ok (.value v) w':=by kernel_rfl):aL P ops Q F c (fuel+1) listed a w:=xQ i d v hd hi hg hr he hS h
end
theorem mo {P:Program} {ops:Array Oper} {Q:Exit->Act->World->Prop} {K:Act->World->Prop} {a:Act} {w:World} (i:Nat) {o:Oper} (d:Tmp) (hd:o.dst=some d) (hi:ops[i]?=some o) (hg:o.guard=none) {f:FuncId} {args:Array Value} (he:(execOp a.eval o).run P w=.ok (.enter f args) w)
 (h:Calls P f args w fun e w'=>∃x,e=.returned x∧K (a.put (some d) x) w'):wpOp P ops Q i K a w:=by
 unfold wpOp;simp only [hi];rw [if_pos (by simp [Region.wanted,hg])];refine .inl ?_;unfold Oper.wp;rw [he];refine h.mono ?_;rintro e w' ⟨x,rfl,h2⟩;rw [hd];exact h2
theorem ld {P:Program} {ops:Array Oper} {Q:Exit->Act->World->Prop} {K:Act->World->Prop} {a:Act} {w w':World} (i:Nat) {o:Oper} (d:Tmp) (v:Value) (hd:o.dst=some d) (hi:ops[i]?=some o) (hg:o.guard=none) (he:(execOp a.eval o).run P w=.ok (.value v) w')
 (h:K (a.put (some d) v) w'):wpOp P ops Q i K a w:=by
 unfold wpOp;simp only [hi];rw [if_pos (by simp [Region.wanted,hg])];refine .inl ?_;unfold Oper.wp;rw [he];show K (a.put o.dst v) w';rw [hd];exact h
theorem xR {P:Program} {ops:Array Oper} {Q:Exit->Act->World->Prop} {F:World->Prop} {c:Nat} {fuel:Nat} {listed:Array Bool} {a:Act} {w:World} (i j:Nat) (hr:Region.ready .any ops listed=[i,j])
 (hi:wpOp P ops Q i (fun a' w'=>((listed.setIfInBounds i true).getD c false=false->F w')∧aL P ops Q F c fuel (listed.setIfInBounds i true) a' w') a w)
 (hj:wpOp P ops Q j (fun a' w'=>((listed.setIfInBounds j true).getD c false=false->F w')∧aL P ops Q F c fuel (listed.setIfInBounds j true) a' w') a w):aL P ops Q F c (fuel+1) listed a w:=
 ⟨fun h0=>(by rw [hr] at h0;cases h0),fun k hk=>by
  rw [hr] at hk;simp only [List.mem_cons,List.not_mem_nil,or_false] at hk;rcases hk with rfl | rfl
  ·exact hi
  ·exact hj⟩
theorem nv {a:Act} {d e:Tmp} {u v:Value} (h:d≠e):(a.put (some d) u).put (some e) v=(a.put (some e) v).put (some d) u:=by
 show Act.mk _ _=Act.mk _ _;congr 1;exact Array.setIfInBounds_comm _ _ h
theorem Ai {P:Program} {ops:Array Oper} {Q:Exit->Act->World->Prop} {F:World->Prop} {c:Nat} (i:Nat) {oi:Oper} (d:Tmp) (v:Value) {fuel:Nat} {listed:Array Bool} {a:Act} {w:World} (hi:ops[i]?=some oi) (hS:listed.getD c false=true∨F w)
 (h:aL P ops Q F c fuel (listed.setIfInBounds i true) (a.put (some d) v) w)
 (hb:(Region.noSelect ops && it ops listed && Region.free .any ops listed i && (Region.ready .any ops listed).contains i && (i != c) && Region.wanted oi (yielded ops a.tmps) && (oi.dst == some d))=true:=by kernel_rfl)
 (hQ:∀x a w,Q (.panic x) (a.put oi.dst v) w->Q (.panic x) a w:=by exact fun _ _ _ h=>h) (hy:∀u,(execOp a.eval oi).run P u=.ok (.value v) u:=by intro u;kernel_rfl):aL P ops Q F c (fuel+1) listed a w:=by
 simp only [Bool.and_eq_true] at hb;obtain ⟨⟨⟨⟨⟨⟨h1,h2⟩,h3⟩,h4⟩,h5⟩,h7⟩,h8⟩:=hb;exact wq i d v hi h1 h2 h3 h4 h5 hQ h7 hy hS (by simpa using h8) h
theorem li (zs:List Int) (va:Int):∀(l:Nat) (n:Int),(aN zs va l n).2.2.2.length<=l+1
 | 0,n=>by
  unfold aN;split
  ·simp
  ·split
   ·simp
   ·split <;> simp
 | l+1,n=>by
  unfold aN;split
  ·simp
  ·split
   ·simp
   ·split
    ·simp
    ·have:=li zs va l (cx (rdV zs (64*n+8*cg va ((l+1:Nat):Int)) 8));simp only [List.length_cons];omega
section
attribute [local go_sem ↓] Go.wp_at_zero Go.wp_at_succ
def nJ (mode:Int) (sum mxr:Bool) (satp:Int):Value:=.agg #[VI mode,.bool sum,.bool mxr,VU satp]
theorem nK (zs:List Int) (va:Int) (h:∀i:Nat,0<=zs[i]?.getD 0∧zs[i]?.getD 0<=255):∀(l:Nat) (n:Int),l<=2->
 0<=(aN zs va l n).2.2.1∧(aN zs va l n).2.2.1<=18446744073709551615∧0<=(aN zs va l n).2.1∧(aN zs va l n).2.1<=2
 | 0,n,hl=>by
  unfold aN;have hb:=nj zs (64*n+8*cg va ((0:Nat):Int)) 8 (by omega) h;split
  ·simp
  ·split
   ·simp
   ·split
    ·exact ⟨hb.1,hb.2,by simp,by simp⟩
    ·simp
 | l+1,n,hl=>by
  unfold aN;have hb:=nj zs (64*n+8*cg va ((l+1:Nat):Int)) 8 (by omega) h;split
  ·exact ⟨by simp,by simp,by show (0:Int)<=((l+1:Nat):Int);omega,by show ((l+1:Nat):Int)<=2;omega⟩
  ·split
   ·exact ⟨by simp,by simp,by show (0:Int)<=((l+1:Nat):Int);omega,by show ((l+1:Nat):Int)<=2;omega⟩
   ·split
    ·exact ⟨hb.1,hb.2,by show (0:Int)<=((l+1:Nat):Int);omega,by show ((l+1:Nat):Int)<=2;omega⟩
    ·exact nK zs va h l _ (by omega)
theorem sD (zs:List Int) (root va:Int) (h:∀i:Nat,0<=zs[i]?.getD 0∧zs[i]?.getD 0<=255):
 0<=(aU zs root va).2.2.1∧(aU zs root va).2.2.1<=18446744073709551615∧0<=(aU zs root va).2.1∧(aU zs root va).2.1<=2:=by
 unfold aU;split
 ·simp
 ·exact nK zs va h 2 _ (by omega)
end
structure EntM where
 valid:Bool
 level:Int
 tag:Int
 asid:Int
 glob:Bool
 pte:Int
def bC:EntM:=⟨false,0,0,0,false,0⟩
structure TlbM where
 sets:Int
 ways:Int
 es:List EntM
def cG (va level:Int):Int:=if level=0 then va/64%512 else if level=1 then va/512%64 else va/4096%8
def tW (level:Int):Int:=if level=0 then 512 else if level=1 then 64 else 8
def lO (p:Bool):Int:=if p=true then 1 else 2
def aH (e:EntM) (p:Bool):Bool:=
 e.valid && decide (0<=e.level) && decide (e.level<=2) && decide (e.tag<tW e.level) && decide (e.asid<=65535) && (e.glob == aZ e.pte 32) && (aV e.pte e.level == lO p)
def ft (e:EntM):Prop:=
 (-9223372036854775808<=e.level∧e.level<=9223372036854775807)∧(0<=e.tag∧e.tag<=18446744073709551615)∧(0<=e.asid∧e.asid<=18446744073709551615)∧(0<=e.pte∧e.pte<=18446744073709551615)
def ky (e:EntM):List Value:=[.bool e.valid,VI e.level,VU e.tag,VU e.asid,.bool e.glob,VU e.pte]
def AQ (e:EntM):Value:=.agg #[.bool e.valid,VI e.level,VU e.tag,VU e.asid,.bool e.glob,VU e.pte]
section
attribute [local go_sem ↓] Go.wp_at_zero Go.wp_at_succ
def bE:List EntM->List Value
 | []=>[]
 | e::r=>ky e++bE r
def TlbAt (w:World) (v:Value) (t:TlbM):Prop:=
 ∃a cap,v=.agg #[VI t.sets,VI t.ways,.slice a t.es.length cap]∧RowC w a t.es.length 6 (bE t.es)∧(∀e∈t.es,ft e)∧
  (-9223372036854775808<=t.sets∧t.sets<=9223372036854775807)∧(-9223372036854775808<=t.ways∧t.ways<=9223372036854775807)∧t.es.length<=1048576∧t.es.length<=cap∧cap<=9223372036854775807∧(a=none->t.es.length=0∧cap=0)∧(∀q,a=some q->q.spot=none)
theorem fO:∀es:List EntM,(bE es).length=es.length*6
 | []=>rfl
 | e::r=>by simp [bE,ky,fO r];omega
theorem nE:∀(es:List EntM) (i j:Nat) (hi:i<es.length),j<6->(bE es)[i*6+j]?=(ky es[i])[j]?
 | e::r,0,j,hi,hj=>by
  simp only [bE,List.getElem_cons_zero,Nat.zero_mul,Nat.zero_add];rw [List.getElem?_append_left (by simp [ky];exact hj)]
 | e::r,i+1,j,hi,hj=>by
  simp only [bE,List.getElem_cons_succ];rw [List.getElem?_append_right (by simp [ky];omega)];have:(i+1)*6+j-(ky e).length=i*6+j:=by simp [ky];omega
  rw [this];exact nE r i j (by simpa using hi) hj
def ik (t:TlbM):Bool:=decide ((t.sets=1∨t.sets=2∨t.sets=4∨t.sets=8)∧1<=t.ways∧t.ways<=4∧(t.es.length:Int)=t.sets*t.ways)
def bL (t:TlbM) (p:Bool) (i:Nat) (e:EntM):Bool:=
 (e.valid == false && e.level == 0 && e.tag == 0 && e.asid == 0 && e.glob == false && e.pte == 0) || (aH e p && (e.tag%t.sets == (i:Int)/t.ways))
def fj (t:TlbM) (p:Bool):Nat->List EntM->Bool
 | _,[]=>true
 | i,e::r=>bL t p i e && fj t p (i+1) r
def aF (t:TlbM) (p:Bool):Bool:=ik t && fj t p 0 t.es
theorem eI (t:TlbM) (p:Bool):∀(es:List EntM) (i:Nat),(∀j x,es[j]?=some x->bL t p (i+j) x=true)->fj t p i es=true
 | [],i,h=>rfl
 | e::r,i,h=>by
  simp only [fj,Bool.and_eq_true];refine ⟨by simpa using h 0 e rfl,eI t p r (i+1) (fun j x hx=>?_)⟩;have:=h (j+1) x (by simpa using hx);rw [show i+1+j=i+(j+1) by omega];exact this
theorem gG (t:TlbM) (p:Bool):∀(es:List EntM) (i j:Nat) (x:EntM),es[j]?=some x->bL t p (i+j) x=false->fj t p i es=false
 | e::r,i,0,x,hx,h=>by
  simp at hx;subst hx;simp only [fj,Nat.add_zero] at h |-;rw [h];rfl
 | e::r,i,j+1,x,hx,h=>by
  simp only [fj];rw [gG t p r (i+1) j x (by simpa using hx) (by rw [show i+1+j=i+(j+1) by omega];exact h),Bool.and_false]
theorem xY {w:World} {b off n:Nat} {es:List EntM} (h:RowC w (some (AD b off)) n 6 (bE es)) (hn:es.length=n) (k:Nat) (x:EntM) (hx:es[k]?=some x) (j:Nat) (v:Value) (hj:j<6) (hv:(ky x)[j]?=some v):
 w.cell? ⟨b,off+(k*6+j),none⟩=some v:=by
 have hk:=(List.getElem?_eq_some_iff.1 hx).1;rcases h.2 with h0 | ⟨b',off',e,_,hc⟩
 ·omega
 ·simp at e;obtain ⟨rfl,rfl⟩:=e;refine hc _ _ ?_;rw [nE es k j hk hj];rw [geg hk] at hx;simp at hx;rw [hx];exact hv
end
section
attribute [local go_sem ↓] Go.wp_at_zero Go.wp_at_succ
theorem TlbAt.keep {w w':World} {v:Value} {t:TlbM} (h:TlbAt w v t) (hb:Bw w w'):TlbAt w' v t:=by
 obtain ⟨a,cap,rfl,hr,r⟩:=h;exact ⟨a,cap,rfl,hr.keep hb,r⟩
def fH (t:TlbM):Bool:=aF t true || aF t false
def gQ (x:EntM) (va asid:Int):Bool:=x.valid && (x.tag == cG va x.level) && (x.glob || x.asid == asid)
end
end Go.Proofs.YthdgiakgepmabaaGreat
