import Derived.Test.YtfgogedgolgnaaaHk05
import Derived.StillTail
import Derived.Deep.Slices
import Derived.Lib.SmallJoins
import Derived.Laws.CopyRow
namespace Go.Proofs.Ytfgogedgolgnaaa
open Go.RowKit
set_option linter.unusedVariables false
set_option maxHeartbeats 6400000
set_option maxRecDepth 20000
def iZ (zs:List Int):List Value:=zs.map (Value.int .u8)
def KRows (base:Nat) (w:World) (q:PtrM) (k:KM):Prop:=
 w.ownsRow base 42 6 (.slice q.a1 k.i.es.length q.c1) k.i.es.length (ak k.i.es)∧w.ownsRow base 42 6 (.slice q.a2 k.d.es.length q.c2) k.d.es.length (ak k.d.es)∧w.ownsRow base 42 6 (.slice q.a3 k.p.es.length q.c3) k.p.es.length (ak k.p.es)
theorem KRows.set {base pb:Nat} {w w':World} {q:PtrM} {k:KM} {cur:Array Value} {T:TypeId} {f:Nat × Nat} (h:KRows base w q k) (hp:w.heap[pb]?=some (.cells cur T f)) (hT:T≠42) (hg:w.grownBy w' (some pb)):KRows base w' q k:=
 ⟨cq h.1 hp hT hg,cq h.2.1 hp hT hg,cq h.2.2 hp hT hg⟩
theorem KRows.keep {base:Nat} {w w':World} {q:PtrM} {k:KM} (h:KRows base w q k) (hb:Below w.heap.size w w'):KRows base w' q k:=
 ⟨aq h.1 hb,aq h.2.1 hb,aq h.2.2 hb⟩
theorem da {base:Nat} {w:World} {t:TlbM} {a:Option Addr} {c:Nat} (ho:w.ownsRow base 42 6 (.slice a t.es.length c) t.es.length (ak t.es)) (hk:bw t):TlbAt w (.agg #[.int .i64 t.sets,.int .i64 t.ways,.slice a t.es.length c]) t:=by
 have hr:=dq ho;rcases ho.2 with ⟨h2,h3⟩ | ⟨g',cap',cur,h2,hb,hg,hc1,hc2,_⟩
 ·simp only [Value.slice.injEq] at h2;obtain ⟨rfl,h4,rfl⟩:=h2;exact ⟨none,0,rfl,hr,hk.1,hk.2.1,hk.2.2.1,hk.2.2.2,by omega,by omega,fun _=>⟨h4,rfl⟩,fun q hq=>(by cases hq)⟩
 ·simp only [Value.slice.injEq] at h2;obtain ⟨rfl,_,rfl⟩:=h2;exact ⟨some ⟨g',0,none⟩,_,rfl,hr,hk.1,hk.2.1,hk.2.2.1,hk.2.2.2,hc1,by unfold maxLen at hc2;omega,(by intro h;cases h),(by intro q hq;cases hq;rfl)⟩
theorem KRows.at {base:Nat} {w:World} {q:PtrM} {k:KM} (h:KRows base w q k) (hk:kOk k):KAt w (.agg (kA q k)) k:=
 ⟨_,_,_,_,_,_,rfl,da h.1 hk.1,da h.2.1 hk.2.1,da h.2.2 hk.2.2⟩
theorem KAt.ok {w:World} {v:Value} {k:KM} (h:KAt w v k):kOk k:=by
 obtain ⟨a1,c1,a2,c2,a3,c3,rfl,h1,h2,h3⟩:=h;exact ⟨h1.ok,h2.ok,h3.ok⟩
theorem iR (p:PtrM) (k:KM):(kA p k).all (·.oneCell')=true:=by
 simp [kA,Value.oneCell']
theorem kI:(Try.prog.info? 61).map (·.size)=some 9:=by kernel_rfl
section
variable {P:Program} {ops:Array Oper}
def dl (ops:Array Oper) (j:Nat):Option Tmp:=(ops[j]?).bind (·.dst)
structure Head (ops:Array Oper) (ws:List Nat) (z s i:Nat) (o:Oper) (d:Tmp):Prop where
 op:ops[i]?=some o
 dst:o.dst=some d
 lt:d<s
 guard:i∈ws->o.guard=none
 apart:∀j,j<z->j≠i->dl ops j≠some d
 looks:∀j t,j<z->dl ops j=some t->t∈o.looksAt ops->j<i∧Region.waitsFor .any ops i j=true∧(i∈ws∨j∉ws)
 sink:∃j,i<j∧j<z+1∧Region.waitsFor .any ops j i=true
structure Fr (ops:Array Oper) (ws:List Nat) (z:Nat) (a A:Act) (S:Nat->Prop) (p:Nat->Value) (b:Act):Prop where
 defers:b.defers=a.defers
 size:b.tmps.size=a.tmps.size
 old:∀d:Nat,(∀j,j<z->S j->dl ops j≠some d)->b.tmps[d]?=a.tmps[d]?
 new:∀(d:Nat) j,j<z->S j->j∉ws->dl ops j=some d->b.tmps[d]?=A.tmps[d]?
 wild:∀(d:Nat) j,j<z->S j->j∈ws->dl ops j=some d->b.tmps[d]?=some (p j)
theorem hJ {b:Act} {d:Nat} {x:Value} (h:d<b.tmps.size):(b.put (some d) x).tmps[d]?=some x:=by
 simp [Act.put,h]
theorem eI {b:Act} {e:Option Tmp} {d:Nat} {x:Value} (h:e≠some d):(b.put e x).tmps[d]?=b.tmps[d]?:=by
 cases e with
 | none=>rfl
 | some e=>simp [Act.put,Array.getElem?_setIfInBounds_ne (show e≠d from fun he=>h (he ▸ rfl))]
theorem Head.is {ws:List Nat} {z s i:Nat} {o:Oper} {d:Tmp} (h:Head ops ws z s i o d):dl ops i=some d:=by
 rw [dl,h.op];exact h.dst
theorem Fr.put {ws:List Nat} {z s i d:Nat} {a A b:Act} {S S':Nat->Prop} {p p':Nat->Value} {o:Oper} {x:Value} (h:Fr ops ws z a A S p b) (hh:Head ops ws z s i o d) (hs:a.tmps.size=s) (hx:i∉ws->A.tmps[d]?=some x) (hp:i∈ws->p' i=x) (hp':∀j,j≠i->p' j=p j)
 (hS:∀j,j<z->(S' j↔S j∨j=i)) (hi:i<z):Fr ops ws z a A S' p' (b.put (some d) x):=by
 have one:∀e j,j<z->S' j->dl ops j=some e->(d=e∧j=i)∨(d≠e∧S j∧j≠i):=fun e j hj hSj hd=>by
  by_cases hji:j=i
  ·subst hji;exact .inl ⟨Option.some.inj (hh.is.symm.trans hd),rfl⟩
  ·refine .inr ⟨fun hde=>hh.apart j hj hji (by rw [hd,hde]),((hS j hj).1 hSj).resolve_right hji,hji⟩
 refine ⟨h.defers,by simp [Act.put,h.size],fun e he=>?_,fun e j hj hSj hw hd=>?_,fun e j hj hSj hw hd=>?_⟩
 ·have hne:d≠e:=fun hde=>he i hi ((hS i hi).2 (.inr rfl)) (by rw [hh.is,hde]);rw [eI (by simpa using hne)];exact h.old e fun j hj hj2=>he j hj ((hS j hj).2 (.inl hj2))
 ·rcases one e j hj hSj hd with ⟨rfl,rfl⟩ | ⟨h1,h2,h3⟩
  ·rw [hJ (by rw [h.size,hs];exact hh.lt),hx hw]
  ·rw [eI (by simpa using h1)];exact h.new e j hj h2 hw hd
 ·rcases one e j hj hSj hd with ⟨rfl,rfl⟩ | ⟨h1,h2,h3⟩
  ·rw [hJ (by rw [h.size,hs];exact hh.lt),hp hw]
  ·rw [eI (by simpa using h1),hp' j h3];exact h.wild e j hj h2 hw hd
def Closed (ops:Array Oper) (listed:Array Bool):Prop:=∀j oj,ops[j]?=some oj->listed.getD j false=true->∀e∈oj.after,Region.binds .any e=true->listed.getD e.on false=true
theorem Closed.set {listed:Array Bool} {i:Nat} (h:Closed ops listed) (hi:i∈Region.ready .any ops listed):Closed ops (listed.setIfInBounds i true):=by
 obtain ⟨_,oi,hoi,hall⟩:=mem_ready.1 hi;intro j oj hj hl e he hb;by_cases hij:i=j
 ·subst hij;have:oj=oi:=Option.some.inj (hj.symm.trans hoi);subst this;exact getD_set_true (hall e he hb)
 ·rw [getD_set_ne false hij] at hl;exact getD_set_true (h j oj hj hl e he hb)
theorem eJ {listed:Array Bool} {i j:Nat} (hc:Closed ops listed) (hi:listed.getD i false=true) (hw:Region.waitsFor .any ops i j=true):listed.getD j false=true:=by
 obtain ⟨o,ho,e,he,hb,hon⟩:=Region.waitsFor_spec hw;rw [<-hon];exact hc i o ho hi e he hb
theorem ir {listed:Array Bool} {i:Nat} (h:listed.getD i true=false):listed.getD i false=false:=by
 rcases Nat.lt_or_ge i listed.size with h' | h'
 ·simp [h'] at h |-;exact h
 ·simp [Array.getElem?_eq_none h'] at h
def WildAt (P:Program) (o:Oper) (a:Act) (w:World) (K:Value->World->Prop):Prop:=
 (∃x w',(execOp a.eval o).run P w=.ok (.value x) w'∧K x w')∨(∃f args,(execOp a.eval o).run P w=.ok (.enter f args) w∧Calls P f args w fun e w'=>∃x,e=.returned x∧K x w')
theorem WildAt.wp {Q:Exit->Act->World->Prop} {o:Oper} {a b:Act} {w:World} {K:Value->World->Prop} {K':Act->World->Prop} (h:WildAt P o a w K) (he:execOp b.eval o=execOp a.eval o) (hK:∀x w',K x w'->K' (b.put o.dst x) w'):o.wp P b w K' Q:=by
 unfold Oper.wp;rw [he];rcases h with ⟨x,w',h1,h2⟩ | ⟨f,args,h1,h2⟩
 ·rw [h1];exact hK x w' h2
 ·rw [h1];refine h2.mono ?_;rintro e w' ⟨x,rfl,hx⟩;exact hK x w' hx
end
section
variable {P:Program} {ops:Array Oper} {Q:Exit->Act->World->Prop} {F:World->Prop} {c:Nat}
def bA (P:Program) (ops:Array Oper) (Q:Exit->Act->World->Prop) (F:World->Prop) (c:Nat):Nat->Array Bool->Act->World->Prop
 | 0,listed,a,w=>Region.ready .any ops listed=[]∧Q .normal a w
 | fuel+1,listed,a,w=>
  (Region.ready .any ops listed=[]->Q .normal a w)∧
  ∀i∈Region.ready .any ops listed,wpOp P ops Q i (fun a' w'=>((listed.setIfInBounds i true).getD c false=false->F w')∧bA P ops Q F c fuel (listed.setIfInBounds i true) a' w') a w
theorem dI:∀(fuel:Nat) (listed:Array Bool) (a:Act) (w:World),bA P ops Q F c fuel listed a w->wpAny P .any ops Q fuel listed a w
 | 0,_,_,_,h=>h
 | fuel+1,_,_,_,h=>⟨h.1,fun i hi=>wpOp_mono (fun a' w' h'=>dI fuel _ a' w' h'.2) (h.2 i hi)⟩
theorem fI {i:Nat} {oi:Oper} {v:Value} (hi:ops[i]?=some oi) (hic:i≠c) (hsel:∀(j:Nat) (o:Oper) cs b,ops[j]?=some o->o.op≠.select cs b)
 (hQ:∀x a w,Q (.panic x) (a.put oi.dst v) w->Q (.panic x) a w):
 ∀(fuel:Nat) (listed:Array Bool) (a:Act) (w:World),Closed ops listed->
  (∀j oj,ops[j]?=some oj->j≠i->listed.getD j true=false->(∀e∈oj.after,Region.binds .any e=true->e.on≠i)->oi.apart ops oj=true)->
  i∈Region.ready .any ops listed->YieldsIf P ops (fun w=>∃l,Closed ops l∧l.getD i true=false∧(l.getD c false=false->F w)) oi v a->(listed.getD c false=false->F w)->
  bA P ops Q F c fuel (listed.setIfInBounds i true) (a.put oi.dst v) w->bA P ops Q F c (fuel+1) listed a w:=by
 intro fuel
 induction fuel with
 | zero=>
  intro listed a w hc _ hr hy hS H;refine ⟨fun h=>(by rw [h] at hr;cases hr),fun j hj=>?_⟩;by_cases hji:j=i
  ·subst hji;exact hy.wpOp hi ⟨listed,hc,(mem_ready.1 hr).1,hS⟩ ⟨fun h=>hS (by rwa [getD_set_ne false hic] at h),H⟩
  ·have:=ready_mono hj hji;rw [H.1] at this;cases this
 | succ fuel ih=>
  intro listed a w hc hfree hr hy hS H;refine ⟨fun h=>(by rw [h] at hr;cases hr),fun j hj=>?_⟩;by_cases hji:j=i
  ·subst hji;exact hy.wpOp hi ⟨listed,hc,(mem_ready.1 hr).1,hS⟩ ⟨fun h=>hS (by rwa [getD_set_ne false hic] at h),H⟩
  ·have h1:=H.2 j (ready_mono hj hji);obtain ⟨hjun,oj,hoj,hall⟩:=mem_ready.1 hj;have hnot:∀e∈oj.after,Region.binds .any e=true->e.on≠i:=fun e he hb heq=>by
    have h1:=hall e he hb;have h0:=(mem_ready.1 hr).1;rw [heq] at h1;rcases Nat.lt_or_ge i listed.size with h' | h'
    ·simp [h'] at h0 h1;rw [h0] at h1;cases h1
    ·simp [Array.getElem?_eq_none h'] at h1
   have h2:=wpOp_putIf hoj (hfree j oj hoj hji hjun hnot) (fun cs b=>hsel i oi cs b hi) (fun cs b=>hsel j oj cs b hoj) hQ hy h1;have hfree':∀k ok,ops[k]?=some ok->k≠i->(listed.setIfInBounds j true).getD k true=false->
    (∀e∈ok.after,Region.binds .any e=true->e.on≠i)->oi.apart ops ok=true:=fun k ok hk hki hun hno=>by
    refine hfree k ok hk hki ?_ hno;by_cases hjk:j=k
    ·subst hjk;exact hjun
    ·rw [getD_set_ne true hjk] at hun;exact hun
   have hcm:(listed.setIfInBounds i true).setIfInBounds j true=(listed.setIfInBounds j true).setIfInBounds i true:=Array.setIfInBounds_comm _ _ (Ne.symm hji);refine wpOp_mono (fun a' w' h3=>?_) h2;have hF:(listed.setIfInBounds j true).getD c false=false->F w':=fun h=>h3.2.1 (by rw [hcm,getD_set_ne false hic];exact h);refine ⟨hF,ih (listed.setIfInBounds j true) a' w' (hc.set hj) hfree' (ready_mono hr (Ne.symm hji)) h3.1 hF ?_⟩;rw [<-hcm];exact h3.2.2
def fW (ops:Array Oper) (listed:Array Bool):Bool:=
 (List.range ops.size).all fun j=>!listed.getD j false || match ops[j]? with
  | none=>true
  | some o=>o.after.all fun e=>!Region.binds .any e || listed.getD e.on false
theorem eD {listed:Array Bool} (h:fW ops listed=true):Closed ops listed:=by
 intro j oj hj hl e he hb;have h1:=List.all_eq_true.1 h j (List.mem_range.2 (Array.getElem?_eq_some_iff.1 hj).1);simp only [hj,hl,Bool.not_true,Bool.false_or] at h1;have h2:=Array.all_eq_true_iff_forall_mem.1 h1 e he;simpa [hb] using h2
def dJ (ops:Array Oper):Nat->Nat->Nat->Bool
 | 0,c,i=>c == i
 | f+1,c,i=>c == i || (List.range ops.size).any fun j=>Region.waitsFor .any ops c j && dJ ops f j i
theorem di {listed:Array Bool} (hc:Closed ops listed) {i:Nat}:∀(f c:Nat),dJ ops f c i=true->listed.getD c false=true->listed.getD i false=true
 | 0,c,h,hl=>by
  have:c=i:=by simpa [dJ] using h
  subst this;exact hl
 | f+1,c,h,hl=>by
  simp only [dJ,Bool.or_eq_true,beq_iff_eq,List.any_eq_true,Bool.and_eq_true] at h;rcases h with rfl | ⟨j,_,hw,hr⟩
  ·exact hl
  ·exact di hc f j hr (eJ hc hl hw)
theorem ee (i:Nat) {oi:Oper} (d:Tmp) (v:Value) {fuel:Nat} {listed:Array Bool} {a:Act} {w:World} (hi:ops[i]?=some oi) (hs:Region.noSelect ops=true) (hcl:fW ops listed=true) (hf:Region.free .any ops listed i=true) (hr:(Region.ready .any ops listed).contains i=true) (hic:(i != c)=true) (hrc:dJ ops ops.size c i=true)
 (hQ:∀x a w,Q (.panic x) (a.put oi.dst v) w->Q (.panic x) a w) (hw:Region.wanted oi (yielded ops a.tmps)=true) (hy:∀u,F u->(execOp a.eval oi).run P u=.ok (.value v) u) (hS:F w)
 (hd:oi.dst=some d) (h:bA P ops Q F c fuel (listed.setIfInBounds i true) (a.put (some d) v) w):bA P ops Q F c (fuel+1) listed a w:=
 fI hi (by simpa using hic) (Region.noSelect_spec hs) hQ fuel listed a w (eD hcl) (Region.free_spec hi hf) (by simpa using hr)
  (.inl ⟨hw,fun u ⟨l,h1,h2,h3⟩=>hy u (h3 (by
   cases hh:l.getD c false
   ·rfl
   ·have:=di h1 _ _ hrc hh;rw [ir h2] at this;cases this))⟩) (fun _=>hS) (by rw [hd];exact h)
theorem eZ {fuel:Nat} {listed:Array Bool} {a:Act} {w:World} (i:Nat) (hr:Region.ready .any ops listed=[i])
 (h:wpOp P ops Q i (fun a' w'=>((listed.setIfInBounds i true).getD c false=false->F w')∧bA P ops Q F c fuel (listed.setIfInBounds i true) a' w') a w):bA P ops Q F c (fuel+1) listed a w:=
 ⟨fun h0=>(by rw [hr] at h0;cases h0),fun j hj=>by
  rw [hr] at hj;have:j=i:=by simpa using hj
  subst this;exact h⟩
theorem ef {fuel:Nat} {listed:Array Bool} {a:Act} {w:World} (i:Nat) {o:Oper} (d:Tmp) (hd:o.dst=some d) (hi:ops[i]?=some o) (hg:o.guard=none) (hr:Region.ready .any ops listed=[i]) {f:FuncId} {args:Array Value} (he:(execOp a.eval o).run P w=.ok (.enter f args) w)
 (h:Calls P f args w fun e w'=>∃x,e=.returned x∧((listed.setIfInBounds i true).getD c false=false->F w')∧bA P ops Q F c fuel (listed.setIfInBounds i true) (a.put (some d) x) w'):bA P ops Q F c (fuel+1) listed a w:=by
 refine eZ i hr ?_;unfold wpOp;simp only [hi];rw [if_pos (by simp [Region.wanted,hg])];refine .inl ?_;unfold Oper.wp;rw [he];refine h.mono ?_;rintro e w' ⟨x,rfl,hS,h2⟩;refine ⟨hS,?_⟩;rw [hd];exact h2
theorem gx {listed:Array Bool} {a:Act} {w:World} (hr:Region.ready .any ops listed=[]) (h:Q .normal a w):∀fuel,bA P ops Q F c fuel listed a w
 | 0=>⟨hr,h⟩
 | _+1=>⟨fun _=>h,by rw [hr];simp⟩
theorem dp {id:Nat} {a:Act} {w:World} (F:World->Prop) (c:Nat) (hm:P.follows .mixedOrders=true) (h:bA P ops Q F c ops.size (Array.replicate ops.size false) a w.drew):(Code.region id ops true).wp P Q a w:=
 wp_region_any hm (dI _ _ _ _ h)
end
structure PartsAt (plain:Bool) (pick kind:Int) (r0:RunM) (cut:List dL) (ri:RunM) (done rest:List dL):Prop where
 eq:bu plain pick kind r0 cut=((bu plain pick kind ri rest).1,done++(bu plain pick kind ri rest).2)
 ok:ROk ri
 cause:ri.cause=0
 parts:hY (done++rest)
 looks:ri.looks.length+rest.length<=8
theorem PartsAt.step {plain:Bool} {pick kind:Int} {r0 ri:RunM} {cut done rest:List dL} {q:dL} (h:PartsAt plain pick kind r0 cut ri done (q::rest)) (hp:0<=pick∧pick<=255) (hk:0<=kind∧kind<=2) (h0:(bF plain pick ri.h kind q.1).1.1=0):
 PartsAt plain pick kind r0 cut (fg plain pick ri kind q.1) (done++[(q.1,q.2.1,(bF plain pick ri.h kind q.1).1.2)]) rest:=by
 have hq:=h.parts q (List.mem_append_right _ (List.mem_cons_self ..));refine ⟨?_,gH h.ok plain hp hk hq.1,h.cause,?_,?_⟩
 ·rw [h.eq,bu,if_pos h0];simp
 ·intro x hx;rw [List.append_assoc,List.mem_append] at hx;rcases hx with hx | hx
  ·exact h.parts x (List.mem_append_left _ hx)
  ·rcases List.mem_cons.1 hx with rfl | hx
   ·exact ⟨hq.1,hq.2.1,(dZ h.ok.h plain hp hk hq.1).2.2⟩
   ·exact h.parts x (List.mem_append_right _ (List.mem_cons_of_mem _ hx))
 ·have:=h.looks;simp only [List.length_cons] at this;show (ri.looks++[(kind,q.1)]).length+rest.length<=8;rw [List.length_append,List.length_singleton];omega
section
attribute [local go_sem ↓] Go.wp_at_zero Go.wp_at_succ
theorem From.low {B C:Nat} {p p':PtrM} (h:From C p p') (hc:B<=C):From B p p':=fun q hq=>(h q hq).imp id fun h=>Nat.le_trans hc h
theorem FromL.low {B C:Nat} {p p':Option Addr} (h:FromL C p p') (hc:B<=C):FromL B p p':=fun q hq=>(h q hq).imp id fun h=>Nat.le_trans hc h
end
section
variable {P:Program} {ops:Array Oper} {Q:Exit->Act->World->Prop} {F:World->Prop} {c:Nat}
theorem gL {fuel:Nat} {listed:Array Bool} {a:Act} {w w':World} (i:Nat) {o:Oper} (d:Tmp) (v:Value) (hd:o.dst=some d) (hi:ops[i]?=some o) (hg:o.guard=none) (hr:Region.ready .any ops listed=[i]) (he:(execOp a.eval o).run P w=.ok (.value v) w')
 (hS:(listed.setIfInBounds i true).getD c false=false->F w') (h:bA P ops Q F c fuel (listed.setIfInBounds i true) (a.put (some d) v) w'):bA P ops Q F c (fuel+1) listed a w:=by
 refine eZ i hr ?_;unfold wpOp;simp only [hi];rw [if_pos (by simp [Region.wanted,hg])];refine .inl ?_;unfold Oper.wp;rw [he];refine ⟨hS,?_⟩;rw [hd];exact h
end
section
attribute [local go_sem ↓] Go.wp_at_zero Go.wp_at_succ
def iP (zs:List Int):List Value:=zs.map (Value.int .i64)
end
section
attribute [local go_sem ↓] Go.wp_at_zero Go.wp_at_succ
theorem fG (w:World) (n:Nat):Below w.heap.size w (w.drewN n):=
 have h:=gD (aO w none) n
 ⟨h.os,h.tape,h.output,h.size,fun i hi=>h.block i hi (by simp)⟩
structure HartR (w:World) (p:PtrM) (h:HartM):Prop where
 mem:Byt w p.am h.mem.length h.mem
 regs:RowC w p.ar h.regs.length 1 (bv h.regs)
 r1:RowC w p.a1 h.k.i.es.length 6 (ak h.k.i.es)
 r2:RowC w p.a2 h.k.d.es.length 6 (ak h.k.d.es)
 r3:RowC w p.a3 h.k.p.es.length 6 (ak h.k.p.es)
theorem HartR.keep {w w':World} {p:PtrM} {h:HartM} (k:HartR w p h) (hb:Below w.heap.size w w'):HartR w' p h:=
 ⟨k.mem.keep hb,k.regs.keep hb,k.r1.keep hb,k.r2.keep hb,k.r3.keep hb⟩
structure HartB (h:HartM):Prop where
 m:h.mem.length<=1048576
 r:h.regs.length<=1048576
 k1:h.k.i.es.length<=1048576
 k2:h.k.d.es.length<=1048576
 k3:h.k.p.es.length<=1048576
theorem bZ {e e':TypeId} {size size' base base' n n':Nat} {w:World} {s s':Value} {cs cs':List Value} (h:w.ownsRow base e size s n cs) (h':w.ownsRow base' e' size' s' n' cs') (he:e≠e'):bV s s':=by
 intro g h1 h2;rcases h'.2 with ⟨h3,_⟩ | ⟨g',cap,cur,h3,_,h4,_⟩
 ·rw [h3] at h2;simp [Value.ownBlock] at h2
 ·rw [h3] at h2;simp only [Value.ownBlock] at h2;have hg:g'=g:=Option.some.inj h2;subst hg;exact dN h h4 (Ne.symm he) h1
theorem fH (p q:PtrM) (h:HartM) (w:World) (hp:HartR w p h) (hq:HartR w q h) (hb:HartB h):
 Calls Try.prog 28 #[.agg (ae p h),.agg (ae q h)] w fun e w'=>e=.returned (.bool true)∧Below w.heap.size w w':=by
 have E1:Hid (∀u,Below w.heap.size w u->Calls Try.prog 60 #[.slice p.am h.mem.length p.cm,.slice q.am h.mem.length q.cm] u fun e w'=>e=.returned (.bool true)∧Below u.heap.size u w'):=fun u hu=>eC _ _ _ _ _ h.mem u (hp.mem.keep hu) (hq.mem.keep hu) hb.m;have E2:Hid (∀u,Below w.heap.size w u->Calls Try.prog 61 #[.slice p.ar h.regs.length p.cr,.slice q.ar h.regs.length q.cr] u fun e w'=>e=.returned (.bool true)∧Below u.heap.size u w'):=fun u hu=>(dv _ _ _ _ _ h.regs u (hp.regs.keep hu) (hq.regs.keep hu) hb.r).mono (by
  rintro e w' ⟨rfl,n,rfl⟩;exact ⟨rfl,fG _ _⟩)
 have E3:Hid (∀u,Below w.heap.size w u->Calls Try.prog 62 #[.agg (kA p h.k),.agg (kA q h.k)] u fun e w'=>e=.returned (.bool true)∧Below u.heap.size u w'):=fun u hu=>ev h.k _ _ _ _ _ _ u ⟨_,_,rfl,hp.r1.keep hu⟩ ⟨_,_,rfl,hp.r2.keep hu⟩ ⟨_,_,rfl,hp.r3.keep hu⟩ ⟨_,_,rfl,hq.r1.keep hu⟩ ⟨_,_,rfl,hq.r2.keep hu⟩ ⟨_,_,rfl,hq.r3.keep hu⟩ hb.k1 hb.k2 hb.k3;clear hp hq hb;have F:=hI w (ae p h) (ae q h) 63 63;have A0:Hid ((ae p h)[0]?=some (.slice p.am h.mem.length p.cm)):=by show _=_;rfl
 have B0:Hid ((ae q h)[0]?=some (.slice q.am h.mem.length q.cm)):=by show _=_;rfl
 have A1:Hid ((ae p h)[1]?=some (.slice p.ar h.regs.length p.cr)):=by show _=_;rfl
 have B1:Hid ((ae q h)[1]?=some (.slice q.ar h.regs.length q.cr)):=by show _=_;rfl
 have A2:Hid ((ae p h)[2]?=some (.int .u64 h.pc)):=by show _=_;rfl
 have B2:Hid ((ae q h)[2]?=some (.int .u64 h.pc)):=by show _=_;rfl
 have A3:Hid ((ae p h)[3]?=some (.int .i64 h.mode)):=by show _=_;rfl
 have B3:Hid ((ae q h)[3]?=some (.int .i64 h.mode)):=by show _=_;rfl
 have A4:Hid ((ae p h)[4]?=some (.bool h.sum)):=by show _=_;rfl
 have B4:Hid ((ae q h)[4]?=some (.bool h.sum)):=by show _=_;rfl
 have A5:Hid ((ae p h)[5]?=some (.bool h.mxr)):=by show _=_;rfl
 have B5:Hid ((ae q h)[5]?=some (.bool h.mxr)):=by show _=_;rfl
 have A6:Hid ((ae p h)[6]?=some (.int .u64 h.satp)):=by show _=_;rfl
 have B6:Hid ((ae q h)[6]?=some (.int .u64 h.satp)):=by show _=_;rfl
 have A7:Hid ((ae p h)[7]?=some (.int .u64 h.tvec)):=by show _=_;rfl
 have B7:Hid ((ae q h)[7]?=some (.int .u64 h.tvec)):=by show _=_;rfl
 have A8:Hid ((ae p h)[8]?=some (.int .u64 h.epc)):=by show _=_;rfl
 have B8:Hid ((ae q h)[8]?=some (.int .u64 h.epc)):=by show _=_;rfl
 have A9:Hid ((ae p h)[9]?=some (.int .i64 h.emode)):=by show _=_;rfl
 have B9:Hid ((ae q h)[9]?=some (.int .i64 h.emode)):=by show _=_;rfl
 have A10:Hid ((ae p h)[10]?=some (.int .i64 h.cause)):=by show _=_;rfl
 have B10:Hid ((ae q h)[10]?=some (.int .i64 h.cause)):=by show _=_;rfl
 have A11:Hid ((ae p h)[11]?=some (.int .u64 h.tval)):=by show _=_;rfl
 have B11:Hid ((ae q h)[11]?=some (.int .u64 h.tval)):=by show _=_;rfl
 have KP:Hid (((ae p h).toList.drop 12).take 9=(kA p h.k).toList):=by show _=_;rfl
 have KQ:Hid (((ae q h).toList.drop 12).take 9=(kA q h.k).toList):=by show _=_;rfl
 have SP:(ae p h).size=21:=rfl;have SQ:(ae q h).size=21:=rfl;have KL:Hid ((kA p h.k).size=9∧(kA q h.k).size=9):=⟨rfl,rfl⟩;generalize ae p h=A at *;generalize ae q h=B at *;go_enter Try.func28,Try.ntmps28;go_upto_region 1 with fail;generalize (w.alloc (Obj.cells A 63)).alloc (Obj.cells B 63)=u0 at F |-;obtain ⟨f1,f2,hz,n0⟩:=F;have H1:Hid _:=f1;have H2:Hid _:=f2;clear f1 f2;have c0:=ab H1.out 0 A0.out;have d0:=ab H2.out 0 B0.out;go_wp2_with fail;refine (E1.out u0 n0).mono ?_;rintro e u1 ⟨rfl,m1⟩;have n1:=Below.step n0 m1 (Nat.le_refl _);replace H1:=aa H1 m1;replace H2:=aa H2 m1;clear c0 d0;have c1:=ab H1.out 1 A1.out;have d1:=ab H2.out 1 B1.out;go_wp2_with fail;refine (E2.out u1 n1).mono ?_;rintro e u2 ⟨rfl,m2⟩;have n2:=Below.step n1 m2 (Nat.le_refl _);replace H1:=aa H1 m2;replace H2:=aa H2 m2;clear c1 d1;have c2:=ab H1.out 2 A2.out;have d2:=ab H2.out 2 B2.out;have c3:=ab H1.out 3 A3.out;have d3:=ab H2.out 3 B3.out;have c4:=ab H1.out 4 A4.out;have d4:=ab H2.out 4 B4.out;have c5:=ab H1.out 5 A5.out;have d5:=ab H2.out 5 B5.out;have c6:=ab H1.out 6 A6.out;have d6:=ab H2.out 6 B6.out;have c7:=ab H1.out 7 A7.out;have d7:=ab H2.out 7 B7.out;have c8:=ab H1.out 8 A8.out;have d8:=ab H2.out 8 B8.out;have c9:=ab H1.out 9 A9.out;have d9:=ab H2.out 9 B9.out;have c10:=ab H1.out 10 A10.out;have d10:=ab H2.out 10 B10.out;have c11:=ab H1.out 11 A11.out;have d11:=ab H2.out 11 B11.out;have L1:Hid _:=bM (P:=Try.prog) (T:=61) H1.out Try.underlying61 rfl (o:=12) (kA p h.k).toList kI KP.out rfl;have L2:Hid _:=bM (P:=Try.prog) (T:=61) H2.out Try.underlying61 rfl (o:=12) (kA q h.k).toList kI KQ.out rfl;rw [show (kA p h.k).toList.toArray=kA p h.k from rfl] at L1;rw [show (kA q h.k).toList.toArray=kA q h.k from rfl] at L2;generalize kA p h.k=KA at *;generalize kA q h.k=KB at *;go_wp2_with (first | ((with_reducible refine bl ?_ L1.out ?_);(exact rfl)) | ((with_reducible refine bl ?_ L2.out ?_);(exact rfl)));refine (E3.out u2 n2).mono ?_;rintro e u3 ⟨rfl,m3⟩;have n3:=Below.step n2 m3 (Nat.le_refl _);clear c2 d2 c3 d3 c4 d4 c5 d5 c6 d6 c7 d7 c8 d8 c9 d9 c10 d10 c11 d11;go_wp2_with fail;go_ret;exact ⟨rfl,n3⟩
def iK (sm sr s1 s2 s3:Value) (i:Nat):Prop:=sm.ownBlock=some i∨sr.ownBlock=some i∨iE s1 s2 s3 i
structure HartO (base:Nat) (w:World) (p:PtrM) (h:HartM) (cm cr c1 c2 c3:List Value):Prop where
 mem:w.ownsRow base 5 1 (.slice p.am h.mem.length p.cm) h.mem.length cm
 regs:w.ownsRow base 33 1 (.slice p.ar h.regs.length p.cr) h.regs.length cr
 r1:w.ownsRow base 42 6 (.slice p.a1 h.k.i.es.length p.c1) h.k.i.es.length c1
 r2:w.ownsRow base 42 6 (.slice p.a2 h.k.d.es.length p.c2) h.k.d.es.length c2
 r3:w.ownsRow base 42 6 (.slice p.a3 h.k.p.es.length p.c3) h.k.p.es.length c3
 d12:bV (.slice p.a1 h.k.i.es.length p.c1) (.slice p.a2 h.k.d.es.length p.c2)
 d13:bV (.slice p.a1 h.k.i.es.length p.c1) (.slice p.a3 h.k.p.es.length p.c3)
 d23:bV (.slice p.a2 h.k.d.es.length p.c2) (.slice p.a3 h.k.p.es.length p.c3)
abbrev iz (p:PtrM) (h:HartM):Nat->Prop:=iK (.slice p.am h.mem.length p.cm) (.slice p.ar h.regs.length p.cr) (.slice p.a1 h.k.i.es.length p.c1) (.slice p.a2 h.k.d.es.length p.c2) (.slice p.a3 h.k.p.es.length p.c3)
theorem HartO.keep {base:Nat} {w w':World} {p:PtrM} {h:HartM} {cm cr c1 c2 c3:List Value} (k:HartO base w p h cm cr c1 c2 c3) (hb:Below w.heap.size w w'):HartO base w' p h cm cr c1 c2 c3:=
 ⟨aq k.mem hb,aq k.regs hb,aq k.r1 hb,aq k.r2 hb,aq k.r3 hb,k.d12,k.d13,k.d23⟩
theorem HartO.low {base:Nat} {w:World} {p:PtrM} {h:HartM} {cm cr c1 c2 c3:List Value} (k:HartO base w p h cm cr c1 c2 c3):∀g,iz p h g->base<=g∧g<w.heap.size:=by
 rintro g (h1 | h1 | h1 | h1 | h1)
 ·exact k.mem.lt g h1
 ·exact k.regs.lt g h1
 ·exact k.r1.lt g h1
 ·exact k.r2.lt g h1
 ·exact k.r3.lt g h1
end
section
open Go.ChangeShapes Go.WideShapes Go.RowKit Go.Joins Go.Deep
theorem fv (b off i:Nat):Addr.add ⟨b,off,none⟩ i=⟨b,off+i,none⟩:=by
 unfold Addr.add;split
 ·next h=>subst h;rfl
 ·rfl
theorem eO {w:World} {a:Addr} {es:List EntM} {n:Nat} (hn:es.length=n) (h:∀i (hi:i<es.length) j,j<6->w.cell? (a.add (i*6+j))=(cz es[i])[j]?):RowC w (some a) n 6 (ak es):=by
 refine ⟨by rw [cv,hn],?_⟩;by_cases h0:n=0
 ·exact .inl h0
 ·obtain ⟨b,off,spot⟩:=a;have hc:=h 0 (by omega) 0 (by omega);have hc':w.cell? (Addr.add ⟨b,off,spot⟩ 0)=some (.bool (es[0]'(by omega)).valid):=by simpa [cz] using hc
  have hspot:spot=none:=by simpa [Addr.add] using World.cell?_spot hc'
  subst hspot;refine .inr ⟨b,off,rfl,?_,fun i v hi=>?_⟩
  ·have hc0:w.cell? ⟨b,off,none⟩=some (.bool (es[0]'(by omega)).valid):=by simpa [Addr.add] using hc'
   unfold World.cell? at hc0;split at hc0
   ·next he=>exact (Array.getElem?_eq_some_iff.1 he).1
   ·cases hc0
  ·have hlt:i<(ak es).length:=(List.getElem?_eq_some_iff.1 hi).1;rw [cv] at hlt;have hq:i/6<es.length:=by omega
   have:=h (i/6) hq (i%6) (by omega);rw [<-cQ es (i/6) (i%6) hq (by omega),show i/6*6+i%6=i by omega,fv,hi] at this;exact this
section
variable {H:Type} {enc:TypeId × Value->H} {P:Program} {w:World} {base:Nat} {spare:Nat->Bool} {held:Bool}
theorem ew {t:TypeId} {f0 f1 f2 f3 f4 f5:Field} {fuel:Nat} {cs:List Value} {x:DataW H × List MemPlace} (ht:P.underlying t=some (.struct #[f0,f1,f2,f3,f4,f5])) (hone:oneCellFields P #[f0,f1,f2,f3,f4,f5]=true) (hC:P.cellsOf t=6) (h:DataW.trod enc P w base spare held fuel t cs=some x):
 ∃c0 c1 c2 c3 c4 c5 y0 y1 y2 y3 y4 y5 n,cs=[c0,c1,c2,c3,c4,c5]∧DataW.trod enc P w base spare held n f0.type [c0]=some y0∧DataW.trod enc P w base spare held n f1.type [c1]=some y1∧DataW.trod enc P w base spare held n f2.type [c2]=some y2∧
  DataW.trod enc P w base spare held n f3.type [c3]=some y3∧DataW.trod enc P w base spare held n f4.type [c4]=some y4∧DataW.trod enc P w base spare held n f5.type [c5]=some y5:=by
 obtain ⟨xs,n,_,rfl,hl,hlen,hf⟩:=DataW.trod_struct ht h;rw [hC] at hl;obtain ⟨o0,k0⟩:=hone_of hone 0 f0 rfl;obtain ⟨o1,k1⟩:=hone_of hone 1 f1 rfl;obtain ⟨o2,k2⟩:=hone_of hone 2 f2 rfl;obtain ⟨o3,k3⟩:=hone_of hone 3 f3 rfl;obtain ⟨o4,k4⟩:=hone_of hone 4 f4 rfl;obtain ⟨o5,k5⟩:=hone_of hone 5 f5 rfl
 match cs,hl with
 | [c0,c1,c2,c3,c4,c5],_=>
  match xs,hlen with
  | [y0,y1,y2,y3,y4,y5],_=>
   exact ⟨c0,c1,c2,c3,c4,c5,y0,y1,y2,y3,y4,y5,n,rfl,by simpa [o0,k0] using hf 0 f0 rfl,by simpa [o1,k1] using hf 1 f1 rfl,by simpa [o2,k2] using hf 2 f2 rfl,by simpa [o3,k3] using hf 3 f3 rfl,by simpa [o4,k4] using hf 4 f4 rfl,by simpa [o5,k5] using hf 5 f5 rfl⟩
end
theorem gK {H:Type} {enc:TypeId × Value->H} {w:World} {base:Nat} {spare:Nat->Bool} {held:Bool} {fuel:Nat} {cs:List Value} {x:DataW H × List MemPlace}
 (h:DataW.trod enc Try.prog w base spare held fuel 40 cs=some x):∃e:EntM,cs=cz e∧aV e:=by
 obtain ⟨c0,c1,c2,c3,c4,c5,y0,y1,y2,y3,y4,y5,n,rfl,h0,h1,h2,h3,h4,h5⟩:=ew Try.underlying40 (by kernel_rfl) (by kernel_rfl) h;obtain ⟨b,f0,_⟩:=DataW.trod_bool Try.underlying4 h0;obtain ⟨l,f1,_,w1⟩:=DataW.trod_int Try.underlying2 h1;obtain ⟨t,f2,_,w2⟩:=DataW.trod_int Try.underlying33 h2;obtain ⟨a,f3,_,w3⟩:=DataW.trod_int Try.underlying33 h3;obtain ⟨g,f4,_⟩:=DataW.trod_bool Try.underlying4 h4;obtain ⟨p,f5,_,w5⟩:=DataW.trod_int Try.underlying33 h5;simp at f0 f1 f2 f3 f4 f5;subst f0 f1 f2 f3 f4 f5;exact ⟨⟨b,l,t,a,g,p⟩,rfl,bounds_i64 w1,bounds_u64 w2,bounds_u64 w3,bounds_u64 w5⟩
theorem gh {H:Type} {enc:TypeId × Value->H} {w:World} {base:Nat} {spare:Nat->Bool} {held:Bool} {fuel:Nat} {v:Value} {x:DataW H × List MemPlace}
 (h:DataW.trod enc Try.prog w base spare held fuel 22 [v]=some x):
 ∃a cap es,v=.slice a es.length cap∧RowC w a es.length 6 (ak es)∧(∀e∈es,aV e)∧es.length<=cap∧(cap:Int)<=9223372036854775807:=by
 rcases open_slice Try.underlying22 h with ⟨hcs,_⟩ | ⟨a,len,cap,m,n,D,Pl,hcs,_,hl,hm,hmm,_,hx⟩
 ·simp at hcs;subst hcs;exact ⟨none,0,[],rfl,RowC.nil _ _ _,by simp,by simp,by simp⟩
 ·simp at hcs;subst hcs;have hlm:len<=m:=by rw [hmm];split <;> omega
  rw [show Try.prog.cellsOf 40=6 from by kernel_rfl] at hx;have inh:Inhabited EntM:=⟨aP⟩;obtain ⟨E,hE⟩:=choose_lt (α:=EntM) (n:=len) (p:=fun i e=>(∀j,j<6->w.cell? (a.add (i*6+j))=(cz e)[j]?)∧aV e) (fun i hi=>by
   obtain ⟨cs',h1,h2⟩:=hx i (by omega);obtain ⟨e,rfl,he⟩:=gK h2;obtain ⟨_,_,h3⟩:=World.cells?_some h1;exact ⟨e,fun j hj=>by rw [<-add_add];exact h3 j hj,he⟩)
  refine ⟨some a,cap,(List.range len).map E,by simp,eO rfl (fun i hi j hj=>?_),?_,by simpa using hl,by unfold maxLen at hm;omega⟩
  ·simp only [List.getElem_map,List.getElem_range];exact (hE i (by simpa using hi)).1 j hj
  ·intro e he;simp at he;obtain ⟨i,hi,rfl⟩:=he;exact (hE i hi).2
theorem iF:Try.prog.cellsOf 24=3:=by kernel_rfl
end
section
open Go.RowKit Go.Joins Go.ChangeShapes Go.WideShapes Go.ChangeAt
def tlbIn (w:World) (t:TlbM) (a:Option Addr) (cap:Nat):Prop:=
 RowC w a t.es.length 6 (ak t.es)∧(∀e∈t.es,aV e)∧(-9223372036854775808<=t.sets∧t.sets<=9223372036854775807)∧(-9223372036854775808<=t.ways∧t.ways<=9223372036854775807)∧t.es.length<=cap∧(cap:Int)<=9223372036854775807
theorem iQ {α:Type} {cs:List α} (h:cs.length=3):∃c0 c1 c2,cs=[c0,c1,c2]:=by
 match cs,h with
 | [c0,c1,c2],_=>exact ⟨c0,c1,c2,rfl⟩
set_option maxRecDepth 100000 in
theorem cX {H:Type} {enc:TypeId × Value->H} {w:World} {base:Nat} {spare:Nat->Bool} {held:Bool} {fuel:Nat} {cs:List Value} {x:DataW H × List MemPlace}
 (h:DataW.trod enc Try.prog w base spare held fuel 24 cs=some x):∃t a cap,cs=[.int .i64 t.sets,.int .i64 t.ways,.slice a t.es.length cap]∧tlbIn w t a cap:=by
 obtain ⟨y0,y1,y2,n,_,hl,h0,h1,h2⟩:=Go.Deep.trod_struct3 Try.underlying24 h;rw [iF] at hl;obtain ⟨c0,c1,c2,rfl⟩:=iQ hl;have h0':DataW.trod enc Try.prog w base spare held n 2 [c0]=some y0:=h0;have h1':DataW.trod enc Try.prog w base spare held n 2 [c1]=some y1:=h1;have h2':DataW.trod enc Try.prog w base spare held n 22 [c2]=some y2:=h2;obtain ⟨s,f0,_,w0⟩:=DataW.trod_int Try.underlying2 h0';obtain ⟨y,f1,_,w1⟩:=DataW.trod_int Try.underlying2 h1';simp at f0 f1;subst f0 f1;obtain ⟨a,cap,es,rfl,hr,ho,hl,hm⟩:=gh h2';exact ⟨⟨s,y,es⟩,a,cap,rfl,hr,ho,bounds_i64 w0,bounds_i64 w1,hl,hm⟩
end
def bG (e:EntM):List Value:=[.int .i64 e.level,.int .u64 e.tag,.int .u64 e.asid,.bool e.glob,.bool e.valid,.int .u64 e.pte]
def aE (e:EntM):Value:=.agg #[.int .i64 e.level,.int .u64 e.tag,.int .u64 e.asid,.bool e.glob,.bool e.valid,.int .u64 e.pte]
def av:List EntM->List Value
 | []=>[]
 | e::r=>bG e++av r
theorem be:∀es:List EntM,(av es).length=es.length*6
 | []=>rfl
 | e::r=>by simp [av,bG,be r];omega
theorem ed:∀(es:List EntM) (i j:Nat) (hi:i<es.length),j<6->(av es)[i*6+j]?=(bG es[i])[j]?
 | e::r,0,j,hi,hj=>by
  simp only [av,List.getElem_cons_zero,Nat.zero_mul,Nat.zero_add];rw [List.getElem?_append_left (by simp [bG];exact hj)]
 | e::r,i+1,j,hi,hj=>by
  simp only [av,List.getElem_cons_succ];rw [List.getElem?_append_right (by simp [bG];omega)];rw [show (i+1)*6+j-(bG e).length=i*6+j by simp [bG];omega];exact ed r i j (by simpa using hi) hj
theorem cE:∀(l:List EntM) (k:Nat) (e:EntM),k<l.length->av (l.set k e)=((((((av l).set (k*6) (.int .i64 e.level)).set (k*6+1) (.int .u64 e.tag)).set (k*6+2) (.int .u64 e.asid)).set (k*6+3) (.bool e.glob)).set (k*6+4) (.bool e.valid)).set (k*6+5) (.int .u64 e.pte)
 | x::r,0,e,h=>by simp [av,bG]
 | x::r,k+1,e,h=>by
  have ih:=cE r k e (by simpa using h);rw [List.set_cons_succ];simp only [av,ih];rw [show (k+1)*6=(bG x).length+k*6 by simp [bG];omega];simp only [Nat.add_assoc];rw [List.set_append_right _ _ (by simp [bG]),List.set_append_right _ _ (by omega),List.set_append_right _ _ (by omega),List.set_append_right _ _ (by omega),List.set_append_right _ _ (by omega),List.set_append_right _ _ (by omega)];simp
def aG (k n:Nat) (es:List EntM):List EntM:=es.take k++List.replicate (n-k) aP
theorem bI (k:Nat) (es:List EntM) (hk:k<=es.length):(aG k es.length es).length=es.length:=by
 simp [aG];omega
theorem ck (k:Nat) (es:List EntM) (x:EntM) (hx:es[k]?=some x):aG (k+1) es.length es=(aG k es.length es).set k x:=by
 obtain ⟨hk,rfl⟩:=List.getElem?_eq_some_iff.1 hx;unfold aG;apply List.ext_getElem?;intro j;rw [List.getElem?_set];by_cases hj:k=j
 ·subst hj;rw [if_pos rfl,if_pos (by simp;omega),List.getElem?_append_left (by simp;omega)];simp [hk]
 ·rw [if_neg hj];by_cases hlt:j<k
  ·rw [List.getElem?_append_left (by simp;omega),List.getElem?_append_left (by simp;omega)];simp [hlt,show j<k+1 by omega]
  ·rw [List.getElem?_append_right (by simp;omega),List.getElem?_append_right (by simp;omega)];simp only [List.length_take,List.getElem?_replicate];rw [show min (k+1) es.length=k+1 by omega,show min k es.length=k by omega];by_cases hh:j<es.length
   ·rw [if_pos (by omega),if_pos (by omega)]
   ·rw [if_neg (by omega),if_neg (by omega)]
theorem dh (k:Nat) (es:List EntM) (hx:es[k]?=some aP):aG (k+1) es.length es=aG k es.length es:=by
 rw [ck k es aP hx];have hk:k<es.length:=(List.getElem?_eq_some_iff.1 hx).1;apply List.ext_getElem?;intro j;rw [List.getElem?_set];by_cases hj:k=j
 ·subst hj;rw [if_pos rfl,if_pos (by rw [bI _ _ (by omega)];exact hk)];unfold aG;rw [List.getElem?_append_right (by simp;omega)];simp only [List.length_take,List.getElem?_replicate];rw [if_pos (by omega)]
 ·rw [if_neg hj]
theorem dB (es:List EntM):aG es.length es.length es=es:=by
 simp [aG]
theorem cN (n:Nat) (es:List EntM):aG 0 n es=List.replicate n aP:=by simp [aG]
theorem bO {B:Nat} {a w:World} {g:Nat} (h:Below B a w) (hg:B<=g) (x y z u v t:Value):Below B a ((((((w.setCell ⟨g,0,none⟩ x).setCell ⟨g,1,none⟩ y).setCell ⟨g,2,none⟩ z).setCell ⟨g,3,none⟩ u).setCell ⟨g,4,none⟩ v).setCell ⟨g,5,none⟩ t):=
 (((dH h hg x y z).setCell (p:=⟨g,3,none⟩) hg u).setCell (p:=⟨g,4,none⟩) hg v).setCell (p:=⟨g,5,none⟩) hg t
theorem bi {v:World} {p:Nat} {T:TypeId} {a b c d e f:Value} (h:v.heap[p]?=some (.cells #[a,b,c,d,e,f] T (0,0))):
 (v.cell? ⟨p,0,none⟩=some a∧v.cell? ⟨p,1,none⟩=some b∧v.cell? ⟨p,2,none⟩=some c∧v.cell? ⟨p,3,none⟩=some d∧v.cell? ⟨p,4,none⟩=some e∧v.cell? ⟨p,5,none⟩=some f)∧
  (v.frozen? ⟨p,0,none⟩=false∧v.frozen? ⟨p,1,none⟩=false∧v.frozen? ⟨p,2,none⟩=false∧v.frozen? ⟨p,3,none⟩=false∧v.frozen? ⟨p,4,none⟩=false∧v.frozen? ⟨p,5,none⟩=false):=by
 simp [World.cell?,World.frozen?,h]
section
attribute [local go_sem ↓] Go.wp_at_zero Go.wp_at_succ
theorem cP (m:Int) (w:World):Calls Try.prog 88 #[.int .i64 m] w fun e w'=>e=.returned (.bool (decide (0<=m∧m<=2)))∧w'=w:=by
 by_cases h1:0<=m
 ·by_cases h2:m<=2
  ·go_enter Try.func88,Try.ntmps88;go_wp2_with fail;go_ret;exact ⟨ag (by simp [h1,h2]),rfl⟩
  ·go_enter Try.func88,Try.ntmps88;go_wp2_with fail;go_ret;exact ⟨ag (by simp [h2]),rfl⟩
 ·go_enter Try.func88,Try.ntmps88;go_wp2_with fail;go_ret;exact ⟨ag (by simp;omega),rfl⟩
theorem cn (x:Int) (w:World) (h0:0<=x) (h1:x<=18446744073709551615):Calls Try.prog 89 #[.int .u64 x] w fun e w'=>e=.returned (.bool (aY x))∧w'=w:=by
 have HS:Hid (aY x=(x/1152921504606846976 == 0 || x/1152921504606846976 == 8)):=by
  show _=_;unfold aY;rw [show x/1152921504606846976%16=x/1152921504606846976 by omega]
 have hq:0<=x/1152921504606846976∧x/1152921504606846976<=15:=by omega
 rw [HS.out];clear HS;by_cases hz:x/1152921504606846976=0
 ·go_enter Try.func89,Try.ntmps89;go_wp2_with fail;go_ret;exact ⟨ag (by simp [hz]),rfl⟩
 ·have hz':(x/1152921504606846976 == 0)=false:=by simpa using hz
  go_enter Try.func89,Try.ntmps89;go_wp2_with fail;go_ret;exact ⟨ag (by simp [hz]),rfl⟩
end
theorem eT (z:EntM) (n:Nat):(madeCells (bG z).toArray (n*6)).toList=av (List.replicate n z):=by
 apply List.ext_getElem?;intro j;by_cases hj:j<n*6
 ·have hq:j/6<(List.replicate n z).length:=by simp;omega
  have:=ed (List.replicate n z) (j/6) (j%6) hq (by omega);rw [show j/6*6+j%6=j by omega] at this;rw [this];have h6:j%6<(bG z).length:=by simp [bG];omega
  simp only [madeCells,List.getElem_replicate];rw [List.getElem?_eq_getElem h6];simp [hj,bG];rw [List.getElem?_eq_getElem (by simpa [bG] using h6)];rfl
 ·rw [List.getElem?_eq_none (by simp [madeCells];omega),List.getElem?_eq_none (by rw [be];simp;omega)]
theorem eU (v:World) (T E:TypeId) (xs cs:Array Value) (ss:List Value) (n:Nat) (hcs:cs.toList=ss) (hn:ss.length=n*6) (hm:n<=maxLen):
 ((v.alloc (.cells cs E)).alloc (.cells xs T)).drew.heap[v.heap.size+1]?=some (.cells xs T (0,0))∧((v.alloc (.cells cs E)).alloc (.cells xs T)).drew.ownsRow v.heap.size E 6 (.slice (some ⟨v.heap.size,0,none⟩) n n) n ss∧
  Below v.heap.size v ((v.alloc (.cells cs E)).alloc (.cells xs T)).drew∧v.heap.size+1<((v.alloc (.cells cs E)).alloc (.cells xs T)).drew.heap.size:=by
 have hs:cs.size=n*6:=by rw [<-hn,<-hcs];simp
 have h1:=World.ownsRow_lit (e:=E) (size:=6) v cs n (Nat.le_refl v.heap.size) hm hs;rw [hcs] at h1;refine ⟨?_,aq h1 (((Below.refl _ _).alloc (Nat.le_refl _) _).drew),(((Below.refl v.heap.size v).alloc (Nat.le_refl _) _).alloc (by simp) _).drew,?_⟩
 ·have:=heap_alloc_new (v.alloc (.cells cs E)) (.cells xs T);simp only [World.size_alloc] at this;exact this
 ·show _<((v.alloc (.cells cs E)).alloc (.cells xs T)).heap.size;simp
theorem eV (v:World) (T E:TypeId) (xs cs:Array Value) (ss:List Value) (n:Nat) (hcs:cs.toList=ss) (hn:ss.length=n*6) (hm:n<=maxLen):
 ((v.alloc (.cells xs T)).alloc (.cells cs E)).drew.heap[v.heap.size]?=some (.cells xs T (0,0))∧((v.alloc (.cells xs T)).alloc (.cells cs E)).drew.ownsRow v.heap.size E 6 (.slice (some ⟨v.heap.size+1,0,none⟩) n n) n ss∧
  Below v.heap.size v ((v.alloc (.cells xs T)).alloc (.cells cs E)).drew∧v.heap.size<((v.alloc (.cells xs T)).alloc (.cells cs E)).drew.heap.size:=by
 have hs:cs.size=n*6:=by rw [<-hn,<-hcs];simp
 have h1:=World.ownsRow_lit (e:=E) (size:=6) (v.alloc (.cells xs T)) cs n (base:=v.heap.size) (by simp) hm hs;rw [hcs] at h1;simp only [World.size_alloc] at h1;refine ⟨?_,h1,(((Below.refl v.heap.size v).alloc (Nat.le_refl _) _).alloc (by simp) _).drew,?_⟩
 ·show ((v.alloc (.cells xs T)).alloc (.cells cs E)).heap[v.heap.size]?=_;rw [heap_alloc_old _ _ (by simp)];exact heap_alloc_new v _
 ·show _<((v.alloc (.cells xs T)).alloc (.cells cs E)).heap.size;simp;omega
def Keeps (w w':World) (x y z:Nat):Prop:=
 w'.os=w.os∧w'.tape=w.tape∧w'.output=w.output∧w.heap.size<=w'.heap.size∧∀i,i<w.heap.size->i≠x->i≠y->i≠z->w'.heap[i]?=w.heap[i]?
theorem Keeps.refl (w:World) (x y z:Nat):Keeps w w x y z:=⟨rfl,rfl,rfl,Nat.le_refl _,fun _ _ _ _ _=>rfl⟩
theorem Keeps.trans {a b c:World} {x y z:Nat} (h:Keeps a b x y z) (k:Keeps b c x y z):Keeps a c x y z:=
 ⟨k.1.trans h.1,k.2.1.trans h.2.1,k.2.2.1.trans h.2.2.1,Nat.le_trans h.2.2.2.1 k.2.2.2.1,fun i hi h1 h2 h3=>(k.2.2.2.2 i (Nat.lt_of_lt_of_le hi h.2.2.2.1) h1 h2 h3).trans (h.2.2.2.2 i hi h1 h2 h3)⟩
theorem Keeps.heap {w w':World} {x y z i:Nat} {o:Obj} (h:Keeps w w' x y z) (hi:w.heap[i]?=some o) (h1:i≠x) (h2:i≠y) (h3:i≠z):w'.heap[i]?=some o:=
 (h.2.2.2.2 i (Array.getElem?_eq_some_iff.1 hi).1 h1 h2 h3).trans hi
def hD (k:KM) (gi gd gp:Nat):Array Value:=
 #[.int .i64 k.i.sets,.int .i64 k.i.ways,.slice (some ⟨gi,0,none⟩) k.i.es.length k.i.es.length,.int .i64 k.d.sets,.int .i64 k.d.ways,.slice (some ⟨gd,0,none⟩) k.d.es.length k.d.es.length,.int .i64 k.p.sets,.int .i64 k.p.ways,.slice (some ⟨gp,0,none⟩) k.p.es.length k.p.es.length]
def RowsAt (w:World) (base gi gd gp:Nat) (k:KM):Prop:=
 w.ownsRow base 123 6 (.slice (some ⟨gi,0,none⟩) k.i.es.length k.i.es.length) k.i.es.length (av k.i.es)∧
 w.ownsRow base 123 6 (.slice (some ⟨gd,0,none⟩) k.d.es.length k.d.es.length) k.d.es.length (av k.d.es)∧
 w.ownsRow base 118 6 (.slice (some ⟨gp,0,none⟩) k.p.es.length k.p.es.length) k.p.es.length (av k.p.es)∧gi≠gd∧gi≠gp∧gd≠gp
theorem RowsAt.keep {w w':World} {base gi gd gp:Nat} {k:KM} (h:RowsAt w base gi gd gp k) (hb:Below w.heap.size w w'):RowsAt w' base gi gd gp k:=
 ⟨aq h.1 hb,aq h.2.1 hb,aq h.2.2.1 hb,h.2.2.2⟩
def SetAt (w:World) (b base gi gd gp:Nat) (k:KM):Prop:=
 w.heap[b]?=some (.cells (hD k gi gd gp) 106 (0,0))∧RowsAt w base gi gd gp k∧b≠gi∧b≠gd∧b≠gp
theorem SetAt.keep {w w':World} {b base gi gd gp:Nat} {k:KM} (h:SetAt w b base gi gd gp k) (hb:Below w.heap.size w w'):SetAt w' b base gi gd gp k:=
 ⟨bU h.1 hb (Array.getElem?_eq_some_iff.1 h.1).1,h.2.1.keep hb,h.2.2⟩
theorem SetAt.lt {w:World} {b base gi gd gp:Nat} {k:KM} (h:SetAt w b base gi gd gp k):b<w.heap.size:=(Array.getElem?_eq_some_iff.1 h.1).1
end Go.Proofs.Ytfgogedgolgnaaa
