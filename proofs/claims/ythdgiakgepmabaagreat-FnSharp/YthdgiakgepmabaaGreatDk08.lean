import Derived.Test.YthdgiakgepmabaaGreatDk07
import Derived.StillTail
import Derived.Maps.RangeWalk
namespace Go.Proofs.YthdgiakgepmabaaGreat
open Go.RowKit
set_option linter.unusedVariables false
set_option maxHeartbeats 6400000
set_option maxRecDepth 20000
structure PtrM where
 am:Option Addr
 cm:Nat
 ar:Option Addr
 cr:Nat
 a1:Option Addr
 c1:Nat
 a2:Option Addr
 c2:Nat
 a3:Option Addr
 c3:Nat
def kA (p:PtrM) (k:KM):Array Value:=#[VI k.i.sets,VI k.i.ways,.slice p.a1 k.i.es.length p.c1,VI k.d.sets,VI k.d.ways,.slice p.a2 k.d.es.length p.c2,VI k.p.sets,VI k.p.ways,.slice p.a3 k.p.es.length p.c3]
def ak (p:PtrM) (h:HartM):Array Value:=#[.slice p.am h.mem.length p.cm,.slice p.ar h.regs.length p.cr,VU h.pc,VI h.mode,.bool h.sum,.bool h.mxr,VU h.satp,VU h.tvec,VU h.epc,VI h.emode,VI h.cause,VU h.tval,
 VI h.k.i.sets,VI h.k.i.ways,.slice p.a1 h.k.i.es.length p.c1,VI h.k.d.sets,VI h.k.d.ways,.slice p.a2 h.k.d.es.length p.c2,VI h.k.p.sets,VI h.k.p.ways,.slice p.a3 h.k.p.es.length p.c3]
def aG (p:PtrM) (al:Option Addr) (cl:Nat) (plain:Bool) (pick:Int) (r:RunM):Array Value:=#[.slice p.am r.h.mem.length p.cm,.slice p.ar r.h.regs.length p.cr,VU r.h.pc,VI r.h.mode,.bool r.h.sum,.bool r.h.mxr,VU r.h.satp,VU r.h.tvec,VU r.h.epc,VI r.h.emode,VI r.h.cause,VU r.h.tval,
 VI r.h.k.i.sets,VI r.h.k.i.ways,.slice p.a1 r.h.k.i.es.length p.c1,VI r.h.k.d.sets,VI r.h.k.d.ways,.slice p.a2 r.h.k.d.es.length p.c2,VI r.h.k.p.sets,VI r.h.k.p.ways,.slice p.a3 r.h.k.p.es.length p.c3,
 .bool plain,VI pick,VI r.cause,VU r.tval,.slice al r.looks.length cl,.bool r.fenced,.bool r.fence.hasVa,VU r.fence.va,.bool r.fence.hasAsid,VU r.fence.asid]
def fu:List (Int × Int)->List Value
 | []=>[]
 | l::ls=>.int .i64 l.1::.int .u64 l.2::fu ls
def cW (zs:List Int):List Value:=zs.map (Value.int .u64)
def be (p:PtrM):List (Option Addr):=[p.am,p.ar,p.a1,p.a2,p.a3]
def From (B:Nat) (p p':PtrM):Prop:=∀q,some q∈be p'->some q∈be p∨B<=q.block
def FromL (B:Nat) (al al':Option Addr):Prop:=∀q,al'=some q->al=some q∨B<=q.block
structure HartIn (w:World) (p:PtrM) (h:HartM):Prop where
 mem:Byt w p.am h.mem.length h.mem
 memc:h.mem.length<=p.cm∧p.cm<=9223372036854775807
 regs:RowC w p.ar h.regs.length 1 (cW h.regs)
 regc:h.regs.length<=p.cr∧p.cr<=9223372036854775807
 rega:(p.ar=none->h.regs.length=0∧p.cr=0)∧∀q,p.ar=some q->q.spot=none
 ks:KAt w (.agg (kA p h.k)) h.k
 low:∀q,some q∈be p->q.block<w.heap.size
structure RunIn (w:World) (p:PtrM) (al:Option Addr) (cl:Nat) (r:RunM):Prop where
 h:HartIn w p r.h
 looks:RowC w al r.looks.length 2 (fu r.looks)
 lookc:r.looks.length<=cl∧cl<=9223372036854775807
 looka:(al=none->r.looks.length=0∧cl=0)∧∀q,al=some q->q.spot=none
 lookl:r.looks.length<=8
 low:∀q,al=some q->q.block<w.heap.size
theorem HartIn.keep {w w':World} {p:PtrM} {h:HartM} (k:HartIn w p h) (hb:Bw w w'):HartIn w' p h:=
 ⟨k.mem.keep hb,k.memc,k.regs.keep hb,k.regc,k.rega,k.ks.keep hb,fun q hq=>ltl (k.low q hq) hb.size⟩
theorem RunIn.keep {w w':World} {p:PtrM} {al:Option Addr} {cl:Nat} {r:RunM} (k:RunIn w p al cl r) (hb:Bw w w'):RunIn w' p al cl r:=
 ⟨k.h.keep hb,k.looks.keep hb,k.lookc,k.looka,k.lookl,fun q hq=>ltl (k.low q hq) hb.size⟩
theorem Byt.gb' {w w':World} {a:Option Addr} {len r:Nat} {zs:List Int} (h:Byt w a len zs) (hg:w.grownBy w' (some r)) (hne:∀q,a=some q->q.block≠r):Byt w' a len zs:=by
 obtain ⟨h1,h2,h3⟩:=h;refine ⟨h1,h2,?_⟩;rcases h3 with h3 | ⟨b,off,rfl,hb,hc⟩
 ·exact .inl h3
 ·have hne':=hne (AD b off) rfl;exact .inr ⟨b,off,rfl,ltl hb hg.size,fun i hi=>(World.cell?_of_block (hg.block b hb (by simpa using hne'))).trans (hc i hi)⟩
theorem TlbAt.gb' {w w':World} {t:TlbM} {a:Option Addr} {n c r:Nat} {x y:Value} (h:TlbAt w (.agg #[x,y,.slice a n c]) t) (hg:w.grownBy w' (some r)) (hne:∀q,a=some q->q.block≠r):TlbAt w' (.agg #[x,y,.slice a n c]) t:=by
 obtain ⟨a',c',he,hr,rest⟩:=h;simp only [Value.agg.injEq,Array.mk.injEq,List.cons.injEq,Value.slice.injEq,and_true] at he;obtain ⟨rfl,rfl,rfl,rfl,rfl⟩:=he;exact ⟨_,_,rfl,RowC.gb' hr hg hne,rest⟩
theorem HartIn.gb {w w':World} {p:PtrM} {h:HartM} {r:Nat} (k:HartIn w p h) (hg:w.grownBy w' (some r)) (hne:∀q,some q∈be p->q.block≠r):HartIn w' p h:=by
 refine ⟨k.mem.gb' hg fun q hq=>hne q (by simp [be,hq]),k.memc,RowC.gb' k.regs hg fun q hq=>hne q (by simp [be,hq]),k.regc,k.rega,?_,fun q hq=>ltl (k.low q hq) hg.size⟩;obtain ⟨a1,c1,a2,c2,a3,c3,he,t1,t2,t3⟩:=k.ks;simp only [kA,Value.agg.injEq,Array.mk.injEq,List.cons.injEq,Value.slice.injEq,true_and,and_true] at he;obtain ⟨⟨rfl,rfl⟩,⟨rfl,rfl⟩,rfl,rfl⟩:=he;exact ⟨_,_,_,_,_,_,rfl,t1.gb' hg fun q hq=>hne q (by simp [be,hq]),t2.gb' hg fun q hq=>hne q (by simp [be,hq]),t3.gb' hg fun q hq=>hne q (by simp [be,hq])⟩
theorem RunIn.gb {w w':World} {p:PtrM} {al:Option Addr} {cl r:Nat} {rm:RunM} (k:RunIn w p al cl rm) (hg:w.grownBy w' (some r)) (hne:∀q,some q∈be p->q.block≠r) (hnl:∀q,al=some q->q.block≠r):RunIn w' p al cl rm:=
 ⟨k.h.gb hg hne,RowC.gb' k.looks hg hnl,k.lookc,k.looka,k.lookl,fun q hq=>ltl (k.low q hq) hg.size⟩
abbrev fw:Array Value:=#[SN,SN,VU 0,VI 0,.bool false,.bool false,VU 0,VU 0,VU 0,VI 0,VI 0,VU 0,VI 0,VI 0,SN,VI 0,VI 0,SN,VI 0,VI 0,SN]
abbrev eS:Array Value:=#[SN,SN,VU 0,VI 0,.bool false,.bool false,VU 0,VU 0,VU 0,VI 0,VI 0,VU 0,VI 0,VI 0,SN,VI 0,VI 0,SN,VI 0,VI 0,SN,.bool false,VI 0,VI 0,VU 0,SN,.bool false,.bool false,VU 0,.bool false,VU 0]
theorem dM (p:PtrM) (al:Option Addr) (cl:Nat) (plain:Bool) (pick:Int) (r:RunM):(aG p al cl plain pick r).all (·.oneCell')=true:=by
 simp [aG,Value.oneCell']
theorem gF (p:PtrM) (h:HartM):(ak p h).all (·.oneCell')=true:=by
 simp [ak,Value.oneCell']
theorem bP (p:PtrM) (al:Option Addr) (cl:Nat) (plain:Bool) (pick:Int) (r:RunM):(aG p al cl plain pick r).size=31:=rfl
theorem et (p:PtrM) (h:HartM):(ak p h).size=21:=rfl
theorem aS:eS.size=31:=rfl
theorem eN:fw.size=21:=rfl
theorem dq:(Tryz.prog.info? 54).map (·.size)=some 31:=by kernel_rfl
theorem fy:(Tryz.prog.info? 44).map (·.size)=some 21:=by kernel_rfl
section
variable {P:Program} {ops:Array Oper}
def qR (ops:Array Oper) (j:Nat):Option Tmp:=(ops[j]?).bind (·.dst)
structure Head (ops:Array Oper) (ws:List Nat) (z s i:Nat) (o:Oper) (d:Tmp):Prop where
 op:ops[i]?=some o
 dst:o.dst=some d
 lt:d<s
 guard:i∈ws->o.guard=none
 apart:∀j,j<z->j≠i->qR ops j≠some d
 looks:∀j t,j<z->qR ops j=some t->t∈o.looksAt ops->j<i∧Region.waitsFor .any ops i j=true∧(i∈ws∨j∉ws)
 sink:∃j,i<j∧j<z+1∧Region.waitsFor .any ops j i=true
structure Fr (ops:Array Oper) (ws:List Nat) (z:Nat) (a A:Act) (S:Nat->Prop) (p:Nat->Value) (b:Act):Prop where
 defers:b.defers=a.defers
 size:b.tmps.size=a.tmps.size
 old:∀d:Nat,(∀j,j<z->S j->qR ops j≠some d)->b.tmps[d]?=a.tmps[d]?
 new:∀(d:Nat) j,j<z->S j->j∉ws->qR ops j=some d->b.tmps[d]?=A.tmps[d]?
 wild:∀(d:Nat) j,j<z->S j->j∈ws->qR ops j=some d->b.tmps[d]?=some (p j)
theorem Ek {b:Act} {d:Nat} {x:Value} (h:d<b.tmps.size):(b.put (some d) x).tmps[d]?=some x:=by
 simp [Act.put,h]
theorem wh {b:Act} {e:Option Tmp} {d:Nat} {x:Value} (h:e≠some d):(b.put e x).tmps[d]?=b.tmps[d]?:=by
 cases e with
 | none=>rfl
 | some e=>simp [Act.put,Array.getElem?_setIfInBounds_ne (show e≠d from fun he=>h (he ▸ rfl))]
theorem Head.is {ws:List Nat} {z s i:Nat} {o:Oper} {d:Tmp} (h:Head ops ws z s i o d):qR ops i=some d:=by
 rw [qR,h.op];exact h.dst
theorem Fr.put {ws:List Nat} {z s i d:Nat} {a A b:Act} {S S':Nat->Prop} {p p':Nat->Value} {o:Oper} {x:Value} (h:Fr ops ws z a A S p b) (hh:Head ops ws z s i o d) (hs:a.tmps.size=s) (hx:i∉ws->A.tmps[d]?=some x) (hp:i∈ws->p' i=x) (hp':∀j,j≠i->p' j=p j)
 (hS:∀j,j<z->(S' j↔S j∨j=i)) (hi:i<z):Fr ops ws z a A S' p' (b.put (some d) x):=by
 have one:∀e j,j<z->S' j->qR ops j=some e->(d=e∧j=i)∨(d≠e∧S j∧j≠i):=fun e j hj hSj hd=>by
  by_cases hji:j=i
  ·subst hji;exact .inl ⟨Option.some.inj (hh.is.symm.trans hd),rfl⟩
  ·refine .inr ⟨fun hde=>hh.apart j hj hji (by rw [hd,hde]),((hS j hj).1 hSj).resolve_right hji,hji⟩
 refine ⟨h.defers,by simp [Act.put,h.size],fun e he=>?_,fun e j hj hSj hw hd=>?_,fun e j hj hSj hw hd=>?_⟩
 ·have hne:d≠e:=fun hde=>he i hi ((hS i hi).2 (.inr rfl)) (by rw [hh.is,hde]);rw [wh (by simpa using hne)];exact h.old e fun j hj hj2=>he j hj ((hS j hj).2 (.inl hj2))
 ·rcases one e j hj hSj hd with ⟨rfl,rfl⟩ | ⟨h1,h2,h3⟩
  ·rw [Ek (by rw [h.size,hs];exact hh.lt),hx hw]
  ·rw [wh (by simpa using h1)];exact h.new e j hj h2 hw hd
 ·rcases one e j hj hSj hd with ⟨rfl,rfl⟩ | ⟨h1,h2,h3⟩
  ·rw [Ek (by rw [h.size,hs];exact hh.lt),hp hw]
  ·rw [wh (by simpa using h1),hp' j h3];exact h.wild e j hj h2 hw hd
def Closed (ops:Array Oper) (listed:Array Bool):Prop:=∀j oj,ops[j]?=some oj->listed.getD j false=true->∀e∈oj.after,Region.binds .any e=true->listed.getD e.on false=true
theorem Closed.set {listed:Array Bool} {i:Nat} (h:Closed ops listed) (hi:i∈Region.ready .any ops listed):Closed ops (listed.setIfInBounds i true):=by
 obtain ⟨_,oi,hoi,hall⟩:=mem_ready.1 hi;intro j oj hj hl e he hb;by_cases hij:i=j
 ·subst hij;have:oj=oi:=Option.some.inj (hj.symm.trans hoi);subst this;exact getD_set_true (hall e he hb)
 ·rw [getD_set_ne false hij] at hl;exact getD_set_true (h j oj hj hl e he hb)
theorem wj {listed:Array Bool} {i j:Nat} (hc:Closed ops listed) (hi:listed.getD i false=true) (hw:Region.waitsFor .any ops i j=true):listed.getD j false=true:=by
 obtain ⟨o,ho,e,he,hb,hon⟩:=Region.waitsFor_spec hw;rw [<-hon];exact hc i o ho hi e he hb
theorem wk {listed:Array Bool} {i:Nat} (h:listed.getD i true=false):listed.getD i false=false:=by
 rcases Nat.lt_or_ge i listed.size with h' | h'
 ·simp [h'] at h |-;exact h
 ·simp [Array.getElem?_eq_none h'] at h
def WildAt (P:Program) (o:Oper) (a:Act) (w:World) (K:Value->World->Prop):Prop:=
 (∃x w',(execOp a.eval o).run P w=.ok (.value x) w'∧K x w')∨(∃f args,(execOp a.eval o).run P w=.ok (.enter f args) w∧Calls P f args w fun e w'=>∃x,e=.returned x∧K x w')
theorem WildAt.wp {Q:Exit->Act->World->Prop} {o:Oper} {a b:Act} {w:World} {K:Value->World->Prop} {K':Act->World->Prop} (h:WildAt P o a w K) (he:execOp b.eval o=execOp a.eval o) (hK:∀x w',K x w'->K' (b.put o.dst x) w'):o.wp P b w K' Q:=by
 unfold Oper.wp;rw [he];rcases h with ⟨x,w',h1,h2⟩ | ⟨f,args,h1,h2⟩
 ·rw [h1];exact hK x w' h2
 ·rw [h1];refine h2.mono ?_;rintro e w' ⟨x,rfl,hx⟩;exact hK x w' hx
end
section
variable {P:Program} {ops:Array Oper} {Q:Exit->Act->World->Prop} {F:World->Prop} {c:Nat}
def aV (P:Program) (ops:Array Oper) (Q:Exit->Act->World->Prop) (F:World->Prop) (c:Nat):Nat->Array Bool->Act->World->Prop
 | 0,listed,a,w=>Region.ready .any ops listed=[]∧Q .normal a w
 | fuel+1,listed,a,w=>
  (Region.ready .any ops listed=[]->Q .normal a w)∧
  ∀i∈Region.ready .any ops listed,wpOp P ops Q i (fun a' w'=>((listed.setIfInBounds i true).getD c false=false->F w')∧aV P ops Q F c fuel (listed.setIfInBounds i true) a' w') a w
theorem sZ:∀(fuel:Nat) (listed:Array Bool) (a:Act) (w:World),aV P ops Q F c fuel listed a w->wpAny P .any ops Q fuel listed a w
 | 0,_,_,_,h=>h
 | fuel+1,_,_,_,h=>⟨h.1,fun i hi=>wpOp_mono (fun a' w' h'=>sZ fuel _ a' w' h'.2) (h.2 i hi)⟩
theorem kT {i:Nat} {oi:Oper} {v:Value} (hi:ops[i]?=some oi) (hic:i≠c) (hsel:∀(j:Nat) (o:Oper) cs b,ops[j]?=some o->o.op≠.select cs b)
 (hQ:∀x a w,Q (.panic x) (a.put oi.dst v) w->Q (.panic x) a w):
 ∀(fuel:Nat) (listed:Array Bool) (a:Act) (w:World),Closed ops listed->
  (∀j oj,ops[j]?=some oj->j≠i->listed.getD j true=false->(∀e∈oj.after,Region.binds .any e=true->e.on≠i)->oi.apart ops oj=true)->
  i∈Region.ready .any ops listed->YieldsIf P ops (fun w=>∃l,Closed ops l∧l.getD i true=false∧(l.getD c false=false->F w)) oi v a->(listed.getD c false=false->F w)->
  aV P ops Q F c fuel (listed.setIfInBounds i true) (a.put oi.dst v) w->aV P ops Q F c (fuel+1) listed a w:=by
 intro fuel
 induction fuel with
 | zero=>
  intro listed a w hc _ hr hy hS H;refine ⟨fun h=>(by rw [h] at hr;cases hr),fun j hj=>?_⟩;by_cases hji:j=i
  ·subst hji;exact hy.wpOp hi ⟨listed,hc,(mem_ready.1 hr).1,hS⟩ ⟨fun h=>hS (by rwa [getD_set_ne false hic] at h),H⟩
  ·have:=ready_mono hj hji;rw [H.1] at this;cases this
 | succ fuel ih=>
  intro listed a w hc hfree hr hy hS H;refine ⟨fun h=>(by rw [h] at hr;cases hr),fun j hj=>?_⟩;by_cases hji:j=i
  ·subst hji;exact hy.wpOp hi ⟨listed,hc,(mem_ready.1 hr).1,hS⟩ ⟨fun h=>hS (by rwa [getD_set_ne false hic] at h),H⟩
  ·have h1:=H.2 j (ready_mono hj hji);obtain ⟨hjun,oj,hoj,hall⟩:=mem_ready.1 hj;have hnot:∀e∈oj.after,Region.binds .any e=true->e.on≠i:=fun e he hb heq=>by
    have h1:=hall e he hb;have h0:=(mem_ready.1 hr).1;rw [heq] at h1;rcases Nat.lt_or_ge i listed.size with h' | h'
    ·simp [h'] at h0 h1;rw [h0] at h1;cases h1
    ·simp [Array.getElem?_eq_none h'] at h1
   have h2:=wpOp_putIf hoj (hfree j oj hoj hji hjun hnot) (fun cs b=>hsel i oi cs b hi) (fun cs b=>hsel j oj cs b hoj) hQ hy h1;have hfree':∀k ok,ops[k]?=some ok->k≠i->(listed.setIfInBounds j true).getD k true=false->
    (∀e∈ok.after,Region.binds .any e=true->e.on≠i)->oi.apart ops ok=true:=fun k ok hk hki hun hno=>by
    refine hfree k ok hk hki ?_ hno;by_cases hjk:j=k
    ·subst hjk;exact hjun
    ·rw [getD_set_ne true hjk] at hun;exact hun
   have hcm:(listed.setIfInBounds i true).setIfInBounds j true=(listed.setIfInBounds j true).setIfInBounds i true:=Array.setIfInBounds_comm _ _ (Ne.symm hji);refine wpOp_mono (fun a' w' h3=>?_) h2;have hF:(listed.setIfInBounds j true).getD c false=false->F w':=fun h=>h3.2.1 (by rw [hcm,getD_set_ne false hic];exact h);refine ⟨hF,ih (listed.setIfInBounds j true) a' w' (hc.set hj) hfree' (ready_mono hr (Ne.symm hji)) h3.1 hF ?_⟩;rw [<-hcm];exact h3.2.2
def kU (ops:Array Oper) (listed:Array Bool):Bool:=
 (List.range ops.size).all fun j=>!listed.getD j false || match ops[j]? with
  | none=>true
  | some o=>o.after.all fun e=>!Region.binds .any e || listed.getD e.on false
theorem je {listed:Array Bool} (h:kU ops listed=true):Closed ops listed:=by
 intro j oj hj hl e he hb;have h1:=List.all_eq_true.1 h j (List.mem_range.2 (hpl hj));simp only [hj,hl,Bool.not_true,Bool.false_or] at h1;have h2:=Array.all_eq_true_iff_forall_mem.1 h1 e he;simpa [hb] using h2
def mf (ops:Array Oper):Nat->Nat->Nat->Bool
 | 0,c,i=>c == i
 | f+1,c,i=>c == i || (List.range ops.size).any fun j=>Region.waitsFor .any ops c j && mf ops f j i
theorem jO {listed:Array Bool} (hc:Closed ops listed) {i:Nat}:∀(f c:Nat),mf ops f c i=true->listed.getD c false=true->listed.getD i false=true
 | 0,c,h,hl=>by
  have:c=i:=by simpa [mf] using h
  subst this;exact hl
 | f+1,c,h,hl=>by
  simp only [mf,Bool.or_eq_true,beq_iff_eq,List.any_eq_true,Bool.and_eq_true] at h;rcases h with rfl | ⟨j,_,hw,hr⟩
  ·exact hl
  ·exact jO hc f j hr (wj hc hl hw)
theorem BR (i:Nat) {oi:Oper} (d:Tmp) (v:Value) {fuel:Nat} {listed:Array Bool} {a:Act} {w:World} (hi:ops[i]?=some oi) (hs:Region.noSelect ops=true) (hcl:kU ops listed=true) (hf:Region.free .any ops listed i=true) (hr:(Region.ready .any ops listed).contains i=true) (hic:(i != c)=true) (hrc:mf ops ops.size c i=true)
 (hQ:∀x a w,Q (.panic x) (a.put oi.dst v) w->Q (.panic x) a w) (hw:Region.wanted oi (yielded ops a.tmps)=true) (hy:∀u,F u->(execOp a.eval oi).run P u=.ok (.value v) u) (hS:F w)
 (hd:oi.dst=some d) (h:aV P ops Q F c fuel (listed.setIfInBounds i true) (a.put (some d) v) w):aV P ops Q F c (fuel+1) listed a w:=
 kT hi (by simpa using hic) (Region.noSelect_spec hs) hQ fuel listed a w (je hcl) (Region.free_spec hi hf) (by simpa using hr)
  (.inl ⟨hw,fun u ⟨l,h1,h2,h3⟩=>hy u (h3 (by
   cases hh:l.getD c false
   ·rfl
   ·have:=jO h1 _ _ hrc hh;rw [wk h2] at this;cases this))⟩) (fun _=>hS) (by rw [hd];exact h)
theorem hqp {Q:Exit->Act->World->Prop} (H:Hid (∀x (a:Act) d z w,Q (.panic x) (a.put d z) w->Q (.panic x) a w)) {d:Option Tmp} {v:Value} (x:List PanicEntry) (a:Act) (w:World) (h:Q (.panic x) (a.put d v) w):Q (.panic x) a w:=H.out _ _ _ _ _ h
theorem Fx (i:Nat) {oi:Oper} (d:Tmp) (v:Value) {fuel:Nat} {listed:Array Bool} {a:Act} {w:World} (hi:ops[i]?=some oi)
 (hb:(Region.noSelect ops && kU ops listed && Region.free .any ops listed i && (Region.ready .any ops listed).contains i && (i != c) && mf ops ops.size c i && Region.wanted oi (yielded ops a.tmps) && (oi.dst == some d))=true)
 (hQ:∀x a w,Q (.panic x) (a.put oi.dst v) w->Q (.panic x) a w) (hy:∀u,F u->(execOp a.eval oi).run P u=.ok (.value v) u) (hS:F w)
 (h:aV P ops Q F c fuel (listed.setIfInBounds i true) (a.put (some d) v) w):aV P ops Q F c (fuel+1) listed a w:=by
 simp only [Bool.and_eq_true] at hb;obtain ⟨⟨⟨⟨⟨⟨⟨h1,h2⟩,h3⟩,h4⟩,h5⟩,h6⟩,h7⟩,h8⟩:=hb;exact BR i d v hi h1 h2 h3 h4 h5 h6 hQ h7 hy hS (by simpa using h8) h
theorem aj (i:Nat) {oi:Oper} (d:Tmp) (v:Value) {fuel:Nat} {listed:Array Bool} {a:Act} {w:World} (hi:ops[i]?=some oi) (hS:F w)
 (h:aV P ops Q F c fuel (listed.setIfInBounds i true) (a.put (some d) v) w)
 (hb:(Region.noSelect ops && kU ops listed && Region.free .any ops listed i && (Region.ready .any ops listed).contains i && (i != c) && mf ops ops.size c i && Region.wanted oi (yielded ops a.tmps) && (oi.dst == some d))=true:=by kernel_rfl)
 (hQ:∀x a w,Q (.panic x) (a.put oi.dst v) w->Q (.panic x) a w:=by exact fun _ _ _ h=>h) (hy:∀u,F u->(execOp a.eval oi).run P u=.ok (.value v) u:=by intro u _;kernel_rfl):aV P ops Q F c (fuel+1) listed a w:=
 Fx i d v hi hb hQ hy hS h
theorem BS (i:Nat) {oi:Oper} (d:Tmp) (v:Value) {fuel:Nat} {listed:Array Bool} {a:Act} {w:World} (hi:ops[i]?=some oi) (hs:Region.noSelect ops=true) (hcl:kU ops listed=true) (hf:Region.free .any ops listed i=true) (hr:(Region.ready .any ops listed).contains i=true) (hic:(i != c)=true)
 (hQ:∀x a w,Q (.panic x) (a.put oi.dst v) w->Q (.panic x) a w) (hw:Region.wanted oi (yielded ops a.tmps)=true) (hy:∀u,(execOp a.eval oi).run P u=.ok (.value v) u) (hS:listed.getD c false=true∨F w)
 (hd:oi.dst=some d) (h:aV P ops Q F c fuel (listed.setIfInBounds i true) (a.put (some d) v) w):aV P ops Q F c (fuel+1) listed a w:=
 kT hi (by simpa using hic) (Region.noSelect_spec hs) hQ fuel listed a w (je hcl) (Region.free_spec hi hf) (by simpa using hr) (.inl ⟨hw,fun u _=>hy u⟩) (fun h0=>hS.resolve_left (by rw [h0];simp)) (by rw [hd];exact h)
theorem iJ {fuel:Nat} {listed:Array Bool} {a:Act} {w:World} (i:Nat) (hr:Region.ready .any ops listed=[i])
 (h:wpOp P ops Q i (fun a' w'=>((listed.setIfInBounds i true).getD c false=false->F w')∧aV P ops Q F c fuel (listed.setIfInBounds i true) a' w') a w):aV P ops Q F c (fuel+1) listed a w:=
 ⟨fun h0=>(by rw [hr] at h0;cases h0),fun j hj=>by
  rw [hr] at hj;have:j=i:=by simpa using hj
  subst this;exact h⟩
theorem zM {fuel:Nat} {listed:Array Bool} {a:Act} {w w':World} (i:Nat) {o:Oper} {T:TypeId} {x y:Operand} (hi:ops[i]?=some o) (hop:o.op=.store T x y) (hg:o.guard=none) (hd:o.dst=none) (hr:Region.ready .any ops listed=[i])
 {b off:Nat} {V:Value} (hx:a.eval x=PT b off) (hy:a.eval y=V) (hl:(Instr.storeAt T (PT b off) V).run P w=.ok () w') (hS:(listed.setIfInBounds i true).getD c false=true∨F w') (h:aV P ops Q F c fuel (listed.setIfInBounds i true) a w'):aV P ops Q F c (fuel+1) listed a w:=by
 refine iJ i hr ?_;unfold wpOp;simp only [hi];rw [if_pos (by simp [Region.wanted,hg])];refine .inl ?_;unfold Oper.wp execOp;simp only [hop,hx,hy,Sem.run_bind,hl,Result.andThen_ok,Sem.run_pure];refine ⟨fun h0=>hS.resolve_left (by rw [h0];simp),?_⟩;rw [hd];exact h
theorem du {fuel:Nat} {listed:Array Bool} {a:Act} {w:World} (i:Nat) {o:Oper} (d:Tmp) (hi:ops[i]?=some o) {f:FuncId} {args:Array Value}
 (h:Calls P f args w fun e w'=>∃x,e=.returned x∧((listed.setIfInBounds i true).getD c false=false->F w')∧aV P ops Q F c fuel (listed.setIfInBounds i true) (a.put (some d) x) w')
 (hd:o.dst=some d:=by kernel_rfl) (hg:Region.wanted o (yielded ops a.tmps)=true:=by kernel_rfl) (hr:Region.ready .any ops listed=[i]:=by kernel_rfl) (he:(execOp a.eval o).run P w=.ok (.enter f args) w:=by kernel_rfl):aV P ops Q F c (fuel+1) listed a w:=by
 refine iJ i hr ?_;unfold wpOp;simp only [hi];rw [if_pos hg];refine .inl ?_;unfold Oper.wp;rw [he];refine h.mono ?_;rintro e w' ⟨x,rfl,hS,h2⟩;refine ⟨hS,?_⟩;rw [hd];exact h2
theorem BT {fuel:Nat} {listed:Array Bool} {a:Act} {w:World} (i:Nat) {o:Oper} (d:Tmp) (hd:o.dst=some d) (hi:ops[i]?=some o) (hg:o.guard=none) (hr:Region.ready .any ops listed=[i]) {f:FuncId} {args:Array Value} (he:(execOp a.eval o).run P w=.ok (.enter f args) w)
 (h:Calls P f args w fun e w'=>∃x,e=.returned x∧((listed.setIfInBounds i true).getD c false=false->F w')∧aV P ops Q F c fuel (listed.setIfInBounds i true) (a.put (some d) x) w'):aV P ops Q F c (fuel+1) listed a w:=
 du i d hi h hd (by simp [Region.wanted,hg]) hr he
theorem us {listed:Array Bool} {a:Act} {w:World} (hr:Region.ready .any ops listed=[]) (h:Q .normal a w):∀fuel,aV P ops Q F c fuel listed a w
 | 0=>⟨hr,h⟩
 | _+1=>⟨fun _=>h,by rw [hr];simp⟩
theorem dc {fuel:Nat} {listed:Array Bool} {a:Act} {w:World} (h:Q .normal a w) (hr:Region.ready .any ops listed=[]:=by kernel_rfl):aV P ops Q F c fuel listed a w:=us hr h _
theorem dz {fuel:Nat} {listed:Array Bool} {a:Act} {w w':World} (i x y:Nat) {o:Oper} {T:TypeId} {b off:Nat} {V:Value} (hi:ops[i]?=some o) (hl:(Instr.storeAt T (PT b off) V).run P w=.ok () w') (h:aV P ops Q F c fuel (listed.setIfInBounds i true) a w')
 (hop:o.op=.store T (.tmp x) (.tmp y):=by kernel_rfl) (hg:o.guard=none:=by kernel_rfl) (hd:o.dst=none:=by kernel_rfl) (hr:Region.ready .any ops listed=[i]:=by kernel_rfl) (hx:a.eval (.tmp x)=PT b off:=by kernel_rfl) (hy:a.eval (.tmp y)=V:=by kernel_rfl)
 (hS:(listed.setIfInBounds i true).getD c false=true∨F w':=by exact .inl (by kernel_rfl)):aV P ops Q F c (fuel+1) listed a w:=zM i hi hop hg hd hr hx hy hl hS h
theorem kB {fuel:Nat} {listed:Array Bool} {a:Act} {w:World} (i:Nat) {o:Oper} (hi:ops[i]?=some o) (h:wpList P ops Q [o] a w) (hg:Region.wanted o (yielded ops a.tmps)=true:=by kernel_rfl) (hr:Region.ready .any ops listed=[i]:=by kernel_rfl)
 (hr2:Region.ready .any ops (listed.setIfInBounds i true)=[]:=by kernel_rfl) (hc:(listed.setIfInBounds i true).getD c false=true:=by kernel_rfl):aV P ops Q F c (fuel+1) listed a w:=by
 refine iJ i hr ?_;unfold wpOp;simp only [hi];unfold wpList at h;rw [if_pos hg] at h |-;rcases h with h | h
 ·exact .inl (Oper.wp_mono (fun a' w' hQ=>⟨fun h0=>(by rw [hc] at h0;cases h0),us hr2 hQ _⟩) h)
 ·exact .inr h
theorem ax {id:Nat} {a:Act} {w:World} (F:World->Prop) (c:Nat) (h:aV P ops Q F c ops.size (Array.replicate ops.size false) a w.drew) (hm:P.follows .mixedOrders=true:=by kernel_rfl):(Code.region id ops true).wp P Q a w:=
 wp_region_any hm (sZ _ _ _ _ h)
end
theorem ta {P:Program} {fn:Func} {R:Ending->World->Prop} {a:Act} {w:World} {s t:Tmp} {T:TypeId} {b:Nat} {V W:Value} (hr:fn.results=#[ResultVar.cell s T,ResultVar.tmp t]) (hs:a.tmps[s]?=some (PT b 0)) (ht:a.tmps[t]?=some W) (hl:(loadVar T (AD b 0)).run P w=.ok V w) (hd:a.defers=[]) (hR:R (.returned (.tuple #[V,W])) w):bodyPost P fn R .ret a w:=by
 refine bodyPost_ret (v:=.tuple #[V,W]) ?_ hd hR;simp [results,hr,hs,ht,asAddr,hl]
section
variable {P:Program} {ops:Array Oper} {Q:Exit->Act->World->Prop} {F:World->Prop} {c:Nat}
theorem xL {fuel:Nat} {listed:Array Bool} {a:Act} {w w':World} (i:Nat) {o:Oper} (d:Tmp) (v:Value) (hd:o.dst=some d) (hi:ops[i]?=some o) (hg:o.guard=none) (hr:Region.ready .any ops listed=[i]) (he:(execOp a.eval o).run P w=.ok (.value v) w')
 (hS:(listed.setIfInBounds i true).getD c false=false->F w') (h:aV P ops Q F c fuel (listed.setIfInBounds i true) (a.put (some d) v) w'):aV P ops Q F c (fuel+1) listed a w:=by
 refine iJ i hr ?_;unfold wpOp;simp only [hi];rw [if_pos (by simp [Region.wanted,hg])];refine .inl ?_;unfold Oper.wp;rw [he];refine ⟨hS,?_⟩;rw [hd];exact h
theorem iR {fuel:Nat} {listed:Array Bool} {a:Act} {w w':World} (i:Nat) {o:Oper} (d:Tmp) (v:Value) (hi:ops[i]?=some o) (hS:(listed.setIfInBounds i true).getD c false=false->F w') (h:aV P ops Q F c fuel (listed.setIfInBounds i true) (a.put (some d) v) w')
 (hd:o.dst=some d:=by kernel_rfl) (hg:o.guard=none:=by kernel_rfl) (hr:Region.ready .any ops listed=[i]:=by kernel_rfl) (he:(execOp a.eval o).run P w=.ok (.value v) w':=by kernel_rfl):aV P ops Q F c (fuel+1) listed a w:=xL i d v hd hi hg hr he hS h
end
theorem iZ {P:Program} {ops:Array Oper} {Q:Exit->Act->World->Prop} {K:Act->World->Prop} {a:Act} {w:World} (i:Nat) {o:Oper} (d:Tmp) (hd:o.dst=some d) (hi:ops[i]?=some o) (hg:o.guard=none) {f:FuncId} {args:Array Value} (he:(execOp a.eval o).run P w=.ok (.enter f args) w)
 (h:Calls P f args w fun e w'=>∃x,e=.returned x∧K (a.put (some d) x) w'):wpOp P ops Q i K a w:=by
 unfold wpOp;simp only [hi];rw [if_pos (by simp [Region.wanted,hg])];refine .inl ?_;unfold Oper.wp;rw [he];refine h.mono ?_;rintro e w' ⟨x,rfl,h2⟩;rw [hd];exact h2
theorem il {P:Program} {ops:Array Oper} {Q:Exit->Act->World->Prop} {K:Act->World->Prop} {a:Act} {w w':World} (i:Nat) {o:Oper} (d:Tmp) (v:Value) (hd:o.dst=some d) (hi:ops[i]?=some o) (hg:o.guard=none) (he:(execOp a.eval o).run P w=.ok (.value v) w')
 (h:K (a.put (some d) v) w'):wpOp P ops Q i K a w:=by
 unfold wpOp;simp only [hi];rw [if_pos (by simp [Region.wanted,hg])];refine .inl ?_;unfold Oper.wp;rw [he];show K (a.put o.dst v) w';rw [hd];exact h
theorem xM {P:Program} {ops:Array Oper} {Q:Exit->Act->World->Prop} {F:World->Prop} {c:Nat} {fuel:Nat} {listed:Array Bool} {a:Act} {w:World} (i j:Nat) (hr:Region.ready .any ops listed=[i,j])
 (hi:wpOp P ops Q i (fun a' w'=>((listed.setIfInBounds i true).getD c false=false->F w')∧aV P ops Q F c fuel (listed.setIfInBounds i true) a' w') a w)
 (hj:wpOp P ops Q j (fun a' w'=>((listed.setIfInBounds j true).getD c false=false->F w')∧aV P ops Q F c fuel (listed.setIfInBounds j true) a' w') a w):aV P ops Q F c (fuel+1) listed a w:=
 ⟨fun h0=>(by rw [hr] at h0;cases h0),fun k hk=>by
  rw [hr] at hk;simp only [List.mem_cons,List.not_mem_nil,or_false] at hk;rcases hk with rfl | rfl
  ·exact hi
  ·exact hj⟩
theorem jx {a:Act} {d e:Tmp} {u v:Value} (h:d≠e):(a.put (some d) u).put (some e) v=(a.put (some e) v).put (some d) u:=by
 show Act.mk _ _=Act.mk _ _;congr 1;exact Array.setIfInBounds_comm _ _ h
theorem Fd {P:Program} {ops:Array Oper} {Q:Exit->Act->World->Prop} {F:World->Prop} {c:Nat} {fuel:Nat} {listed L:Array Bool} {a:Act} {w:World} (k j:Nat) {ok oj:Oper} (dk dj:Tmp) {Z:Array Value} {T:TypeId} {g:FuncId} {brgs:Array Value} (R:World->Value->World->Prop)
 (ek:ops[k]?=some ok) (ej:ops[j]?=some oj) (dd:ok.dst=some dk∧oj.dst=some dj∧dk≠dj) (hg:ok.guard=none∧oj.guard=none)
 (r1:Region.ready .any ops listed=[k,j]) (r2:Region.ready .any ops (listed.setIfInBounds k true)=[j]) (r5:Region.ready .any ops (listed.setIfInBounds j true)=[k])
 (l1:(listed.setIfInBounds k true).setIfInBounds j true=L) (l2:(listed.setIfInBounds j true).setIfInBounds k true=L)
 (xk:∀u,(execOp a.eval ok).run P u=.ok (.enter g brgs) u) (xk':∀p u,(execOp (a.put (some dj) p).eval ok).run P u=.ok (.enter g brgs) u)
 (xj:∀b u,(execOp b oj).run P u=.ok (.value (PT u.heap.size 0)) (u.alloc (.cells Z T)))
 (hF:∀u,Bw w u->F u) (ck:∀u,Bw w u->Calls P g brgs u fun e w'=>(∃y,e=.returned y∧R u y w')∧Bw u w')
 (h:∀y p u v v',Bw w u->R u y v->Bw v v'->(p<u.heap.size∨v.heap.size<=p)->w.heap.size<=p->v'.heap[p]?=some (.cells Z T (0,0))->Bw w v'->aV P ops Q F c fuel L ((a.put (some dk) y).put (some dj) (PT p 0)) v'):aV P ops Q F c (fuel+2) listed a w:=by
 obtain ⟨hdk,hdj,n2⟩:=dd;obtain ⟨gk,gj⟩:=hg;have m1:=Below.refl w.heap.size w;refine xM k j r1 ?_ ?_
 ·refine iZ k dk hdk ek gk (xk w) ((ck w m1).mono ?_);rintro e u2 ⟨⟨y,rfl,hy⟩,m2⟩;refine ⟨y,rfl,fun _=>hF u2 m2,?_⟩;have A:=(bF u2 Z T).2.2;refine xL j dj _ hdj ej gj r2 (xj _ _) (fun _=>hF _ (bst m2 A)) ?_;rw [l1];exact h y _ w u2 _ m1 hy A (.inr nle) m2.size (bF u2 Z T).1 (bst m2 A)
 ·have A:=(bF w Z T).2.2;refine il j dj _ hdj ej gj (xj _ _) ⟨fun _=>hF _ A,?_⟩;refine BT k dk hdk ek gk r5 (xk' _ _) ((ck _ A).mono ?_);rintro e u2 ⟨⟨y,rfl,hy⟩,m2⟩;have z:=(bF w Z T).2.1;have m12:=bst A m2;refine ⟨y,rfl,fun _=>hF u2 m12,?_⟩;rw [l2,jx (Ne.symm n2)];exact h y _ _ u2 u2 A hy brf (.inl (by omega)) nle (ae (bF w Z T).1 m2 (by omega)) m12
theorem fN {P:Program} {ops:Array Oper} {Q:Exit->Act->World->Prop} {F:World->Prop} {c:Nat} (i:Nat) {oi:Oper} (d:Tmp) (v:Value) {fuel:Nat} {listed:Array Bool} {a:Act} {w:World} (hi:ops[i]?=some oi) (hS:listed.getD c false=true∨F w)
 (h:aV P ops Q F c fuel (listed.setIfInBounds i true) (a.put (some d) v) w)
 (hb:(Region.noSelect ops && kU ops listed && Region.free .any ops listed i && (Region.ready .any ops listed).contains i && (i != c) && Region.wanted oi (yielded ops a.tmps) && (oi.dst == some d))=true:=by kernel_rfl)
 (hQ:∀x a w,Q (.panic x) (a.put oi.dst v) w->Q (.panic x) a w:=by exact fun _ _ _ h=>h) (hy:∀u,(execOp a.eval oi).run P u=.ok (.value v) u:=by intro u;kernel_rfl):aV P ops Q F c (fuel+1) listed a w:=by
 simp only [Bool.and_eq_true] at hb;obtain ⟨⟨⟨⟨⟨⟨h1,h2⟩,h3⟩,h4⟩,h5⟩,h7⟩,h8⟩:=hb;exact BS i d v hi h1 h2 h3 h4 h5 hQ h7 hy hS (by simpa using h8) h
theorem EH {P:Program} {ops:Array Oper} {Q:Exit->Act->World->Prop} {F:World->Prop} {c:Nat} {fuel:Nat} {listed L:Array Bool} {a:Act} {w:World} (k j:Nat) {ok oj:Oper} (dk dj:Tmp) {Z:Array Value} {T:TypeId} {g:FuncId} {brgs:Array Value} (R:World->Value->World->Prop)
 (ek:ops[k]?=some ok) (ej:ops[j]?=some oj) (l1:(listed.setIfInBounds k true).setIfInBounds j true=L)
 (hF:∀u,Bw w u->F u) (ck:∀u,Bw w u->Calls P g brgs u fun e w'=>(∃y,e=.returned y∧R u y w')∧Bw u w')
 (h:∀y p u v v',Bw w u->R u y v->Bw v v'->(p<u.heap.size∨v.heap.size<=p)->w.heap.size<=p->v'.heap[p]?=some (.cells Z T (0,0))->Bw w v'->aV P ops Q F c fuel L ((a.put (some dk) y).put (some dj) (PT p 0)) v')
 (dd:(ok.dst == some dk && oj.dst == some dj && dk != dj && ok.guard.isNone && oj.guard.isNone)=true:=by kernel_rfl)
 (r1:Region.ready .any ops listed=[k,j]:=by kernel_rfl) (r2:Region.ready .any ops (listed.setIfInBounds k true)=[j]:=by kernel_rfl) (r5:Region.ready .any ops (listed.setIfInBounds j true)=[k]:=by kernel_rfl) (l2:(listed.setIfInBounds j true).setIfInBounds k true=L:=by kernel_rfl)
 (xk:∀u,(execOp a.eval ok).run P u=.ok (.enter g brgs) u:=by intro u;kernel_rfl) (xk':∀p u,(execOp (a.put (some dj) p).eval ok).run P u=.ok (.enter g brgs) u:=by intro p u;kernel_rfl)
 (xj:∀b u,(execOp b oj).run P u=.ok (.value (PT u.heap.size 0)) (u.alloc (.cells Z T)):=by intro b u;kernel_rfl):aV P ops Q F c (fuel+2) listed a w:=by
 simp only [Bool.and_eq_true,beq_iff_eq,bne_iff_ne,Option.isNone_iff_eq_none] at dd;obtain ⟨⟨⟨⟨d1,d2⟩,d3⟩,g1⟩,g2⟩:=dd;exact Fd k j dk dj R ek ej ⟨d1,d2,d3⟩ ⟨g1,g2⟩ r1 r2 r5 l1 l2 xk xk' xj hF ck h
theorem jE (p:PtrM) (al:Option Addr) (cl:Nat) (plain:Bool) (pick:Int) (r:RunM) (c t:Int) (w:World):
 Calls Tryz.prog 67 #[.agg (aG p al cl plain pick r),VI c,VU t] w fun e w'=>e=.returned (.agg (aG p al cl plain pick (bI r c t)))∧Bw w w':=by
 have hsz:=bP p al cl plain pick r;have h1:=dM p al cl plain pick r;have HE:Hid (((aG p al cl plain pick r).setIfInBounds 23 (VI c)).setIfInBounds 24 (VU t)=aG p al cl plain pick (bI r c t)):=rfl;have g23:(aG p al cl plain pick r)[23]?=some (VI r.cause):=rfl;have g24:(aG p al cl plain pick r)[24]?=some (VU r.tval):=rfl;generalize aG p al cl plain pick r=C at *;generalize aG p al cl plain pick (bI r c t)=D at *;have HO:=hid h1;clear h1;go_enter Tryz.func67,Tryz.ntmps67;go_upto_region 1 with fail;obtain ⟨v1,Ev1,F⟩:=ax2 w C eS 54 54;rw [Ev1.out];clear Ev1;obtain ⟨h3,h6,l1,n1⟩:=F;have H3:Hid _:=h3;have H6:Hid _:=h6;have b1:w.heap.size<v1.heap.size:=by omega
 have f23:=ap h3 23;have f24:=ap h3 24;have c23:=ab h3 23 g23;have c24:=ab h3 24 g24;clear h3 h6;have hz:=aS;have HL:Hid ((Instr.loadAt 54 (PT w.heap.size 0)).run Tryz.prog ((v1.setCell (AD w.heap.size 23) (VI c)).setCell (AD w.heap.size 24) (VU t))=.ok (.agg ((C.setIfInBounds 23 (VI c)).setIfInBounds 24 (VU t))) ((v1.setCell (AD w.heap.size 23) (VI c)).setCell (AD w.heap.size 24) (VU t))):=aW (cf (cf H3.out 23 _) 24 _) Tryz.underlying54 rfl (by simp only [Array.size_setIfInBounds,hsz];exact dq);have HS:Hid _:=aR (P:=Tryz.prog) (T:=54) (V:=(C.setIfInBounds 23 (VI c)).setIfInBounds 24 (VU t)) (eL (eL H6.out 23 (VI c) (show w.heap.size+1≠w.heap.size by omega)) 24 (VU t) (show w.heap.size+1≠w.heap.size by omega)) (by simp only [Array.size_setIfInBounds,hsz];exact dq) (by simp only [Array.size_setIfInBounds,hsz,hz]) (pD (pD HO.out _ rfl) _ rfl);go_wp2_with (first
  | ((with_reducible refine bj ?_ HL.out ?_);(exact rfl))
  | ((with_reducible refine az ?_ ?_ HS.out ?_);(exact rfl);(exact rfl)))
 have hD:D.size=31:=by rw [<-HE.out];simp only [Array.size_setIfInBounds,hsz]
 have e1:=aI (V:=(C.setIfInBounds 23 (VI c)).setIfInBounds 24 (VU t)) (eL (eL H6.out 23 (VI c) (show w.heap.size+1≠w.heap.size by omega)) 24 (VU t) (show w.heap.size+1≠w.heap.size by omega)) (by rw [HE.out,hD,hz]);have e2:=aK (show w.heap.size<=w.heap.size+1 by omega) ((C.setIfInBounds 23 (VI c)).setIfInBounds 24 (VU t)).toList 0 _ (cH (cH n1 nle 23 (VI c)) nle 24 (VU t));rw [HE.out] at e1 e2 |-;generalize ((v1.setCell (AD w.heap.size 23) (VI c)).setCell (AD w.heap.size 24) (VU t)).setCells (w.heap.size+1) 0 D.toList=v2 at e1 e2 |-;exact dE (b:=w.heap.size+1) Tryz.results67 rfl (bC (P:=Tryz.prog) e1 Tryz.underlying54 rfl (by rw [hD];exact dq)) rfl ⟨rfl,e2⟩
theorem uA (p:PtrM) (h:HartM) (w:World):
 Calls Tryz.prog 34 #[.agg (ak p h)] w fun e w'=>e=.returned (io h.mode h.sum h.mxr h.satp)∧Bw w w':=by
 have hsz:=et p h;have g3:(ak p h)[3]?=some (VI h.mode):=rfl;have g4:(ak p h)[4]?=some (.bool h.sum):=rfl;have g5:(ak p h)[5]?=some (.bool h.mxr):=rfl;have g6:(ak p h)[6]?=some (VU h.satp):=rfl;generalize ak p h=C at *;unfold io;go_enter Tryz.func34,Tryz.ntmps34;go_upto_region 1 with fail;obtain ⟨v1,Ev1,F⟩:=ax2 w C #[VI 0,.bool false,.bool false,VU 0] 44 110;rw [Ev1.out];clear Ev1;obtain ⟨h3,h6,l1,n1⟩:=F;have c3:=ab h3 3 g3;have c4:=ab h3 4 g4;have c5:=ab h3 5 g5;have c6:=ab h3 6 g6;have k0:=ab h6 0 (v:=VI 0) rfl;have k1:=ab h6 1 (v:=.bool false) rfl;have k2:=ab h6 2 (v:=.bool false) rfl;have k3:=ab h6 3 (v:=VU 0) rfl;have f0:=ap h6 0;have f1:=ap h6 1;have f2:=ap h6 2;have f3:=ap h6 3;have ne1:w.heap.size≠w.heap.size+1:=by omega
 have ne2:w.heap.size+1≠w.heap.size:=by omega
 have b1:w.heap.size<v1.heap.size:=by omega
 have b2:w.heap.size+1<v1.heap.size:=by omega
 clear h3 h6;go_wp2_with fail;exact bodyPost_ret (v:=.agg #[VI h.mode,.bool h.sum,.bool h.mxr,VU h.satp]) (by simp [results,Tryz.results34,go_sem,k0,k1,k2,k3]) rfl ⟨rfl,cH (cH (cH (cH n1 (by omega) _ _) (by omega) _ _) (by omega) _ _) (by omega) _ _⟩
theorem pw (satp:Int) (w:World) (h0:0<=satp) (h1:satp<=18446744073709551615):
 Calls Tryz.prog 29 #[VU satp] w fun e w'=>e=.returned (.bool (de satp))∧Bw w w':=by
 have HS:Hid (de satp=(satp/1152921504606846976%16 == 0 || satp/1152921504606846976%16 == 8)):=rfl;have HB:Hid (∀u,Calls Tryz.prog 64 #[VU satp,VI 60,VI 63] u fun e w'=>e=.returned (VU (satp/1152921504606846976%16))∧∃n,w'=u.drewN n):=fun u=>bK satp 60 63 _ _ u h0 h1 (by omega) (by omega) (by omega) (by omega) (by decide) (by decide);generalize de satp=q at *;generalize satp/1152921504606846976%16=x at *;by_cases hx:x=0
 ·subst hx;have hq:q=true:=by rw [HS.out];rfl
  subst hq;go_enter Tryz.func29,Tryz.ntmps29;go_wp2_with fail;refine (HB.out w).mono ?_;rintro e v1 ⟨rfl,n,rfl⟩;go_wp2;go_ret;exact ⟨rfl,below_drewN brf n⟩
 ·have hx':(x == 0)=false:=by simpa using hx
  go_enter Tryz.func29,Tryz.ntmps29;go_wp2_with fail;refine (HB.out w).mono ?_;rintro e v1 ⟨rfl,n,rfl⟩;go_wp2_with fail;refine (HB.out _).mono ?_;rintro e v2 ⟨rfl,m,rfl⟩;go_wp2;go_ret;exact ⟨aL (by rw [HS.out,hx'];simp),below_drewN brf (n+m)⟩
theorem py (a:Option Addr) (len cap:Nat) (zs:List Int) (i:Nat) (w:World) (h:Byt w a len zs) (hl:len<=1048576) (hi:i<=9223372036854775807):
 Calls Tryz.prog 27 #[.slice a len cap,VI i] w fun e w'=>e=.returned (VI (atM zs i))∧w'=w:=by
 obtain ⟨h1,h2,h3⟩:=h;by_cases hlt:i<len
 ·rcases h3 with h3 | ⟨b,off,rfl,hbw,hc⟩
  ·omega
  have g1:=hc i hlt;have g2:=h2 i;have HA:Hid (zs[i]?.getD 0=atM zs i):=rfl;generalize zs[i]?.getD 0=x at g1 g2 HA;clear hc h2;go_enter Tryz.func27,Tryz.ntmps27;go_wp2;go_ret;exact ⟨cx HA.out,rfl⟩
 ·have HA:Hid (atM zs i=0):=by
   show zs[i]?.getD 0=0;rw [List.getElem?_eq_none (by omega)];rfl
  clear h2 h3;go_enter Tryz.func27,Tryz.ntmps27;go_wp2;go_ret;exact ⟨cx HA.out.symm,rfl⟩
end Go.Proofs.YthdgiakgepmabaaGreat
