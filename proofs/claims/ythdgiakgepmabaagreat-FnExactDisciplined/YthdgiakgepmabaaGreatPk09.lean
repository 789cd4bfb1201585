import Derived.Deep.MidRow
import Derived.OrdersHeld
import Derived.Test.YthdgiakgepmabaaGreatPk08
namespace Go.Proofs.YthdgiakgepmabaaGreat
open Go.RowKit
set_option linter.unusedVariables false
set_option maxHeartbeats 6400000
set_option maxRecDepth 20000
section
variable {P:Program} {ops:Array Oper} {Q:Exit->Act->World->Prop} {rest:List Oper} {a:Act}
theorem ja {d:Tmp} {T ty:TypeId} {x:Operand} {pos:String} {af:Array Edge} {w:World} {b o:Nat} {V:Value} (hx:a.eval x=PT b o) (hl:(Instr.loadAt T (PT b o)).run P w=.ok V w)
 (h:wpList P ops Q rest (a.put (some d) V) w):wpList P ops Q ({ dst:=some d,op:=.load T x,type:=ty,pos:=pos,after:=af,guard:=none }::rest) a w:=
 wpList_plain rfl fun K hK=>by
  unfold Oper.wp execOp;simp only [hx,Sem.run_bind,hl,Result.andThen_ok,Sem.run_pure];exact hK _ _ h
theorem bI {T ty:TypeId} {x y:Operand} {pos:String} {af:Array Edge} {w w':World} {b o:Nat} {V:Value} (hx:a.eval x=PT b o) (hy:a.eval y=V) (hl:(Instr.storeAt T (PT b o) V).run P w=.ok () w')
 (h:wpList P ops Q rest (a.put none undef) w'):wpList P ops Q ({ dst:=none,op:=.store T x y,type:=ty,pos:=pos,after:=af,guard:=none }::rest) a w:=
 wpList_plain rfl fun K hK=>by
  unfold Oper.wp execOp;simp only [hx,hy,Sem.run_bind,hl,Result.andThen_ok,Sem.run_pure];exact hK _ _ h
end
theorem pY {w:World} {b:Nat} {C:Array Value} {t:TypeId} {fr:Nat × Nat} (hb:w.heap[b]?=some (.cells C t fr)) {o n:Nat} {L:List Value} (hL:(C.toList.drop o).take n=L):w.rangeAt b o L:=by
 intro j v hv;rw [<-hL,List.getElem?_take] at hv;split at hv
 ·rw [List.getElem?_drop] at hv;simp only [World.cell?,hb];simpa using hv
 ·cases hv
theorem hU {P:Program} {w:World} {b:Nat} {C:Array Value} {t:TypeId} {fr:Nat × Nat} (hb:w.heap[b]?=some (.cells C t fr)) {T:TypeId} {d:TypeDesc} (hu:P.underlying T=some d) (hd:d.isRow=true) {o n:Nat} (L:List Value) (hi:(P.info? T).map (·.size)=some n) (hL:(C.toList.drop o).take n=L) (hn:L.length=n):
 (Instr.loadAt T (PT b o)).run P w=.ok (.agg L.toArray) w:=
 run_loadAt_mid w b o T L d (pY hb hL) hu hd (by rw [hn];exact hi)
theorem lY {P:Program} {w:World} {b:Nat} {C:Array Value} {t:TypeId} {fr:Nat × Nat} (hb:w.heap[b]?=some (.cells C t fr)) {T:TypeId} {d:TypeDesc} (hu:P.underlying T=some d) (hd:d.isRow=true) {o n:Nat} (L:List Value) (hi:(P.info? T).map (·.size)=some n) (hL:(C.toList.drop o).take n=L) (hn:L.length=n):
 (loadVar T (AD b o)).run P w=.ok (.agg L.toArray) w:=
 run_loadVar_mid w b o T L d (pY hb hL) hu hd (by rw [hn];exact hi)
def lz (C:Array Value) (o:Nat) (L:List Value):Array Value:=(C.toList.take o++L++C.toList.drop (o+L.length)).toArray
theorem dD (b:Nat):∀(L:List Value) (o:Nat) (w:World) (C:Array Value) (t:TypeId) (fr:Nat × Nat),w.heap[b]?=some (.cells C t fr)->o+L.length<=C.size->(w.setCells b o L).heap[b]?=some (.cells (lz C o L) t fr)
 | [],o,w,C,t,fr,h,hl=>by simp [World.setCells,lz,h]
 | v::L,o,w,C,t,fr,h,hl=>by
  simp only [List.length_cons] at hl;have h1:(w.setCell (AD b o) v).heap[b]?=some (.cells (C.setIfInBounds o v) t fr):=by
   simp [World.setCell,Array.getElem?_modify,h]
  have h2:=dD b L (o+1) _ _ t fr h1 (by simp;omega);have e:lz (C.setIfInBounds o v) (o+1) L=lz C o (v::L):=by
   unfold lz;congr 1;simp only [Array.toList_setIfInBounds,List.length_cons];have hlen:o<C.toList.length:=by simpa using (by omega:o<C.size)
   rw [List.take_add_one,List.take_set_of_le nle,List.getElem?_set_self hlen,List.drop_set_of_lt (by omega),show o+1+L.length=o+(L.length+1) by omega];simp
  rw [<-e];exact h2
theorem bK (b:Nat):∀(L:List Value) (o:Nat) (w v:World),w.grownBy v (some b)->w.grownBy (v.setCells b o L) (some b)
 | [],o,w,v,h=>h
 | x::L,o,w,v,h=>bK b L (o+1) w _ (aj h o x)
theorem hZ {P:Program} {w:World} {b:Nat} {C:Array Value} {t:TypeId} (hb:w.heap[b]?=some (.cells C t (0,0))) {T:TypeId} {o:Nat} {V:Array Value} (hi:(P.info? T).map (·.size)=some V.size) (hs:o+V.size<=C.size) (h1:V.all (·.oneCell')=true):
 (Instr.storeAt T (PT b o) (.agg V)).run P w=.ok () (w.setCells b o V.toList):=by
 refine run_storeAt_mid w b o T V (fun j hj=>?_) hi h1;refine ⟨?_,?_⟩
 ·have:o+j<C.size:=by omega
  simp [World.cell?,hb,this]
 ·simp [World.frozen?,hb]
theorem cV {w:World} {b:Nat} {C:Array Value} {t:TypeId} {fr:Nat × Nat} (hb:w.heap[b]?=some (.cells C t fr)) (i:Nat) (v:Value):(w.setCell (AD b i) v).heap[b]?=some (.cells (C.setIfInBounds i v) t fr):=by
 simp [World.setCell,Array.getElem?_modify,hb]
theorem ce {w:World} {b:Nat} {C:Array Value} {t:TypeId} {fr:Nat × Nat} (hb:w.heap[b]?=some (.cells C t fr)) (i:Nat) {v:Value} (hv:C[i]?=some v):w.cell? (AD b i)=some v:=by
 simp [World.cell?,hb,hv]
theorem ay {w:World} {b:Nat} {C:Array Value} {t:TypeId} (hb:w.heap[b]?=some (.cells C t (0,0))) (i:Nat):w.frozen? (AD b i)=false:=by
 simp [World.frozen?,hb]
theorem BK {w w':World} {b r:Nat} {o:Obj} (h:w.heap[b]?=some o) (hg:w.grownBy w' (some r)) (hne:b≠r):w'.heap[b]?=some o:=aq h hg hne
theorem qV {w:World} {b r:Nat} {o:Obj} (h:w.heap[b]?=some o) (i:Nat) (v:Value) (hne:b≠r):(w.setCell (AD r i) v).heap[b]?=some o:=by
 rw [<-h];simp [World.setCell,Array.getElem?_modify,Ne.symm hne]
theorem Cd {w:World} {b r:Nat} {o:Obj} (h:w.heap[b]?=some o) (i:Nat) (L:List Value) (hne:b≠r):(w.setCells r i L).heap[b]?=some o:=
 aq h (bK r L i w w (cC w (some r))) hne
theorem eO {B:Nat} {a w:World} {g:Nat} (h:Below B a w) (hg:B<=g) (i:Nat) (v:Value):Below B a (w.setCell (AD g i) v):=h.setCell hg _
theorem dn {B:Nat} {a:World} {g:Nat} (hg:B<=g):∀(L:List Value) (o:Nat) (w:World),Below B a w->Below B a (w.setCells g o L)
 | [],o,w,h=>h
 | x::L,o,w,h=>dn hg L (o+1) _ (h.setCell hg _)
theorem fP (b:Nat):∀(L:List Value) (o:Nat) (w:World),(w.setCells b o L).heap.size=w.heap.size
 | [],o,w=>rfl
 | x::L,o,w=>by
  rw [World.setCells,fP b L (o+1)];simp
theorem yD (C V:Array Value) (h:V.size=C.size):lz C 0 V.toList=V:=by
 unfold lz;rw [List.take_zero,List.drop_of_length_le (by simp [h])];simp
theorem ey {P:Program} {w:World} {b:Nat} {C:Array Value} {t:TypeId} {fr:Nat × Nat} (hb:w.heap[b]?=some (.cells C t fr)) {T:TypeId} {d:TypeDesc} (hu:P.underlying T=some d) (hd:d.isRow=true) (hi:(P.info? T).map (·.size)=some C.size):
 (Instr.loadAt T (PT b 0)).run P w=.ok (.agg C) w:=by
 have:=hU (P:=P) hb hu hd (o:=0) C.toList hi (by rw [List.drop_zero,List.take_of_length_le (by simp)]) (by simp);simpa using this
theorem dR {P:Program} {w:World} {b:Nat} {C:Array Value} {t:TypeId} {fr:Nat × Nat} (hb:w.heap[b]?=some (.cells C t fr)) {T:TypeId} {d:TypeDesc} (hu:P.underlying T=some d) (hd:d.isRow=true) (hi:(P.info? T).map (·.size)=some C.size):
 (loadVar T (AD b 0)).run P w=.ok (.agg C) w:=by
 have:=lY (P:=P) hb hu hd (o:=0) C.toList hi (by rw [List.drop_zero,List.take_of_length_le (by simp)]) (by simp);simpa using this
theorem dh {P:Program} {w:World} {b:Nat} {C V:Array Value} {t:TypeId} (hb:w.heap[b]?=some (.cells C t (0,0))) {T:TypeId} (hi:(P.info? T).map (·.size)=some V.size) (hs:V.size=C.size) (h1:V.all (·.oneCell')=true):
 (Instr.storeAt T (PT b 0) (.agg V)).run P w=.ok () (w.setCells b 0 V.toList):=
 hZ hb hi (by omega) h1
theorem cD {w:World} {b:Nat} {C V:Array Value} {t:TypeId} {fr:Nat × Nat} (hb:w.heap[b]?=some (.cells C t fr)) (hs:V.size=C.size):(w.setCells b 0 V.toList).heap[b]?=some (.cells V t fr):=by
 rw [dD b V.toList 0 w C t fr hb (by simp;omega),yD C V hs]
theorem Dw {C:Array Value} (h:C.all (·.oneCell')=true) (i:Nat) {v:Value} (hv:v.oneCell'=true):(C.setIfInBounds i v).all (·.oneCell')=true:=by
 rw [Array.all_eq_true_iff_forall_mem] at h |-;intro x hx;rcases Array.mem_or_eq_of_mem_setIfInBounds hx with hx | rfl
 ·exact h x hx
 ·exact hv
theorem tp {P:Program} {fn:Func} {R:Ending->World->Prop} {a:Act} {w:World} {s:Tmp} {T:TypeId} {b:Nat} {V:Value} (hr:fn.results=#[ResultVar.cell s T]) (hs:a.tmps[s]?=some (PT b 0)) (hl:(loadVar T (AD b 0)).run P w=.ok V w) (hd:a.defers=[]) (hR:R (.returned V) w):bodyPost P fn R .ret a w:=by
 refine bodyPost_ret (v:=V) ?_ hd hR;simp [results,hr,hs,asAddr,hl]
theorem aY {e T:TypeId} {size base n pb:Nat} {w:World} {s:Value} {cs:List Value} {cur:Array Value} {q:Nat × Nat} (h:w.ownsRow base e size s n cs) (hp:w.heap[pb]?=some (.cells cur T q)) (hT:T≠e):s.ownBlock≠some pb:=by
 rcases h.2 with ⟨h1,_⟩ | ⟨g,cap,cur',h1,_,h3,_⟩
 ·rw [h1];simp [Value.ownBlock]
 ·rw [h1];simp only [Value.ownBlock];intro he;have:g=pb:=Option.some.inj he;subst this;rw [h3] at hp;cases hp;exact hT rfl
theorem bS {e T:TypeId} {size base n pb:Nat} {w w':World} {s:Value} {cs:List Value} {cur:Array Value} {q:Nat × Nat} (h:w.ownsRow base e size s n cs) (hp:w.heap[pb]?=some (.cells cur T q)) (hT:T≠e) (hg:w.grownBy w' (some pb)):w'.ownsRow base e size s n cs:=
 h.kept hg (.inr (aY h hp hT))
theorem aP {P:Program} {a:Act} {d:Option Tmp} {T ty:TypeId} {x:Operand} {pos:String} {af:Array Edge} {g:Option (Nat × Bool)} {w:World} {b o:Nat} {V:Value} (hx:a.eval x=PT b o) (hl:(Instr.loadAt T (PT b o)).run P w=.ok V w):
 (execOp a.eval { dst:=d,op:=.load T x,type:=ty,pos:=pos,after:=af,guard:=g }).run P w=.ok (.value V) w:=by
 unfold execOp;simp only [hx,Sem.run_bind,hl,Result.andThen_ok,Sem.run_pure]
theorem Fg {P:Program} {ops:Array Oper} {Q:Exit->Act->World->Prop} {S:World->Prop} {fuel:Nat} {listed:Array Bool} {a:Act} {w w':World} (i:Nat) {T ty:TypeId} {x y:Operand} {pos:String} {af:Array Edge} (hi:ops[i]?=some { dst:=none,op:=.store T x y,type:=ty,pos:=pos,after:=af,guard:=none }) (hr:Region.ready .any ops listed=[i])
 {b o:Nat} {V:Value} (hx:a.eval x=PT b o) (hy:a.eval y=V) (hl:(Instr.storeAt T (PT b o) V).run P w=.ok () w') (hS:S w') (h:wpAnyH P .any ops Q S fuel (listed.setIfInBounds i true) a w'):wpAnyH P .any ops Q S (fuel+1) listed a w:=by
 refine wpAnyH_all hr (by simp) (fun j hj=>?_);have:j=i:=by simpa using hj
 subst this;unfold wpOp;simp only [hi];rw [if_pos (by simp [Region.wanted])];refine .inl ?_;unfold Oper.wp execOp;simp only [hx,hy,Sem.run_bind,hl,Result.andThen_ok,Sem.run_pure];exact ⟨hS,h⟩
structure PtrM where
 am:Option Addr
 cm:Nat
 ar:Option Addr
 cr:Nat
 a1:Option Addr
 c1:Nat
 a2:Option Addr
 c2:Nat
 a3:Option Addr
 c3:Nat
def kA (p:PtrM) (k:KM):Array Value:=#[VI k.i.sets,VI k.i.ways,.slice p.a1 k.i.es.length p.c1,VI k.d.sets,VI k.d.ways,.slice p.a2 k.d.es.length p.c2,VI k.p.sets,VI k.p.ways,.slice p.a3 k.p.es.length p.c3]
def aA (p:PtrM) (h:HartM):Array Value:=#[.slice p.am h.mem.length p.cm,.slice p.ar h.regs.length p.cr,VU h.pc,VI h.mode,.bool h.sum,.bool h.mxr,VU h.satp,VU h.tvec,VU h.epc,VI h.emode,VI h.cause,VU h.tval,
 VI h.k.i.sets,VI h.k.i.ways,.slice p.a1 h.k.i.es.length p.c1,VI h.k.d.sets,VI h.k.d.ways,.slice p.a2 h.k.d.es.length p.c2,VI h.k.p.sets,VI h.k.p.ways,.slice p.a3 h.k.p.es.length p.c3]
def Bb (p:PtrM) (al:Option Addr) (cl:Nat) (plain:Bool) (pick:Int) (r:RunM):Array Value:=#[.slice p.am r.h.mem.length p.cm,.slice p.ar r.h.regs.length p.cr,VU r.h.pc,VI r.h.mode,.bool r.h.sum,.bool r.h.mxr,VU r.h.satp,VU r.h.tvec,VU r.h.epc,VI r.h.emode,VI r.h.cause,VU r.h.tval,
 VI r.h.k.i.sets,VI r.h.k.i.ways,.slice p.a1 r.h.k.i.es.length p.c1,VI r.h.k.d.sets,VI r.h.k.d.ways,.slice p.a2 r.h.k.d.es.length p.c2,VI r.h.k.p.sets,VI r.h.k.p.ways,.slice p.a3 r.h.k.p.es.length p.c3,
 .bool plain,VI pick,VI r.cause,VU r.tval,.slice al r.looks.length cl,.bool r.fenced,.bool r.fence.hasVa,VU r.fence.va,.bool r.fence.hasAsid,VU r.fence.asid]
def wV:List (Int × Int)->List Value
 | []=>[]
 | l::ls=>.int .i64 l.1::.int .u64 l.2::wV ls
def cF (zs:List Int):List Value:=zs.map (Value.int .u64)
def dW (p:PtrM):List (Option Addr):=[p.am,p.ar,p.a1,p.a2,p.a3]
def From (B:Nat) (p p':PtrM):Prop:=∀q,some q∈dW p'->some q∈dW p∨B<=q.block
def FromL (B:Nat) (al al':Option Addr):Prop:=∀q,al'=some q->al=some q∨B<=q.block
structure HartIn (w:World) (p:PtrM) (h:HartM):Prop where
 mem:Byt w p.am h.mem.length h.mem
 memc:h.mem.length<=p.cm∧p.cm<=9223372036854775807
 regs:RowC w p.ar h.regs.length 1 (cF h.regs)
 regc:h.regs.length<=p.cr∧p.cr<=9223372036854775807
 rega:(p.ar=none->h.regs.length=0∧p.cr=0)∧∀q,p.ar=some q->q.spot=none
 ks:KAt w (.agg (kA p h.k)) h.k
 low:∀q,some q∈dW p->q.block<w.heap.size
structure RunIn (w:World) (p:PtrM) (al:Option Addr) (cl:Nat) (r:RunM):Prop where
 h:HartIn w p r.h
 looks:RowC w al r.looks.length 2 (wV r.looks)
 lookc:r.looks.length<=cl∧cl<=9223372036854775807
 looka:(al=none->r.looks.length=0∧cl=0)∧∀q,al=some q->q.spot=none
 lookl:r.looks.length<=8
 low:∀q,al=some q->q.block<w.heap.size
theorem HartIn.keep {w w':World} {p:PtrM} {h:HartM} (k:HartIn w p h) (hb:Bw w w'):HartIn w' p h:=
 ⟨k.mem.keep hb,k.memc,k.regs.keep hb,k.regc,k.rega,k.ks.keep hb,fun q hq=>ltl (k.low q hq) hb.size⟩
theorem RunIn.keep {w w':World} {p:PtrM} {al:Option Addr} {cl:Nat} {r:RunM} (k:RunIn w p al cl r) (hb:Bw w w'):RunIn w' p al cl r:=
 ⟨k.h.keep hb,k.looks.keep hb,k.lookc,k.looka,k.lookl,fun q hq=>ltl (k.low q hq) hb.size⟩
theorem Byt.gb' {w w':World} {a:Option Addr} {len r:Nat} {zs:List Int} (h:Byt w a len zs) (hg:w.grownBy w' (some r)) (hne:∀q,a=some q->q.block≠r):Byt w' a len zs:=by
 obtain ⟨h1,h2,h3⟩:=h;refine ⟨h1,h2,?_⟩;rcases h3 with h3 | ⟨b,off,rfl,hb,hc⟩
 ·exact .inl h3
 ·have hne':=hne (AD b off) rfl;exact .inr ⟨b,off,rfl,ltl hb hg.size,fun i hi=>(World.cell?_of_block (hg.block b hb (by simpa using hne'))).trans (hc i hi)⟩
theorem TlbAt.gb' {w w':World} {t:TlbM} {a:Option Addr} {n c r:Nat} {x y:Value} (h:TlbAt w (.agg #[x,y,.slice a n c]) t) (hg:w.grownBy w' (some r)) (hne:∀q,a=some q->q.block≠r):TlbAt w' (.agg #[x,y,.slice a n c]) t:=by
 obtain ⟨a',c',he,hr,rest⟩:=h;simp only [Value.agg.injEq,Array.mk.injEq,List.cons.injEq,Value.slice.injEq,and_true] at he;obtain ⟨rfl,rfl,rfl,rfl,rfl⟩:=he;exact ⟨_,_,rfl,RowC.gb' hr hg hne,rest⟩
theorem HartIn.gb {w w':World} {p:PtrM} {h:HartM} {r:Nat} (k:HartIn w p h) (hg:w.grownBy w' (some r)) (hne:∀q,some q∈dW p->q.block≠r):HartIn w' p h:=by
 refine ⟨k.mem.gb' hg fun q hq=>hne q (by simp [dW,hq]),k.memc,RowC.gb' k.regs hg fun q hq=>hne q (by simp [dW,hq]),k.regc,k.rega,?_,fun q hq=>ltl (k.low q hq) hg.size⟩;obtain ⟨a1,c1,a2,c2,a3,c3,he,t1,t2,t3⟩:=k.ks;simp only [kA,Value.agg.injEq,Array.mk.injEq,List.cons.injEq,Value.slice.injEq,true_and,and_true] at he;obtain ⟨⟨rfl,rfl⟩,⟨rfl,rfl⟩,rfl,rfl⟩:=he;exact ⟨_,_,_,_,_,_,rfl,t1.gb' hg fun q hq=>hne q (by simp [dW,hq]),t2.gb' hg fun q hq=>hne q (by simp [dW,hq]),t3.gb' hg fun q hq=>hne q (by simp [dW,hq])⟩
theorem RunIn.gb {w w':World} {p:PtrM} {al:Option Addr} {cl r:Nat} {rm:RunM} (k:RunIn w p al cl rm) (hg:w.grownBy w' (some r)) (hne:∀q,some q∈dW p->q.block≠r) (hnl:∀q,al=some q->q.block≠r):RunIn w' p al cl rm:=
 ⟨k.h.gb hg hne,RowC.gb' k.looks hg hnl,k.lookc,k.looka,k.lookl,fun q hq=>ltl (k.low q hq) hg.size⟩
abbrev mB:Array Value:=#[SN,SN,VU 0,VI 0,.bool false,.bool false,VU 0,VU 0,VU 0,VI 0,VI 0,VU 0,VI 0,VI 0,SN,VI 0,VI 0,SN,VI 0,VI 0,SN]
abbrev zS:Array Value:=#[SN,SN,VU 0,VI 0,.bool false,.bool false,VU 0,VU 0,VU 0,VI 0,VI 0,VU 0,VI 0,VI 0,SN,VI 0,VI 0,SN,VI 0,VI 0,SN,.bool false,VI 0,VI 0,VU 0,SN,.bool false,.bool false,VU 0,.bool false,VU 0]
theorem rp (p:PtrM) (al:Option Addr) (cl:Nat) (plain:Bool) (pick:Int) (r:RunM):(Bb p al cl plain pick r).all (·.oneCell')=true:=by
 simp [Bb,Value.oneCell']
theorem wW (p:PtrM) (h:HartM):(aA p h).all (·.oneCell')=true:=by
 simp [aA,Value.oneCell']
theorem ef (p:PtrM) (al:Option Addr) (cl:Nat) (plain:Bool) (pick:Int) (r:RunM):(Bb p al cl plain pick r).size=31:=rfl
theorem gI (p:PtrM) (h:HartM):(aA p h).size=21:=rfl
theorem cZ:zS.size=31:=rfl
theorem mC:mB.size=21:=rfl
theorem po:(Tryz.prog.info? 54).map (·.size)=some 31:=by kernel_rfl
theorem ph:(Tryz.prog.info? 44).map (·.size)=some 21:=by kernel_rfl
end Go.Proofs.YthdgiakgepmabaaGreat
