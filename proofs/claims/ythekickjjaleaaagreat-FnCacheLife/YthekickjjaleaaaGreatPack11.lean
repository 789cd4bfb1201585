import Derived.Deep.MidRow
import Derived.OrdersHeld
import Derived.Deep.RegionHeld3
import Derived.Test.YthekickjjaleaaaGreatPack09
import Derived.Test.YthekickjjaleaaaGreatPack05
import Derived.Test.YthekickjjaleaaaGreatPack04
import Derived.Test.YthekickjjaleaaaGreatPack10
import Derived.Deep.DeepCutAuto
import Derived.Test.YthekickjjaleaaaGreatPack02
namespace Go.Proofs.YthekickjjaleaaaGreat
open Go.RowKit
set_option linter.unusedVariables false
section
variable {P:Program} {ops:Array Oper} {Q:Exit→Act→World→Prop} {rest:List Oper} {a:Act}
theorem aK {d:Tmp} {T ty:TypeId} {x:Operand} {pos:String} {af:Array Edge} {w:World} {b o:Nat} {V:Value} (hx:a.eval x=.pointer (some ⟨b,o,none⟩)) (hl:(Instr.loadAt T (.pointer (some ⟨b,o,none⟩))).run P w=.ok V w)
 (h:wpList P ops Q rest (a.put (some d) V) w):wpList P ops Q ({ dst:=some d,op:=.load T x,type:=ty,pos:=pos,after:=af,guard:=none }::rest) a w:=
 wpList_plain rfl fun K hK=>by
  unfold Oper.wp execOp;simp only [hx,Sem.run_bind,hl,Result.andThen_ok,Sem.run_pure];exact hK _ _ h
theorem av {T ty:TypeId} {x y:Operand} {pos:String} {af:Array Edge} {w w':World} {b o:Nat} {V:Value} (hx:a.eval x=.pointer (some ⟨b,o,none⟩)) (hy:a.eval y=V) (hl:(Instr.storeAt T (.pointer (some ⟨b,o,none⟩)) V).run P w=.ok () w')
 (h:wpList P ops Q rest (a.put none undef) w'):wpList P ops Q ({ dst:=none,op:=.store T x y,type:=ty,pos:=pos,after:=af,guard:=none }::rest) a w:=
 wpList_plain rfl fun K hK=>by
  unfold Oper.wp execOp;simp only [hx,hy,Sem.run_bind,hl,Result.andThen_ok,Sem.run_pure];exact hK _ _ h
end
theorem lC {P:Program} {ops:Array Oper} {rest:List Oper} {a:Act} {K:Act→Prop} {w0:World} {d:Tmp} {T ty:TypeId} {x:Operand} {pos:String} {af:Array Edge} {b o:Nat} {V:Value} (hx:a.eval x=.pointer (some ⟨b,o,none⟩)) (hl:∀u:Lies w0,(Instr.loadAt T (.pointer (some ⟨b,o,none⟩))).run P u.w=.ok V u.w)
 (h:wpQuiet P ops (fun w'=>∃u:Lies w0,w'=u.w) K rest (a.put (some d) V)):wpQuiet P ops (fun w'=>∃u:Lies w0,w'=u.w) K ({ dst:=some d,op:=.load T x,type:=ty,pos:=pos,after:=af,guard:=none }::rest) a:=by
 unfold wpQuiet;rw [if_pos (by simp [Region.wanted])];refine ⟨V,?_,h⟩;rintro w ⟨u,rfl⟩;unfold Oper.quietAt execOp;simp only [hx,Sem.run_bind,hl u,Result.andThen_ok,Sem.run_pure];exact ⟨rfl,rfl⟩
theorem lG {w0:World} {b:Nat} {o:Obj} (h:w0.heap[b]?=some o) (u:Lies w0):u.w.heap[b]?=some o:=
 (u.h.block b (Array.getElem?_eq_some_iff.1 h).1).trans h
theorem qo {w:World} {b:Nat} {C:Array Value} {t:TypeId} {fr:Nat × Nat} (hb:w.heap[b]?=some (.cells C t fr)) {o n:Nat} {L:List Value} (hL:(C.toList.drop o).take n=L):w.rangeAt b o L:=by
 intro j v hv;rw [←hL,List.getElem?_take] at hv;split at hv
 ·rw [List.getElem?_drop] at hv;simp only [World.cell?,hb];simpa using hv
 ·cases hv
theorem cw {P:Program} {w:World} {b:Nat} {C:Array Value} {t:TypeId} {fr:Nat × Nat} (hb:w.heap[b]?=some (.cells C t fr)) {T:TypeId} {d:TypeDesc} (hu:P.underlying T=some d) (hd:d.isRow=true) {o n:Nat} (L:List Value) (hi:(P.info? T).map (·.size)=some n) (hL:(C.toList.drop o).take n=L) (hn:L.length=n):
 (Instr.loadAt T (.pointer (some ⟨b,o,none⟩))).run P w=.ok (.agg L.toArray) w:=
 run_loadAt_mid w b o T L d (qo hb hL) hu hd (by rw [hn];exact hi)
theorem sy {P:Program} {w:World} {b:Nat} {C:Array Value} {t:TypeId} {fr:Nat × Nat} (hb:w.heap[b]?=some (.cells C t fr)) {T:TypeId} {d:TypeDesc} (hu:P.underlying T=some d) (hd:d.isRow=true) {o n:Nat} (L:List Value) (hi:(P.info? T).map (·.size)=some n) (hL:(C.toList.drop o).take n=L) (hn:L.length=n):
 (loadVar T ⟨b,o,none⟩).run P w=.ok (.agg L.toArray) w:=
 run_loadVar_mid w b o T L d (qo hb hL) hu hd (by rw [hn];exact hi)
def ig (C:Array Value) (o:Nat) (L:List Value):Array Value:=(C.toList.take o++L++C.toList.drop (o+L.length)).toArray
theorem cM (b:Nat):∀(L:List Value) (o:Nat) (w:World) (C:Array Value) (t:TypeId) (fr:Nat × Nat),w.heap[b]?=some (.cells C t fr)→o+L.length≤C.size→(w.setCells b o L).heap[b]?=some (.cells (ig C o L) t fr)
 | [],o,w,C,t,fr,h,hl=>by simp [World.setCells,ig,h]
 | v::L,o,w,C,t,fr,h,hl=>by
  simp only [List.length_cons] at hl;have h1:(w.setCell ⟨b,o,none⟩ v).heap[b]?=some (.cells (C.setIfInBounds o v) t fr):=by
   simp [World.setCell,Array.getElem?_modify,h]
  have h2:=cM b L (o+1) _ _ t fr h1 (by simp;omega);have e:ig (C.setIfInBounds o v) (o+1) L=ig C o (v::L):=by
   unfold ig;congr 1;simp only [Array.toList_setIfInBounds,List.length_cons];have hlen:o<C.toList.length:=by simpa using (by omega:o<C.size)
   rw [List.take_add_one,List.take_set_of_le (Nat.le_refl _),List.getElem?_set_self hlen,List.drop_set_of_lt (by omega),show o+1+L.length=o+(L.length+1) by omega];simp
  rw [←e];exact h2
theorem aM (b:Nat):∀(L:List Value) (o:Nat) (w v:World),w.grownBy v (some b)→w.grownBy (v.setCells b o L) (some b)
 | [],o,w,v,h=>h
 | x::L,o,w,v,h=>aM b L (o+1) w _ (aq h o x)
theorem et {P:Program} {w:World} {b:Nat} {C:Array Value} {t:TypeId} (hb:w.heap[b]?=some (.cells C t (0,0))) {T:TypeId} {o:Nat} {V:Array Value} (hi:(P.info? T).map (·.size)=some V.size) (hs:o+V.size≤C.size) (h1:V.all (·.oneCell')=true):
 (Instr.storeAt T (.pointer (some ⟨b,o,none⟩)) (.agg V)).run P w=.ok () (w.setCells b o V.toList):=by
 refine run_storeAt_mid w b o T V (fun j hj=>?_) hi h1;refine ⟨?_,?_⟩
 ·have:o+j<C.size:=by omega
  simp [World.cell?,hb,this]
 ·simp [World.frozen?,hb]
theorem cd {w:World} {b:Nat} {C:Array Value} {t:TypeId} {fr:Nat × Nat} (hb:w.heap[b]?=some (.cells C t fr)) (i:Nat) (v:Value):(w.setCell ⟨b,i,none⟩ v).heap[b]?=some (.cells (C.setIfInBounds i v) t fr):=by
 simp [World.setCell,Array.getElem?_modify,hb]
theorem ag {w:World} {b:Nat} {C:Array Value} {t:TypeId} {fr:Nat × Nat} (hb:w.heap[b]?=some (.cells C t fr)) (i:Nat) {v:Value} (hv:C[i]?=some v):w.cell? ⟨b,i,none⟩=some v:=by
 simp [World.cell?,hb,hv]
theorem au {w:World} {b:Nat} {C:Array Value} {t:TypeId} (hb:w.heap[b]?=some (.cells C t (0,0))) (i:Nat):w.frozen? ⟨b,i,none⟩=false:=by
 simp [World.frozen?,hb]
theorem ew {w w':World} {b r:Nat} {o:Obj} (h:w.heap[b]?=some o) (hg:w.grownBy w' (some r)) (hne:b≠r):w'.heap[b]?=some o:=aw h hg hne
theorem cQ {w:World} {b r:Nat} {o:Obj} (h:w.heap[b]?=some o) (i:Nat) (v:Value) (hne:b≠r):(w.setCell ⟨r,i,none⟩ v).heap[b]?=some o:=by
 rw [←h];simp [World.setCell,Array.getElem?_modify,Ne.symm hne]
theorem fx {w:World} {b r:Nat} {o:Obj} (h:w.heap[b]?=some o) (i:Nat) (L:List Value) (hne:b≠r):(w.setCells r i L).heap[b]?=some o:=
 aw h (aM r L i w w (az w (some r))) hne
theorem cI {B:Nat} {a w:World} {g:Nat} (h:Below B a w) (hg:B≤g) (i:Nat) (v:Value):Below B a (w.setCell ⟨g,i,none⟩ v):=h.setCell hg _
theorem aZ {B:Nat} {a:World} {g:Nat} (hg:B≤g):∀(L:List Value) (o:Nat) (w:World),Below B a w→Below B a (w.setCells g o L)
 | [],o,w,h=>h
 | x::L,o,w,h=>aZ hg L (o+1) _ (h.setCell hg _)
theorem cF (b:Nat):∀(L:List Value) (o:Nat) (w:World),(w.setCells b o L).heap.size=w.heap.size
 | [],o,w=>rfl
 | x::L,o,w=>by
  rw [World.setCells,cF b L (o+1)];simp
theorem vM (C V:Array Value) (h:V.size=C.size):ig C 0 V.toList=V:=by
 unfold ig;rw [List.take_zero,List.drop_of_length_le (by simp [h])];simp
theorem aH {P:Program} {w:World} {b:Nat} {C:Array Value} {t:TypeId} {fr:Nat × Nat} (hb:w.heap[b]?=some (.cells C t fr)) {T:TypeId} {d:TypeDesc} (hu:P.underlying T=some d) (hd:d.isRow=true) (hi:(P.info? T).map (·.size)=some C.size):
 (Instr.loadAt T (.pointer (some ⟨b,0,none⟩))).run P w=.ok (.agg C) w:=by
 have:=cw (P:=P) hb hu hd (o:=0) C.toList hi (by rw [List.drop_zero,List.take_of_length_le (by simp)]) (by simp);simpa using this
theorem ba {P:Program} {w:World} {b:Nat} {C:Array Value} {t:TypeId} {fr:Nat × Nat} (hb:w.heap[b]?=some (.cells C t fr)) {T:TypeId} {d:TypeDesc} (hu:P.underlying T=some d) (hd:d.isRow=true) (hi:(P.info? T).map (·.size)=some C.size):
 (loadVar T ⟨b,0,none⟩).run P w=.ok (.agg C) w:=by
 have:=sy (P:=P) hb hu hd (o:=0) C.toList hi (by rw [List.drop_zero,List.take_of_length_le (by simp)]) (by simp);simpa using this
theorem bu {P:Program} {w:World} {b:Nat} {C V:Array Value} {t:TypeId} (hb:w.heap[b]?=some (.cells C t (0,0))) {T:TypeId} (hi:(P.info? T).map (·.size)=some V.size) (hs:V.size=C.size) (h1:V.all (·.oneCell')=true):
 (Instr.storeAt T (.pointer (some ⟨b,0,none⟩)) (.agg V)).run P w=.ok () (w.setCells b 0 V.toList):=
 et hb hi (by omega) h1
theorem a6 {w:World} {b:Nat} {C V:Array Value} {t:TypeId} {fr:Nat × Nat} (hb:w.heap[b]?=some (.cells C t fr)) (hs:V.size=C.size):(w.setCells b 0 V.toList).heap[b]?=some (.cells V t fr):=by
 rw [cM b V.toList 0 w C t fr hb (by simp;omega),vM C V hs]
theorem jQ {C:Array Value} (h:C.all (·.oneCell')=true) (i:Nat) {v:Value} (hv:v.oneCell'=true):(C.setIfInBounds i v).all (·.oneCell')=true:=by
 rw [Array.all_eq_true_iff_forall_mem] at h ⊢;intro x hx;rcases Array.mem_or_eq_of_mem_setIfInBounds hx with hx | rfl
 ·exact h x hx
 ·exact hv
theorem dr (w:World) (A:Array Value) (T:TypeId):(w.alloc (.cells A T)).heap[w.heap.size]?=some (.cells A T (0,0))∧(w.alloc (.cells A T)).heap.size=w.heap.size+1∧Below w.heap.size w (w.alloc (.cells A T)):=
 ⟨heap_alloc_new w _,by simp,(Below.refl _ _).alloc (Nat.le_refl _) _⟩
theorem eJ (w:World) (A B:Array Value) (T U:TypeId):((w.alloc (.cells A T)).alloc (.cells B U)).heap[w.heap.size]?=some (.cells A T (0,0))∧((w.alloc (.cells A T)).alloc (.cells B U)).heap[w.heap.size+1]?=some (.cells B U (0,0))∧((w.alloc (.cells A T)).alloc (.cells B U)).heap.size=w.heap.size+2∧Below w.heap.size w ((w.alloc (.cells A T)).alloc (.cells B U)):=by
 refine ⟨?_,?_,by simp,((Below.refl _ _).alloc (Nat.le_refl _) _).alloc (by simp) _⟩
 ·rw [heap_alloc_old _ _ (by simp)];exact heap_alloc_new w _
 ·have:=heap_alloc_new (w.alloc (.cells A T)) (.cells B U);simp only [World.size_alloc] at this;exact this
theorem ts (w:World) (A B C:Array Value) (T U S:TypeId):(((w.alloc (.cells A T)).alloc (.cells B U)).alloc (.cells C S)).heap[w.heap.size]?=some (.cells A T (0,0))∧(((w.alloc (.cells A T)).alloc (.cells B U)).alloc (.cells C S)).heap[w.heap.size+1]?=some (.cells B U (0,0))∧(((w.alloc (.cells A T)).alloc (.cells B U)).alloc (.cells C S)).heap[w.heap.size+2]?=some (.cells C S (0,0))∧
 (((w.alloc (.cells A T)).alloc (.cells B U)).alloc (.cells C S)).heap.size=w.heap.size+3∧Below w.heap.size w (((w.alloc (.cells A T)).alloc (.cells B U)).alloc (.cells C S)):=by
 obtain ⟨h1,h2,h3,h4⟩:=eJ w A B T U;obtain ⟨k1,k2,k3⟩:=dr ((w.alloc (.cells A T)).alloc (.cells B U)) C S;refine ⟨ab h1 k3 (by omega),ab h2 k3 (by omega),by rw [h3] at k1;exact k1,by omega,Below.step h4 k3 (Nat.le_refl _)⟩
theorem dc {P:Program} {fn:Func} {R:Ending→World→Prop} {a:Act} {w:World} {s:Tmp} {T:TypeId} {b:Nat} {V:Value} (hr:fn.results=#[ResultVar.cell s T]) (hs:a.tmps[s]?=some (.pointer (some ⟨b,0,none⟩))) (hl:(loadVar T ⟨b,0,none⟩).run P w=.ok V w) (hd:a.defers=[]) (hR:R (.returned V) w):bodyPost P fn R .ret a w:=by
 refine bodyPost_ret (v:=V) ?_ hd hR;simp [results,hr,hs,asAddr,hl]
theorem kB {e T:TypeId} {size base n pb:Nat} {w:World} {s:Value} {cs:List Value} {cur:Array Value} {q:Nat × Nat} (h:w.ownsRow base e size s n cs) (hp:w.heap[pb]?=some (.cells cur T q)) (hT:T≠e):s.ownBlock≠some pb:=by
 rcases h.2 with ⟨h1,_⟩ | ⟨g,cap,cur',h1,_,h3,_⟩
 ·rw [h1];simp [Value.ownBlock]
 ·rw [h1];simp only [Value.ownBlock];intro he;have:g=pb:=Option.some.inj he;subst this;rw [h3] at hp;cases hp;exact hT rfl
theorem dn {e T:TypeId} {size base n pb:Nat} {w w':World} {s:Value} {cs:List Value} {cur:Array Value} {q:Nat × Nat} (h:w.ownsRow base e size s n cs) (hp:w.heap[pb]?=some (.cells cur T q)) (hT:T≠e) (hg:w.grownBy w' (some pb)):w'.ownsRow base e size s n cs:=
 h.kept hg (.inr (kB h hp hT))
theorem aQ {P:Program} {a:Act} {d:Option Tmp} {T ty:TypeId} {x:Operand} {pos:String} {af:Array Edge} {g:Option (Nat × Bool)} {w:World} {b o:Nat} {V:Value} (hx:a.eval x=.pointer (some ⟨b,o,none⟩)) (hl:(Instr.loadAt T (.pointer (some ⟨b,o,none⟩))).run P w=.ok V w):
 (execOp a.eval { dst:=d,op:=.load T x,type:=ty,pos:=pos,after:=af,guard:=g }).run P w=.ok (.value V) w:=by
 unfold execOp;simp only [hx,Sem.run_bind,hl,Result.andThen_ok,Sem.run_pure]
theorem pC {P:Program} {ops:Array Oper} {Q:Exit→Act→World→Prop} {S:World→Prop} {fuel:Nat} {listed:Array Bool} {a:Act} {w w':World} (i:Nat) {T ty:TypeId} {x y:Operand} {pos:String} {af:Array Edge} (hi:ops[i]?=some { dst:=none,op:=.store T x y,type:=ty,pos:=pos,after:=af,guard:=none }) (hr:Region.ready .any ops listed=[i])
 {b o:Nat} {V:Value} (hx:a.eval x=.pointer (some ⟨b,o,none⟩)) (hy:a.eval y=V) (hl:(Instr.storeAt T (.pointer (some ⟨b,o,none⟩)) V).run P w=.ok () w') (hS:S w') (h:wpAnyH P .any ops Q S fuel (listed.setIfInBounds i true) a w'):wpAnyH P .any ops Q S (fuel+1) listed a w:=by
 refine wpAnyH_all hr (by simp) (fun j hj=>?_);have:j=i:=by simpa using hj
 subst this;unfold wpOp;simp only [hi];rw [if_pos (by simp [Region.wanted])];refine .inl ?_;unfold Oper.wp execOp;simp only [hx,hy,Sem.run_bind,hl,Result.andThen_ok,Sem.run_pure];exact ⟨hS,h⟩
end Go.Proofs.YthekickjjaleaaaGreat

namespace Go.Proofs.YthekickjjaleaaaGreat
open Go.RowKit
set_option linter.unusedVariables false
structure PtrM where
 am:Option Addr
 cm:Nat
 ar:Option Addr
 cr:Nat
 a1:Option Addr
 c1:Nat
 a2:Option Addr
 c2:Nat
 a3:Option Addr
 c3:Nat
def kA (p:PtrM) (k:KM):Array Value:=#[.int .i64 k.i.sets,.int .i64 k.i.ways,.slice p.a1 k.i.es.length p.c1,.int .i64 k.d.sets,.int .i64 k.d.ways,.slice p.a2 k.d.es.length p.c2,.int .i64 k.p.sets,.int .i64 k.p.ways,.slice p.a3 k.p.es.length p.c3]
def aA (p:PtrM) (h:HartM):Array Value:=#[.slice p.am h.mem.length p.cm,.slice p.ar h.regs.length p.cr,.int .u64 h.pc,.int .i64 h.mode,.bool h.sum,.bool h.mxr,.int .u64 h.satp,.int .u64 h.tvec,.int .u64 h.epc,.int .i64 h.emode,.int .i64 h.cause,.int .u64 h.tval,
 .int .i64 h.k.i.sets,.int .i64 h.k.i.ways,.slice p.a1 h.k.i.es.length p.c1,.int .i64 h.k.d.sets,.int .i64 h.k.d.ways,.slice p.a2 h.k.d.es.length p.c2,.int .i64 h.k.p.sets,.int .i64 h.k.p.ways,.slice p.a3 h.k.p.es.length p.c3]
def aD (p:PtrM) (al:Option Addr) (cl:Nat) (plain:Bool) (pick:Int) (r:RunM):Array Value:=#[.slice p.am r.h.mem.length p.cm,.slice p.ar r.h.regs.length p.cr,.int .u64 r.h.pc,.int .i64 r.h.mode,.bool r.h.sum,.bool r.h.mxr,.int .u64 r.h.satp,.int .u64 r.h.tvec,.int .u64 r.h.epc,.int .i64 r.h.emode,.int .i64 r.h.cause,.int .u64 r.h.tval,
 .int .i64 r.h.k.i.sets,.int .i64 r.h.k.i.ways,.slice p.a1 r.h.k.i.es.length p.c1,.int .i64 r.h.k.d.sets,.int .i64 r.h.k.d.ways,.slice p.a2 r.h.k.d.es.length p.c2,.int .i64 r.h.k.p.sets,.int .i64 r.h.k.p.ways,.slice p.a3 r.h.k.p.es.length p.c3,
 .bool plain,.int .i64 pick,.int .i64 r.cause,.int .u64 r.tval,.slice al r.looks.length cl,.bool r.fenced,.bool r.fence.hasVa,.int .u64 r.fence.va,.bool r.fence.hasAsid,.int .u64 r.fence.asid]
def dQ:List (Int × Int)→List Value
 | []=>[]
 | l::ls=>.int .i64 l.1::.int .u64 l.2::dQ ls
def ex (zs:List Int):List Value:=zs.map (Value.int .u64)
def aN (p:PtrM):List (Option Addr):=[p.am,p.ar,p.a1,p.a2,p.a3]
def From (B:Nat) (p p':PtrM):Prop:=∀q,some q∈aN p'→some q∈aN p∨B≤q.block
def FromL (B:Nat) (al al':Option Addr):Prop:=∀q,al'=some q→al=some q∨B≤q.block
structure HartIn (w:World) (p:PtrM) (h:HartM):Prop where
 mem:Byt w p.am h.mem.length h.mem
 memc:h.mem.length≤p.cm∧p.cm≤9223372036854775807
 regs:RowC w p.ar h.regs.length 1 (ex h.regs)
 regc:h.regs.length≤p.cr∧p.cr≤9223372036854775807
 rega:(p.ar=none→h.regs.length=0∧p.cr=0)∧∀q,p.ar=some q→q.spot=none
 ks:KAt w (.agg (kA p h.k)) h.k
 low:∀q,some q∈aN p→q.block<w.heap.size
structure RunIn (w:World) (p:PtrM) (al:Option Addr) (cl:Nat) (r:RunM):Prop where
 h:HartIn w p r.h
 looks:RowC w al r.looks.length 2 (dQ r.looks)
 lookc:r.looks.length≤cl∧cl≤9223372036854775807
 looka:(al=none→r.looks.length=0∧cl=0)∧∀q,al=some q→q.spot=none
 lookl:r.looks.length≤8
 low:∀q,al=some q→q.block<w.heap.size
theorem HartIn.keep {w w':World} {p:PtrM} {h:HartM} (k:HartIn w p h) (hb:Below w.heap.size w w'):HartIn w' p h:=
 ⟨k.mem.keep hb,k.memc,k.regs.keep hb,k.regc,k.rega,k.ks.keep hb,fun q hq=>Nat.lt_of_lt_of_le (k.low q hq) hb.size⟩
theorem RunIn.keep {w w':World} {p:PtrM} {al:Option Addr} {cl:Nat} {r:RunM} (k:RunIn w p al cl r) (hb:Below w.heap.size w w'):RunIn w' p al cl r:=
 ⟨k.h.keep hb,k.looks.keep hb,k.lookc,k.looka,k.lookl,fun q hq=>Nat.lt_of_lt_of_le (k.low q hq) hb.size⟩
theorem Byt.gb' {w w':World} {a:Option Addr} {len r:Nat} {zs:List Int} (h:Byt w a len zs) (hg:w.grownBy w' (some r)) (hne:∀q,a=some q→q.block≠r):Byt w' a len zs:=by
 obtain ⟨h1,h2,h3⟩:=h;refine ⟨h1,h2,?_⟩;rcases h3 with h3 | ⟨b,off,rfl,hb,hc⟩
 ·exact .inl h3
 ·have hne':b≠r:=hne ⟨b,off,none⟩ rfl;exact .inr ⟨b,off,rfl,Nat.lt_of_lt_of_le hb hg.size,fun i hi=>(World.cell?_of_block (hg.block b hb (by simpa using hne'))).trans (hc i hi)⟩
theorem TlbAt.gb' {w w':World} {t:TlbM} {a:Option Addr} {n c r:Nat} {x y:Value} (h:TlbAt w (.agg #[x,y,.slice a n c]) t) (hg:w.grownBy w' (some r)) (hne:∀q,a=some q→q.block≠r):TlbAt w' (.agg #[x,y,.slice a n c]) t:=by
 obtain ⟨a',c',he,hr,rest⟩:=h;simp only [Value.agg.injEq,Array.mk.injEq,List.cons.injEq,Value.slice.injEq,and_true] at he;obtain ⟨rfl,rfl,rfl,rfl,rfl⟩:=he;exact ⟨_,_,rfl,RowC.gb' hr hg hne,rest⟩
theorem HartIn.gb {w w':World} {p:PtrM} {h:HartM} {r:Nat} (k:HartIn w p h) (hg:w.grownBy w' (some r)) (hne:∀q,some q∈aN p→q.block≠r):HartIn w' p h:=by
 refine ⟨k.mem.gb' hg fun q hq=>hne q (by simp [aN,hq]),k.memc,RowC.gb' k.regs hg fun q hq=>hne q (by simp [aN,hq]),k.regc,k.rega,?_,fun q hq=>Nat.lt_of_lt_of_le (k.low q hq) hg.size⟩;obtain ⟨a1,c1,a2,c2,a3,c3,he,t1,t2,t3⟩:=k.ks;simp only [kA,Value.agg.injEq,Array.mk.injEq,List.cons.injEq,Value.slice.injEq,true_and,and_true] at he;obtain ⟨⟨rfl,rfl⟩,⟨rfl,rfl⟩,rfl,rfl⟩:=he;exact ⟨_,_,_,_,_,_,rfl,t1.gb' hg fun q hq=>hne q (by simp [aN,hq]),t2.gb' hg fun q hq=>hne q (by simp [aN,hq]),t3.gb' hg fun q hq=>hne q (by simp [aN,hq])⟩
theorem RunIn.gb {w w':World} {p:PtrM} {al:Option Addr} {cl r:Nat} {rm:RunM} (k:RunIn w p al cl rm) (hg:w.grownBy w' (some r)) (hne:∀q,some q∈aN p→q.block≠r) (hnl:∀q,al=some q→q.block≠r):RunIn w' p al cl rm:=
 ⟨k.h.gb hg hne,RowC.gb' k.looks hg hnl,k.lookc,k.looka,k.lookl,fun q hq=>Nat.lt_of_lt_of_le (k.low q hq) hg.size⟩
abbrev eu:Array Value:=#[.slice none 0 0,.slice none 0 0,.int .u64 0,.int .i64 0,.bool false,.bool false,.int .u64 0,.int .u64 0,.int .u64 0,.int .i64 0,.int .i64 0,.int .u64 0,.int .i64 0,.int .i64 0,.slice none 0 0,.int .i64 0,.int .i64 0,.slice none 0 0,.int .i64 0,.int .i64 0,.slice none 0 0]
abbrev dk:Array Value:=#[.slice none 0 0,.slice none 0 0,.int .u64 0,.int .i64 0,.bool false,.bool false,.int .u64 0,.int .u64 0,.int .u64 0,.int .i64 0,.int .i64 0,.int .u64 0,.int .i64 0,.int .i64 0,.slice none 0 0,.int .i64 0,.int .i64 0,.slice none 0 0,.int .i64 0,.int .i64 0,.slice none 0 0,.bool false,.int .i64 0,.int .i64 0,.int .u64 0,.slice none 0 0,.bool false,.bool false,.int .u64 0,.bool false,.int .u64 0]
theorem cY (p:PtrM) (al:Option Addr) (cl:Nat) (plain:Bool) (pick:Int) (r:RunM):(aD p al cl plain pick r).all (·.oneCell')=true:=by
 simp [aD,Value.oneCell']
theorem eU (p:PtrM) (h:HartM):(aA p h).all (·.oneCell')=true:=by
 simp [aA,Value.oneCell']
theorem bf (p:PtrM) (al:Option Addr) (cl:Nat) (plain:Bool) (pick:Int) (r:RunM):(aD p al cl plain pick r).size=31:=rfl
theorem dX (p:PtrM) (h:HartM):(aA p h).size=21:=rfl
theorem aS:dk.size=31:=rfl
theorem eA:eu.size=21:=rfl
theorem cD:(Tryz.prog.info? 93).map (·.size)=some 31:=by kernel_rfl
theorem eV:(Tryz.prog.info? 59).map (·.size)=some 21:=by kernel_rfl
end Go.Proofs.YthekickjjaleaaaGreat

namespace Go.Proofs.YthekickjjaleaaaGreat
open Go.RowKit
set_option linter.unusedVariables false
set_option maxRecDepth 20000 in
set_option maxHeartbeats 800000 in
theorem gQ (p:PtrM) (al:Option Addr) (cl:Nat) (plain:Bool) (pick:Int) (r:RunM) (c t:Int) (w:World):
 Calls Tryz.prog 184 #[.agg (aD p al cl plain pick r),.int .i64 c,.int .u64 t] w fun e w'=>e=.returned (.agg (aD p al cl plain pick (co r c t)))∧Below w.heap.size w w':=by
 have hsz:=bf p al cl plain pick r;have h1:=cY p al cl plain pick r;have HE:Hid (((aD p al cl plain pick r).setIfInBounds 23 (.int .i64 c)).setIfInBounds 24 (.int .u64 t)=aD p al cl plain pick (co r c t)):=rfl;have g23:(aD p al cl plain pick r)[23]?=some (.int .i64 r.cause):=rfl;have g24:(aD p al cl plain pick r)[24]?=some (.int .u64 r.tval):=rfl;generalize aD p al cl plain pick r=C at *;generalize aD p al cl plain pick (co r c t)=D at *;have HO:Hid (C.all (·.oneCell')=true):=h1;clear h1;go_enter Tryz.func184,Tryz.ntmps184;go_upto_region 1 with fail;have F:=eJ w C dk 93 93;generalize (w.alloc (Obj.cells C 93)).alloc (Obj.cells dk 93)=v1 at F ⊢;obtain ⟨h3,h6,l1,n1⟩:=F;have H3:Hid _:=h3;have H6:Hid _:=h6;have b1:w.heap.size<v1.heap.size:=by omega
 have f23:=au h3 23;have f24:=au h3 24;have c23:=ag h3 23 g23;have c24:=ag h3 24 g24;clear h3 h6;have hz:=aS;have HL:Hid ((Instr.loadAt 93 (.pointer (some ⟨w.heap.size,0,none⟩))).run Tryz.prog ((v1.setCell ⟨w.heap.size,23,none⟩ (.int .i64 c)).setCell ⟨w.heap.size,24,none⟩ (.int .u64 t))=.ok (.agg ((C.setIfInBounds 23 (.int .i64 c)).setIfInBounds 24 (.int .u64 t))) ((v1.setCell ⟨w.heap.size,23,none⟩ (.int .i64 c)).setCell ⟨w.heap.size,24,none⟩ (.int .u64 t))):=aH (cd (cd H3.out 23 _) 24 _) Tryz.underlying93 rfl (by simp only [Array.size_setIfInBounds,hsz];exact cD);have HS:Hid _:=bu (P:=Tryz.prog) (T:=93) (V:=(C.setIfInBounds 23 (.int .i64 c)).setIfInBounds 24 (.int .u64 t)) (cQ (cQ H6.out 23 (.int .i64 c) (show w.heap.size+1≠w.heap.size by omega)) 24 (.int .u64 t) (show w.heap.size+1≠w.heap.size by omega)) (by simp only [Array.size_setIfInBounds,hsz];exact cD) (by simp only [Array.size_setIfInBounds,hsz,hz]) (jQ (jQ HO.out _ rfl) _ rfl);go_wp2_with (first
  | ((with_reducible refine aK ?_ HL.out ?_);(exact rfl))
  | ((with_reducible refine av ?_ ?_ HS.out ?_);(exact rfl);(exact rfl)))
 have hD:D.size=31:=by rw [←HE.out];simp only [Array.size_setIfInBounds,hsz]
 have e1:=a6 (V:=(C.setIfInBounds 23 (.int .i64 c)).setIfInBounds 24 (.int .u64 t)) (cQ (cQ H6.out 23 (.int .i64 c) (show w.heap.size+1≠w.heap.size by omega)) 24 (.int .u64 t) (show w.heap.size+1≠w.heap.size by omega)) (by rw [HE.out,hD,hz]);have e2:=aZ (show w.heap.size≤w.heap.size+1 by omega) ((C.setIfInBounds 23 (.int .i64 c)).setIfInBounds 24 (.int .u64 t)).toList 0 _ (cI (cI n1 (Nat.le_refl _) 23 (.int .i64 c)) (Nat.le_refl _) 24 (.int .u64 t));rw [HE.out] at e1 e2 ⊢;generalize ((v1.setCell ⟨w.heap.size,23,none⟩ (.int .i64 c)).setCell ⟨w.heap.size,24,none⟩ (.int .u64 t)).setCells (w.heap.size+1) 0 D.toList=v2 at e1 e2 ⊢;exact dc (b:=w.heap.size+1) Tryz.results184 rfl (ba (P:=Tryz.prog) e1 Tryz.underlying93 rfl (by rw [hD];exact cD)) rfl ⟨rfl,e2⟩
set_option maxRecDepth 20000 in
set_option maxHeartbeats 800000 in
theorem mt (p:PtrM) (h:HartM) (w:World):
 Calls Tryz.prog 132 #[.agg (aA p h)] w fun e w'=>e=.returned (dD h.mode h.sum h.mxr h.satp)∧Below w.heap.size w w':=by
 have hsz:=dX p h;have g3:(aA p h)[3]?=some (.int .i64 h.mode):=rfl;have g4:(aA p h)[4]?=some (.bool h.sum):=rfl;have g5:(aA p h)[5]?=some (.bool h.mxr):=rfl;have g6:(aA p h)[6]?=some (.int .u64 h.satp):=rfl;generalize aA p h=C at *;unfold dD;go_enter Tryz.func132,Tryz.ntmps132;go_upto_region 1 with fail;have F:=eJ w C #[.int .i64 0,.bool false,.bool false,.int .u64 0] 59 38;generalize (w.alloc (Obj.cells C 59)).alloc (Obj.cells #[.int .i64 0,.bool false,.bool false,.int .u64 0] 38)=v1 at F ⊢;obtain ⟨h3,h6,l1,n1⟩:=F;have c3:=ag h3 3 g3;have c4:=ag h3 4 g4;have c5:=ag h3 5 g5;have c6:=ag h3 6 g6;have k0:=ag h6 0 (v:=.int .i64 0) rfl;have k1:=ag h6 1 (v:=.bool false) rfl;have k2:=ag h6 2 (v:=.bool false) rfl;have k3:=ag h6 3 (v:=.int .u64 0) rfl;have f0:=au h6 0;have f1:=au h6 1;have f2:=au h6 2;have f3:=au h6 3;have ne1:w.heap.size≠w.heap.size+1:=by omega
 have ne2:w.heap.size+1≠w.heap.size:=by omega
 have b1:w.heap.size<v1.heap.size:=by omega
 have b2:w.heap.size+1<v1.heap.size:=by omega
 clear h3 h6;go_wp2_with fail;exact bodyPost_ret (v:=.agg #[.int .i64 h.mode,.bool h.sum,.bool h.mxr,.int .u64 h.satp]) (by simp [results,Tryz.results132,go_sem,k0,k1,k2,k3]) rfl ⟨rfl,cI (cI (cI (cI n1 (by omega) _ _) (by omega) _ _) (by omega) _ _) (by omega) _ _⟩
set_option maxHeartbeats 400000 in
theorem ly (satp:Int) (w:World) (h0:0≤satp) (h1:satp≤18446744073709551615):
 Calls Tryz.prog 99 #[.int .u64 satp] w fun e w'=>e=.returned (.bool (dO satp))∧Below w.heap.size w w':=by
 have HS:Hid (dO satp=(satp/1152921504606846976%16 == 0 || satp/1152921504606846976%16 == 8)):=rfl;have HB:Hid (∀u,Calls Tryz.prog 83 #[.int .u64 satp,.int .i64 60,.int .i64 63] u fun e w'=>e=.returned (.int .u64 (satp/1152921504606846976%16))∧∃n,w'=u.drewN n):=fun u=>bB satp 60 63 _ _ u h0 h1 (by omega) (by omega) (by omega) (by omega) (by decide) (by decide);generalize dO satp=q at *;generalize satp/1152921504606846976%16=x at *;by_cases hx:x=0
 ·subst hx;have hq:q=true:=by rw [HS.out];rfl
  subst hq;go_enter Tryz.func99,Tryz.ntmps99;go_wp2_with fail;refine (HB.out w).mono ?_;rintro e v1 ⟨rfl,n,rfl⟩;go_wp2_with fail;go_ret;exact ⟨rfl,below_drewN (Below.refl _ _) n⟩
 ·have hx':(x == 0)=false:=by simpa using hx
  go_enter Tryz.func99,Tryz.ntmps99;go_wp2_with fail;refine (HB.out w).mono ?_;rintro e v1 ⟨rfl,n,rfl⟩;go_wp2_with fail;refine (HB.out _).mono ?_;rintro e v2 ⟨rfl,m,rfl⟩;go_wp2_with fail;go_ret;exact ⟨aF (by rw [HS.out,hx'];simp),below_drewN (Below.refl _ _) (n+m)⟩
set_option maxHeartbeats 400000 in
theorem lA (a:Option Addr) (len cap:Nat) (zs:List Int) (i:Nat) (w:World) (h:Byt w a len zs) (hl:len≤1048576) (hi:i≤9223372036854775807):
 Calls Tryz.prog 97 #[.slice a len cap,.int .i64 i] w fun e w'=>e=.returned (.int .i64 (atM zs i))∧w'=w:=by
 obtain ⟨h1,h2,h3⟩:=h;by_cases hlt:i<len
 ·rcases h3 with h3 | ⟨b,off,rfl,hbw,hc⟩
  ·omega
  have g1:=hc i hlt;have g2:=h2 i;have HA:Hid (zs[i]?.getD 0=atM zs i):=rfl;generalize zs[i]?.getD 0=x at g1 g2 HA;clear hc h2;go_enter Tryz.func97,Tryz.ntmps97;go_wp2_with fail;go_ret;exact ⟨bO HA.out,rfl⟩
 ·have HA:Hid (atM zs i=0):=by
   show zs[i]?.getD 0=0;rw [List.getElem?_eq_none (by omega)];rfl
  clear h2 h3;go_enter Tryz.func97,Tryz.ntmps97;go_wp2_with fail;go_ret;exact ⟨bO HA.out.symm,rfl⟩
end Go.Proofs.YthekickjjaleaaaGreat

namespace Go.Proofs.YthekickjjaleaaaGreat
open Go.RowKit
set_option linter.unusedVariables false
theorem Tryz.infoU:(Tryz.prog.info? 29).map (fun i=>(i.zero,i.size,i.bytes))=some (some (.int .u64 0),1,8):=by kernel_rfl
theorem lV (zs:List Int):∀u∈ex zs,u.oneCell'=true:=by
 intro u hu;obtain ⟨_,_,rfl⟩:=List.mem_map.1 hu;rfl
theorem ui (zs:List Int) (i:Nat) (x:Int):(ex zs).set i (.int .u64 x)=ex (zs.set i x):=by simp [ex,List.map_set]
theorem rG (zs:List Int) (i:Nat) (h:i<zs.length):(ex zs)[i]?=some (.int .u64 (zs[i]?.getD 0)):=by
 simp [ex,h]
def rH (p:PtrM) (g cap:Nat):PtrM:=⟨p.am,p.cm,some ⟨g,0,none⟩,cap,p.a1,p.c1,p.a2,p.c2,p.a3,p.c3⟩
theorem RunIn.reg {w w':World} {p:PtrM} {al:Option Addr} {cl:Nat} {r:RunM} {rs:List Int} {g cap:Nat} (k:RunIn w p al cl r) (hb:Below w.heap.size w w') (hr:RowC w' (some ⟨g,0,none⟩) rs.length 1 (ex rs)) (hc:rs.length≤cap∧cap≤9223372036854775807) (hlt:g<w'.heap.size):
 RunIn w' (rH p g cap) al cl (bM r (fO r.h rs)):=
 ⟨⟨k.h.mem.keep hb,k.h.memc,hr,hc,⟨fun h=>(by cases h),fun q hq=>by cases hq;rfl⟩,k.h.ks.keep hb,fun q hq=>by
  simp only [aN,rH,List.mem_cons,List.not_mem_nil,or_false] at hq;have hl:=fun q hq=>Nat.lt_of_lt_of_le (k.h.low q hq) hb.size;rcases hq with hq | hq | hq | hq | hq
  ·exact hl q (by simp [aN,hq])
  ·cases hq;exact hlt
  ·exact hl q (by simp [aN,hq])
  ·exact hl q (by simp [aN,hq])
  ·exact hl q (by simp [aN,hq])⟩,k.looks.keep hb,k.lookc,k.looka,k.lookl,fun q hq=>Nat.lt_of_lt_of_le (k.low q hq) hb.size⟩
theorem p4 {B g cap:Nat} {p:PtrM} (h:B≤g):From B p (rH p g cap):=fun q hq=>by
 simp only [aN,rH,List.mem_cons,List.not_mem_nil,or_false] at hq;rcases hq with hq | hq | hq | hq | hq
 ·exact .inl (by simp [aN,hq])
 ·cases hq;exact .inr h
 ·exact .inl (by simp [aN,hq])
 ·exact .inl (by simp [aN,hq])
 ·exact .inl (by simp [aN,hq])
set_option maxRecDepth 20000 in
set_option maxHeartbeats 1600000 in
theorem fW (p:PtrM) (al:Option Addr) (cl:Nat) (plain:Bool) (pick:Int) (r:RunM) (a x:Int) (w:World) (hr:RunIn w p al cl r) (ha:0≤a) (ha':a.toNat<r.h.regs.length) (hl:r.h.regs.length≤1048576):
 Calls Tryz.prog 221 #[.agg (aD p al cl plain pick r),.int .i64 a,.int .u64 x] w fun e w'=>(∃p',e=.returned (.agg (aD p' al cl plain pick (bZ r a x)))∧RunIn w' p' al cl (bZ r a x)∧From w.heap.size p p')∧Below w.heap.size w w':=by
 obtain ⟨n,rfl⟩:=Int.eq_ofNat_of_zero_le ha;have HI:Hid (RunIn w p al cl r):=hr;have HA:Hid (n<r.h.regs.length):=ha';have HR:Hid (RowC w p.ar r.h.regs.length 1 (ex r.h.regs)):=hr.h.regs;have HRa:Hid ((p.ar=none→r.h.regs.length=0∧p.cr=0)∧∀q,p.ar=some q→q.spot=none):=hr.h.rega;have HP:Hid (∀g cap rs,rs.length=r.h.regs.length→(aD p al cl plain pick r).setIfInBounds 1 (.slice (some ⟨g,0,none⟩) r.h.regs.length cap)=aD (rH p g cap) al cl plain pick (bM r (fO r.h rs))):=fun g cap rs hl=>by
  unfold aD rH bM fO;simp [hl]
 have HM:Hid (bZ r (n:Int) x=bM r (fO r.h (if 0<(n:Int) then r.h.regs.set n x else r.h.regs))):=rfl;have hsz:=bf p al cl plain pick r;have g1:(aD p al cl plain pick r)[1]?=some (.slice p.ar r.h.regs.length p.cr):=rfl;have HO:Hid ((aD p al cl plain pick r).all (·.oneCell')=true):=cY p al cl plain pick r;generalize hC:aD p al cl plain pick r=C at *;have hlen:=hl;generalize hN:r.h.regs.length=N at *;have hn:n<N:=HA.out;clear hr hC ha ha';go_enter Tryz.func221,Tryz.ntmps221;go_upto_region 1 with fail;have F:=eJ w C dk 93 93;generalize (w.alloc (Obj.cells C 93)).alloc (Obj.cells dk 93)=v1 at F ⊢;obtain ⟨h3,h6,l1,n1⟩:=F;have H3:Hid _:=h3;have H6:Hid _:=h6;have b1:w.heap.size<v1.heap.size:=by omega
 have b2:w.heap.size+1<v1.heap.size:=by omega
 have c1:=ag h3 1 g1;have OE:=OwnC.new 29 1 v1 [] 0 rfl (by decide);have nE:=(Below.refl v1.heap.size v1).alloc (Nat.le_refl _) (Obj.cells #[] 29);clear h3 h6 l1;go_upto_region 2 with (at_builtin;refine gj _ rfl (.tmp 8) (.tmp 11) 28 rfl 29 Tryz.underlying28 (.int .u64 0) 1 8 Tryz.infoU rfl (by decide) v1.heap.size v1.heap.size 0 0 [] rfl OE p.ar N p.cr (ex r.h.regs) rfl HRa.out.1 HRa.out.2 (RowC.keep (RowC.keep HR.out n1) nE) (lV _) (by omega) (by omega) v1.heap.size v1 nE (Nat.le_refl _) ?_;intro g2 cap2 v2 o2 n2;clear OE nE c1);simp only [Nat.zero_add,List.nil_append] at o2 ⊢;have f2:=o2.facts;have K3:Hid _:=ab H3.out n2 b1;have K6:Hid _:=ab H6.out n2 b2;have n12:=Below.step n1 n2 (Nat.le_refl _);have z2:=n2.size;have hcap:(cap2:Int)≤9223372036854775807:=by have:=f2.2.2.2.2;unfold maxLen at this;omega
 have HM2:Hid (cap2≤9223372036854775807):=by have:=f2.2.2.2.2;unfold maxLen at this;exact this
 have hNc:N≤cap2:=f2.2.2.2.1;have hg1:v1.heap.size≤g2:=f2.2.1;have hg2:g2<v2.heap.size:=f2.2.2.1;clear f2 H3 H6 n1 n2 HR HRa;have b5:w.heap.size<v2.heap.size:=by omega
 have q1:=ag K3.out 1 g1;have q2:=au K3.out 1;have ng:w.heap.size≠g2:=by omega
 have ng':g2≠w.heap.size:=by omega
 by_cases h0:0<n
 ·have h0':(0:Int)<(n:Int):=by omega
  have HM1:Hid (bZ r (n:Int) x=bM r (fO r.h (r.h.regs.set n x))):=by
   have hm:=HM.out;rw [if_pos h0'] at hm;exact hm
  have s1:=aB o2 n _ (rG r.h.regs n (by omega));have s2:=aJ o2 n;have O3:Hid (OwnC 29 1 (v2.setCell ⟨g2,n,none⟩ (.int .u64 x)) v1.heap.size g2 N cap2 (ex (r.h.regs.set n x))):=by
   have:=aC o2 n (.int .u64 x);rw [ui] at this;exact this
  have K3':Hid _:=cQ K3.out n (.int .u64 x) (show w.heap.size≠g2 by omega);have K6':Hid _:=cQ K6.out n (.int .u64 x) (show w.heap.size+1≠g2 by omega);have n3:=cI n12 (show w.heap.size≤g2 by omega) n (.int .u64 x);go_upto_region 4 with fail;generalize v2.setCell ⟨g2,n,none⟩ (.int .u64 x)=v3 at O3 K3' K6' n3 ⊢;clear q1 q2 s1 s2;have q1:=ag K3'.out 1 g1;have q2:=au K3'.out 1;have b6:w.heap.size<v3.heap.size:=(Array.getElem?_eq_some_iff.1 K3'.out).1;go_upto_region 5 with fail;have K3q:Hid _:=cd K3'.out 1 (.slice (some ⟨g2,0,none⟩) N cap2);have K6q:Hid _:=cQ K6'.out 1 (.slice (some ⟨g2,0,none⟩) N cap2) (show w.heap.size+1≠w.heap.size by omega);have n4:=cI n3 (Nat.le_refl _) 1 (.slice (some ⟨g2,0,none⟩) N cap2);have O4:Hid _:=OwnC.gb O3.out (aq (az v3 (some w.heap.size)) 1 (.slice (some ⟨g2,0,none⟩) N cap2)) ng';have HV:Hid _:=HP.out g2 cap2 (r.h.regs.set n x) (by simp [hN]);have hV:(C.setIfInBounds 1 (.slice (some ⟨g2,0,none⟩) N cap2)).size=31:=by simp only [Array.size_setIfInBounds,hsz]
  generalize v3.setCell ⟨w.heap.size,1,none⟩ (.slice (some ⟨g2,0,none⟩) N cap2)=v4 at K3q K6q n4 O4 ⊢;have hone:=jQ HO.out 1 (v:=.slice (some ⟨g2,0,none⟩) N cap2) rfl;generalize C.setIfInBounds 1 (.slice (some ⟨g2,0,none⟩) N cap2)=D at K3q HV hV hone;have HLr:Hid _:=aH (P:=Tryz.prog) (T:=93) K3q.out Tryz.underlying93 rfl (by rw [hV];exact cD);have HSr:Hid _:=bu (P:=Tryz.prog) (T:=93) (V:=D) K6q.out (by rw [hV];exact cD) (by rw [hV,aS]) hone;have e1:=a6 (V:=D) K6q.out (by rw [hV,aS]);have e2:=aZ (show w.heap.size≤w.heap.size+1 by omega) (D).toList 0 _ n4;have eG:=aM (w.heap.size+1) (D).toList 0 v4 v4 (az v4 _);go_wp2_with (first
   | ((with_reducible refine aK ?_ HLr.out ?_);(exact rfl))
   | ((with_reducible refine av ?_ ?_ HSr.out ?_);(exact rfl);(exact rfl)))
  refine dc (b:=w.heap.size+1) Tryz.results221 rfl (ba (P:=Tryz.prog) e1 Tryz.underlying93 rfl (by rw [hV];exact cD)) rfl ?_;rw [HM1.out];exact ⟨⟨rH p g2 cap2,by rw [HV.out],RunIn.reg (rs:=r.h.regs.set n x) HI.out e2 (by rw [List.length_set,hN];exact (OwnC.gb O4.out eG (by omega)).row) (by rw [List.length_set,hN];exact ⟨hNc,HM2.out⟩) (OwnC.facts (OwnC.gb O4.out eG (show g2≠w.heap.size+1 by omega))).2.2.1,p4 (by omega)⟩,e2⟩
 ·have h0':¬(0:Int)<(n:Int):=by omega
  have hn0:n=0:=by omega
  have HM1:Hid (bZ r (n:Int) x=bM r (fO r.h r.h.regs)):=by
   have hm:=HM.out;rw [if_neg h0'] at hm;exact hm
  clear hn0;have O2:Hid _:=o2;clear o2;go_upto_region 5 with fail;have K3q:Hid _:=cd K3.out 1 (.slice (some ⟨g2,0,none⟩) N cap2);have K6q:Hid _:=cQ K6.out 1 (.slice (some ⟨g2,0,none⟩) N cap2) (show w.heap.size+1≠w.heap.size by omega);have n4:=cI n12 (Nat.le_refl _) 1 (.slice (some ⟨g2,0,none⟩) N cap2);have O4:Hid _:=OwnC.gb O2.out (aq (az v2 (some w.heap.size)) 1 (.slice (some ⟨g2,0,none⟩) N cap2)) ng';have HV:Hid _:=HP.out g2 cap2 r.h.regs hN;have hV:(C.setIfInBounds 1 (.slice (some ⟨g2,0,none⟩) N cap2)).size=31:=by simp only [Array.size_setIfInBounds,hsz]
  generalize v2.setCell ⟨w.heap.size,1,none⟩ (.slice (some ⟨g2,0,none⟩) N cap2)=v4 at K3q K6q n4 O4 ⊢;have hone:=jQ HO.out 1 (v:=.slice (some ⟨g2,0,none⟩) N cap2) rfl;generalize C.setIfInBounds 1 (.slice (some ⟨g2,0,none⟩) N cap2)=D at K3q HV hV hone;have HLr:Hid _:=aH (P:=Tryz.prog) (T:=93) K3q.out Tryz.underlying93 rfl (by rw [hV];exact cD);have HSr:Hid _:=bu (P:=Tryz.prog) (T:=93) (V:=D) K6q.out (by rw [hV];exact cD) (by rw [hV,aS]) hone;have e1:=a6 (V:=D) K6q.out (by rw [hV,aS]);have e2:=aZ (show w.heap.size≤w.heap.size+1 by omega) (D).toList 0 _ n4;have eG:=aM (w.heap.size+1) (D).toList 0 v4 v4 (az v4 _);go_wp2_with (first
   | ((with_reducible refine aK ?_ HLr.out ?_);(exact rfl))
   | ((with_reducible refine av ?_ ?_ HSr.out ?_);(exact rfl);(exact rfl)))
  refine dc (b:=w.heap.size+1) Tryz.results221 rfl (ba (P:=Tryz.prog) e1 Tryz.underlying93 rfl (by rw [hV];exact cD)) rfl ?_;rw [HM1.out];exact ⟨⟨rH p g2 cap2,by rw [HV.out],RunIn.reg (rs:=r.h.regs) HI.out e2 (by rw [hN];exact (OwnC.gb O4.out eG (by omega)).row) (by rw [hN];exact ⟨hNc,HM2.out⟩) (OwnC.facts (OwnC.gb O4.out eG (show g2≠w.heap.size+1 by omega))).2.2.1,p4 (by omega)⟩,e2⟩
end Go.Proofs.YthekickjjaleaaaGreat
