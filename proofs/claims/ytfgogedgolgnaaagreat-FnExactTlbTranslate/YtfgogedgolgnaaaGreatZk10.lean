import Derived.StillTail
import Derived.Test.YtfgogedgolgnaaaGreatZk03
namespace Go.Proofs.YtfgogedgolgnaaaGreat
open Go.RowKit
set_option linter.unusedVariables false
set_option maxHeartbeats 6400000
set_option maxRecDepth 20000
section
variable {P:Program} {ops:Array Oper}
def bE (ops:Array Oper) (j:Nat):Option Tmp:=(ops[j]?).bind (·.dst)
def gx (ops:Array Oper):Bool:=
 (List.range ops.size).all fun i=>match ops[i]? with
  | none=>true
  | some o=>o.after.all fun e=>!Region.binds .any e || decide (e.on<i)
theorem jF (h:gx ops=true) {i:Nat} {o:Oper} (ho:ops[i]?=some o) {e:Edge} (he:e∈o.after) (hb:Region.binds .any e=true):e.on<i:=by
 have h1:=List.all_eq_true.1 h i (List.mem_range.2 (Array.getElem?_eq_some_iff.1 ho).1);simp only [ho] at h1;have h2:=Array.all_eq_true_iff_forall_mem.1 h1 e he;simpa [hb] using h2
def gy (ops:Array Oper) (ws:List Nat) (z s:Nat):Bool:=
 Region.noSelect ops && gx ops && (decide (z<ops.size) && (List.range ops.size).all (fun k=>decide (k<z) || decide (ops.size<=k+1) || Region.waitsFor .any ops (k+1) k)) && (List.range z).all fun i=>match ops[i]? with
  | none=>false
  | some o=>(match o.dst with | some d=>decide (d<s) | none=>false) &&
   (!ws.contains i || o.guard.isNone) &&
   ((List.range z).all fun j=>match bE ops j with
    | none=>false
    | some d=>(j == i || o.dst != some d) && (!(o.looksAt ops).contains d || (decide (j<i) && Region.waitsFor .any ops i j && (ws.contains i || !ws.contains j)))) &&
   ((List.range (z+1)).any fun j=>decide (i<j) && Region.waitsFor .any ops j i)
structure Head (ops:Array Oper) (ws:List Nat) (z s i:Nat) (o:Oper) (d:Tmp):Prop where
 op:ops[i]?=some o
 dst:o.dst=some d
 lt:d<s
 guard:i∈ws->o.guard=none
 apart:∀j,j<z->j≠i->bE ops j≠some d
 looks:∀j t,j<z->bE ops j=some t->t∈o.looksAt ops->j<i∧Region.waitsFor .any ops i j=true∧(i∈ws∨j∉ws)
 sink:∃j,i<j∧j<z+1∧Region.waitsFor .any ops j i=true
structure Heads (ops:Array Oper) (ws:List Nat) (z s:Nat):Prop where
 sel:Region.noSelect ops=true
 edges:gx ops=true
 size:z<ops.size
 chain:∀k,z<=k->k+1<ops.size->Region.waitsFor .any ops (k+1) k=true
 head:∀i,i<z->∃o d,Head ops ws z s i o d
theorem ke {ws:List Nat} {z s:Nat} (h:gy ops ws z s=true):Heads ops ws z s:=by
 simp only [gy,Bool.and_eq_true,decide_eq_true_eq] at h;refine ⟨h.1.1.1,h.1.1.2,h.1.2.1,fun k hk hk'=>?_,fun i hi=>?_⟩
 ·have:=List.all_eq_true.1 h.1.2.2 k (List.mem_range.2 (by omega));simp only [Bool.or_eq_true,decide_eq_true_eq] at this;rcases this with (h | h) | h
  ·omega
  ·omega
  ·exact h
 have h2:=List.all_eq_true.1 h.2 i (List.mem_range.2 hi);cases ho:ops[i]? with
 | none=>simp [ho] at h2
 | some o=>
  simp only [ho,Bool.and_eq_true] at h2;obtain ⟨⟨⟨hd,hg⟩,hj⟩,hs⟩:=h2;cases hdd:o.dst with
  | none=>simp [hdd] at hd
  | some d=>
   simp only [hdd,decide_eq_true_eq] at hd;have hj2:=fun j (hjn:j<z)=>List.all_eq_true.1 hj j (List.mem_range.2 hjn);refine ⟨o,d,ho,hdd,hd,fun hw=>?_,fun j hjn hne he=>?_,fun j t hjn ht hl=>?_,?_⟩
   ·simpa [hw] using hg
   ·have:=hj2 j hjn;simp [he,hdd,hne] at this
   ·have:=hj2 j hjn;simp only [ht,Bool.and_eq_true,Bool.or_eq_true,Bool.not_eq_true',List.contains_eq_mem,decide_eq_false_iff_not,decide_eq_true_eq] at this;rcases this.2 with hc | hc
    ·exact absurd hl hc
    ·exact ⟨hc.1.1,hc.1.2,hc.2⟩
   ·obtain ⟨j,hj,hh⟩:=List.any_eq_true.1 hs;simp only [Bool.and_eq_true,decide_eq_true_eq] at hh;exact ⟨j,hh.1,List.mem_range.1 hj,hh.2⟩
structure Fr (ops:Array Oper) (ws:List Nat) (z:Nat) (a A:Act) (S:Nat->Prop) (p:Nat->Value) (b:Act):Prop where
 defers:b.defers=a.defers
 size:b.tmps.size=a.tmps.size
 old:∀d:Nat,(∀j,j<z->S j->bE ops j≠some d)->b.tmps[d]?=a.tmps[d]?
 new:∀(d:Nat) j,j<z->S j->j∉ws->bE ops j=some d->b.tmps[d]?=A.tmps[d]?
 wild:∀(d:Nat) j,j<z->S j->j∈ws->bE ops j=some d->b.tmps[d]?=some (p j)
theorem iR {b:Act} {d:Nat} {x:Value} (h:d<b.tmps.size):(b.put (some d) x).tmps[d]?=some x:=by
 simp [Act.put,h]
theorem ep {b:Act} {e:Option Tmp} {d:Nat} {x:Value} (h:e≠some d):(b.put e x).tmps[d]?=b.tmps[d]?:=by
 cases e with
 | none=>rfl
 | some e=>simp [Act.put,Array.getElem?_setIfInBounds_ne (show e≠d from fun he=>h (he ▸ rfl))]
theorem Head.is {ws:List Nat} {z s i:Nat} {o:Oper} {d:Tmp} (h:Head ops ws z s i o d):bE ops i=some d:=by
 rw [bE,h.op];exact h.dst
theorem Fr.put {ws:List Nat} {z s i d:Nat} {a A b:Act} {S S':Nat->Prop} {p p':Nat->Value} {o:Oper} {x:Value} (h:Fr ops ws z a A S p b) (hh:Head ops ws z s i o d) (hs:a.tmps.size=s) (hx:i∉ws->A.tmps[d]?=some x) (hp:i∈ws->p' i=x) (hp':∀j,j≠i->p' j=p j)
 (hS:∀j,j<z->(S' j↔S j∨j=i)) (hi:i<z):Fr ops ws z a A S' p' (b.put (some d) x):=by
 have one:∀e j,j<z->S' j->bE ops j=some e->(d=e∧j=i)∨(d≠e∧S j∧j≠i):=fun e j hj hSj hd=>by
  by_cases hji:j=i
  ·subst hji;exact .inl ⟨Option.some.inj (hh.is.symm.trans hd),rfl⟩
  ·refine .inr ⟨fun hde=>hh.apart j hj hji (by rw [hd,hde]),((hS j hj).1 hSj).resolve_right hji,hji⟩
 refine ⟨h.defers,by simp [Act.put,h.size],fun e he=>?_,fun e j hj hSj hw hd=>?_,fun e j hj hSj hw hd=>?_⟩
 ·have hne:d≠e:=fun hde=>he i hi ((hS i hi).2 (.inr rfl)) (by rw [hh.is,hde]);rw [ep (by simpa using hne)];exact h.old e fun j hj hj2=>he j hj ((hS j hj).2 (.inl hj2))
 ·rcases one e j hj hSj hd with ⟨rfl,rfl⟩ | ⟨h1,h2,h3⟩
  ·rw [iR (by rw [h.size,hs];exact hh.lt),hx hw]
  ·rw [ep (by simpa using h1)];exact h.new e j hj h2 hw hd
 ·rcases one e j hj hSj hd with ⟨rfl,rfl⟩ | ⟨h1,h2,h3⟩
  ·rw [iR (by rw [h.size,hs];exact hh.lt),hp hw]
  ·rw [ep (by simpa using h1),hp' j h3];exact h.wild e j hj h2 hw hd
theorem eI {C:World->Prop} {A:Act} {d:Nat}:∀(l:List Oper) (b:Act),(∀o∈l,o.dst≠some d)->wpQuiet P ops C (fun a'=>a'=A) l b->b.tmps[d]?=A.tmps[d]?
 | [],b,_,h=>by rw [show b=A from h]
 | o::l,b,hl,h=>by
  unfold wpQuiet at h;split at h
  ·obtain ⟨v,_,h2⟩:=h;rw [<-eI l _ (fun o' ho'=>hl o' (List.mem_cons_of_mem _ ho')) h2,ep (hl o (List.mem_cons_self ..))]
  ·rw [<-eI l _ (fun o' ho'=>hl o' (List.mem_cons_of_mem _ ho')) h,ep (hl o (List.mem_cons_self ..))]
def cu (ops:Array Oper) (ws:List Nat):Nat->Nat->List Oper
 | 0,_=>[]
 | f+1,k=>if ws.contains k then cu ops ws f (k+1) else (ops[k]?).toList++cu ops ws f (k+1)
theorem eJ {ws:List Nat} {o:Oper}:∀(f k:Nat),o∈cu ops ws f k->∃j,k<=j∧j<k+f∧ops[j]?=some o
 | 0,k,h=>by cases h
 | f+1,k,h=>by
  unfold cu at h;split at h
  ·obtain ⟨j,h1,h2,h3⟩:=eJ f (k+1) h;exact ⟨j,by omega,by omega,h3⟩
  ·rcases List.mem_append.1 h with h | h
   ·exact ⟨k,Nat.le_refl _,by omega,by simpa using h⟩
   ·obtain ⟨j,h1,h2,h3⟩:=eJ f (k+1) h;exact ⟨j,by omega,by omega,h3⟩
theorem ft {ws:List Nat} {z s:Nat} {v:World} {a A:Act} {p:Nat->Value} (hH:Heads ops ws z s) (hs:a.tmps.size=s):∀(f k:Nat) (b:Act),k+f=z->
 Fr ops ws z a A (fun j=>j<k∧j∉ws) p b->(∀w0,Below v.heap.size v w0->wpQuiet P ops (fun w'=>∃u:Lies w0,w'=u.w) (fun a'=>a'=A) (cu ops ws f k) b)->
 Fr ops ws z a A (fun j=>j<z∧j∉ws) p A∧∀i,k<=i->i<z->i∉ws->∃o d x b',Head ops ws z s i o d∧A.tmps[d]?=some x∧Fr ops ws z a A (fun j=>j<i∧j∉ws) p b'∧∀w0,Below v.heap.size v w0->YieldsIn P ops (fun w'=>∃u:Lies w0,w'=u.w) o x b'
 | 0,k,b,hk,hF,h=>by
  have hk':k=z:=by simpa using hk
  have hb:b=A:=h v (Below.refl _ _);subst hk';subst hb;exact ⟨hF,fun i h1 h2=>by omega⟩
 | f+1,k,b,hk,hF,h=>by
  by_cases hkw:k∈ws
  ·have hF':Fr ops ws z a A (fun j=>j<k+1∧j∉ws) p b:=by
    have e:(fun j=>j<k+1∧j∉ws)=(fun j=>j<k∧j∉ws):=by
     funext j;apply propext;constructor
     ·rintro ⟨h1,h2⟩;exact ⟨by rcases Nat.lt_or_ge j k with h | h;exact h;exact absurd (by rw [show j=k by omega];exact hkw) h2,h2⟩
     ·rintro ⟨h1,h2⟩;exact ⟨by omega,h2⟩
    rw [e];exact hF
   have hrec:=ft hH hs f (k+1) b (by omega) hF' (fun w0 hw0=>by
    have:=h w0 hw0;rw [cu,if_pos (by simpa using hkw)] at this;exact this)
   refine ⟨hrec.1,fun i h1 h2 h3=>?_⟩;by_cases hik:i=k
   ·subst hik;exact absurd hkw h3
   ·exact hrec.2 i (by omega) h2 h3
  ·obtain ⟨o',d,hd⟩:=hH.head k (by omega);have hlt:d<b.tmps.size:=by rw [hF.size,hs];exact hd.lt
   have hno:∀o∈cu ops ws f (k+1),o.dst≠some d:=fun o2 ho2 he=>by
    obtain ⟨j,h1,h2,h3⟩:=eJ f (k+1) ho2;exact hd.apart j (by omega) (by omega) (by rw [bE,h3];exact he)
   have one:∀w0,Below v.heap.size v w0->∃x,A.tmps[d]?=some x∧YieldsIn P ops (fun w'=>∃u:Lies w0,w'=u.w) o' x b∧wpQuiet P ops (fun w'=>∃u:Lies w0,w'=u.w) (fun a'=>a'=A) (cu ops ws f (k+1)) (b.put (some d) x):=fun w0 hw0=>by
    have h1:=h w0 hw0;rw [cu,if_neg (by simpa using hkw),hd.op] at h1;have hq:qOp P ops (fun w'=>∃u:Lies w0,w'=u.w) k (wpQuiet P ops (fun w'=>∃u:Lies w0,w'=u.w) (fun a'=>a'=A) (cu ops ws f (k+1))) b:=by unfold qOp;simp only [hd.op];exact h1
    obtain ⟨x,hy,hK⟩:=yieldsIn_of_qOp hd.op hq;rw [hd.dst] at hK;exact ⟨x,by rw [<-eI _ _ hno hK,iR hlt],hy,hK⟩
   obtain ⟨x,hx,_,_⟩:=one v (Below.refl _ _);have all:∀w0,Below v.heap.size v w0->YieldsIn P ops (fun w'=>∃u:Lies w0,w'=u.w) o' x b∧wpQuiet P ops (fun w'=>∃u:Lies w0,w'=u.w) (fun a'=>a'=A) (cu ops ws f (k+1)) (b.put (some d) x):=fun w0 hw0=>by
    obtain ⟨x',hx',h1,h2⟩:=one w0 hw0;have:x'=x:=Option.some.inj (hx'.symm.trans hx);subst this;exact ⟨h1,h2⟩
   have hF':Fr ops ws z a A (fun j=>j<k+1∧j∉ws) p (b.put (some d) x):=hF.put hd hs (fun _=>hx) (fun h=>absurd h hkw) (fun _ _=>rfl) (fun j _=>by
    constructor
    ·rintro ⟨h1,h2⟩;by_cases hjk:j=k
     ·exact .inr hjk
     ·exact .inl ⟨by omega,h2⟩
    ·rintro (⟨h1,h2⟩ | rfl)
     ·exact ⟨by omega,h2⟩
     ·exact ⟨by omega,hkw⟩) (by omega)
   have hrec:=ft hH hs f (k+1) (b.put (some d) x) (by omega) hF' (fun w0 hw0=>(all w0 hw0).2);refine ⟨hrec.1,fun i h1 h2 h3=>?_⟩;by_cases hik:i=k
   ·subst hik;exact ⟨o',d,x,b,hd,hx,hF,fun w0 hw0=>(all w0 hw0).1⟩
   ·exact hrec.2 i (by omega) h2 h3
theorem ij {b b':Act} {o:Oper} (slot:∀t:Nat,t∈o.looksAt ops->b.tmps[t]?=b'.tmps[t]?) (hs1:∀cs q,o.op≠.select cs q):execOp b.eval o=execOp b'.eval o:=by
 refine execOp_congr o hs1 fun y hy=>?_;cases y with
 | tmp t=>
  have:=slot t (List.mem_append_left _ (List.mem_filterMap.2 ⟨.tmp t,by simpa using hy,rfl⟩));simp only [Act.eval,Array.getD_eq_getD_getElem?];rw [this]
 | _=>rfl
theorem jG {b b':Act} {o:Oper} (slot:∀t:Nat,t∈o.looksAt ops->b.tmps[t]?=b'.tmps[t]?):Region.wanted o (yielded ops b.tmps)=Region.wanted o (yielded ops b'.tmps):=by
 unfold Region.wanted;cases hg:o.guard with
 | none=>rfl
 | some gw=>
  obtain ⟨g,want⟩:=gw;have:yielded ops b.tmps g=yielded ops b'.tmps g:=by
   unfold yielded;cases ht:(ops[g]?).bind (·.dst) with
   | none=>rfl
   | some t=>
    have:=slot t (by simp [Oper.looksAt,hg,ht]);simp only [Option.bind_some];rw [this]
  simp only [this]
def Closed (ops:Array Oper) (listed:Array Bool):Prop:=∀j oj,ops[j]?=some oj->listed.getD j false=true->∀e∈oj.after,Region.binds .any e=true->listed.getD e.on false=true
theorem Closed.set {listed:Array Bool} {i:Nat} (h:Closed ops listed) (hi:i∈Region.ready .any ops listed):Closed ops (listed.setIfInBounds i true):=by
 obtain ⟨_,oi,hoi,hall⟩:=mem_ready.1 hi;intro j oj hj hl e he hb;by_cases hij:i=j
 ·subst hij;have:oj=oi:=Option.some.inj (hj.symm.trans hoi);subst this;exact getD_set_true (hall e he hb)
 ·rw [getD_set_ne false hij] at hl;exact getD_set_true (h j oj hj hl e he hb)
theorem cr {listed:Array Bool} {i j:Nat} (hi:i∈Region.ready .any ops listed) (hw:Region.waitsFor .any ops i j=true):listed.getD j false=true:=by
 obtain ⟨_,oi,hoi,hall⟩:=mem_ready.1 hi;obtain ⟨o,ho,e,he,hb,hon⟩:=Region.waitsFor_spec hw;have:o=oi:=Option.some.inj (ho.symm.trans hoi);subst this;rw [<-hon];exact hall e he hb
theorem iS {listed:Array Bool} {i j:Nat} (hc:Closed ops listed) (hi:listed.getD i false=true) (hw:Region.waitsFor .any ops i j=true):listed.getD j false=true:=by
 obtain ⟨o,ho,e,he,hb,hon⟩:=Region.waitsFor_spec hw;rw [<-hon];exact hc i o ho hi e he hb
theorem iT {ws:List Nat} {z s:Nat} {listed:Array Bool} (hH:Heads ops ws z s) (hc:Closed ops listed) (hz:z∈Region.ready .any ops listed):∀(k i:Nat),z-i=k->i<z->listed.getD i false=true:=by
 intro k
 induction k using Nat.strongRecOn with
 | _ k ih=>
  intro i hk hi;obtain ⟨o,d,hd⟩:=hH.head i hi;obtain ⟨j,h1,h2,h4⟩:=hd.sink;by_cases hjn:j<z
  ·exact iS hc (ih (z-j) (by omega) j rfl hjn) h4
  ·have h:j=z:=by omega
   subst h;exact cr hz h4
theorem gz (hE:gx ops=true) {listed:Array Bool} {i:Nat} (hi:i<ops.size) (hl:listed.getD i true=false) (hs:listed.size=ops.size):Region.ready .any ops listed≠[]:=by
 have main:∀(k i:Nat),i=k->i<ops.size->listed.getD i true=false->∃j,j∈Region.ready .any ops listed:=by
  intro k
  induction k using Nat.strongRecOn with
  | _ k ih=>
   intro i hik hi hl;by_cases hall:∀e∈(ops[i]'hi).after,Region.binds .any e=true->listed.getD e.on false=true
   ·exact ⟨i,mem_ready.2 ⟨hl,_,Array.getElem?_eq_getElem hi,hall⟩⟩
   ·have ⟨e,he,hb,hn⟩:∃e,e∈(ops[i]'hi).after∧Region.binds .any e=true∧¬listed.getD e.on false=true:=by
     apply Classical.byContradiction;intro hno;exact hall fun e he hb=>Classical.byContradiction fun h=>hno ⟨e,he,hb,h⟩
    have hlt:=jF hE (Array.getElem?_eq_getElem hi) he hb;refine ih e.on (by omega) e.on rfl (by omega) ?_;have:e.on<listed.size:=by omega
    simp [this] at hn |-;exact hn
 obtain ⟨j,hj⟩:=main i i rfl hi hl;intro h0;rw [h0] at hj;cases hj
def unl (ops:Array Oper) (listed:Array Bool):Nat:=(List.range ops.size).countP fun j=>!listed.getD j true
theorem ik {p q:Nat->Bool}:∀{l:List Nat} {i:Nat},(∀x,q x=true->p x=true)->i∈l->p i=true->q i=false->l.countP q<l.countP p
 | x::l,i,h,hi,hp,hq=>by
  have hle:l.countP q<=l.countP p:=List.countP_mono_left fun x _=>h x;rw [List.countP_cons,List.countP_cons];rcases List.mem_cons.1 hi with rfl | hi
  ·simp only [hp,hq];simp;omega
  ·have:=ik h hi hp hq;have h2:(if q x=true then 1 else 0)<=(if p x=true then 1 else 0):=by
    by_cases hx:q x=true
    ·simp [hx,h x hx]
    ·simp [hx]
   omega
theorem lW {listed:Array Bool} {i:Nat} (hi:i∈Region.ready .any ops listed) (hs:listed.size=ops.size):unl ops (listed.setIfInBounds i true)<unl ops listed:=by
 obtain ⟨h0,oi,hoi,_⟩:=mem_ready.1 hi;have hlt:i<ops.size:=(Array.getElem?_eq_some_iff.1 hoi).1;refine ik (i:=i) (fun x hx=>?_) (List.mem_range.2 hlt) (by rw [h0];rfl) ?_
 ·by_cases hix:i=x
  ·subst hix;simp [hs,hlt] at hx
  ·rwa [getD_set_ne true hix] at hx
 ·simp [hs,hlt]
theorem ln {Q:Exit->Act->World->Prop} {listed:Array Bool} {a:Act} {w:World} (h:∀j,j<ops.size->listed.getD j true=true) (hQ:Q .normal a w):∀fuel,wpAny P .any ops Q fuel listed a w:=by
 have hr:Region.ready .any ops listed=[]:=by
  cases hh:Region.ready .any ops listed with
  | nil=>rfl
  | cons x l=>
   have hx:x∈Region.ready .any ops listed:=by rw [hh];exact List.mem_cons_self ..
   obtain ⟨h0,o,ho,_⟩:=mem_ready.1 hx;rw [h x (Array.getElem?_eq_some_iff.1 ho).1] at h0;cases h0
 intro fuel;cases fuel with
 | zero=>exact ⟨hr,hQ⟩
 | succ f=>exact ⟨fun _=>hQ,fun i hi=>by rw [hr] at hi;cases hi⟩
theorem iU {listed:Array Bool} {i:Nat} (h:listed.getD i true=false):listed.getD i false=false:=by
 rcases Nat.lt_or_ge i listed.size with h' | h'
 ·simp [h'] at h |-;exact h
 ·simp [Array.getElem?_eq_none h'] at h
theorem kn {listed:Array Bool} {i:Nat} (h:listed.getD i false=true):listed.getD i true=true:=by
 rcases Nat.lt_or_ge i listed.size with h' | h'
 ·simp [h'] at h |-;exact h
 ·simp [Array.getElem?_eq_none h'] at h
theorem eK {listed:Array Bool} {i:Nat} (hs:i<listed.size):(listed.setIfInBounds i true).getD i false=true:=by
 simp [hs]
def cR (ops:Array Oper) (p:Nat->Value):List Nat->Act->Act
 | [],A=>A
 | c::ws,A=>cR ops p ws (A.put (bE ops c) (p c))
theorem eq {p:Nat->Value}:∀(ws:List Nat) (A:Act),(cR ops p ws A).defers=A.defers∧(cR ops p ws A).tmps.size=A.tmps.size∧∀d,(∀c∈ws,bE ops c≠some d)->(cR ops p ws A).tmps[d]?=A.tmps[d]?
 | [],A=>⟨rfl,rfl,fun _ _=>rfl⟩
 | c::ws,A=>by
  obtain ⟨h1,h2,h3⟩:=eq ws (A.put (bE ops c) (p c));refine ⟨h1.trans (by cases bE ops c <;> rfl),h2.trans (by cases bE ops c <;> simp [Act.put]),fun d hd=>?_⟩;rw [cR,h3 d fun c' hc'=>hd c' (List.mem_cons_of_mem _ hc'),ep (hd c (List.mem_cons_self ..))]
theorem iV {p:Nat->Value} {c d:Nat}:∀(ws:List Nat) (A:Act),c∈ws->bE ops c=some d->d<A.tmps.size->(∀c'∈ws,bE ops c'=some d->c'=c)->(cR ops p ws A).tmps[d]?=some (p c)
 | c'::ws,A,hc,hd,hlt,hu=>by
  by_cases hin:c∈ws
  ·exact iV ws _ hin hd (by cases bE ops c' <;> simpa [Act.put] using hlt) (fun c2 h2=>hu c2 (List.mem_cons_of_mem _ h2))
  ·have hcc:c=c':=(List.mem_cons.1 hc).resolve_right hin;subst hcc;rw [cR,(eq ws _).2.2 d fun c2 h2 he=>hin (by rw [<-hu c2 (List.mem_cons_of_mem _ h2) he];exact h2),hd];exact iR hlt
def WildAt (P:Program) (o:Oper) (a:Act) (w:World) (K:Value->World->Prop):Prop:=
 (∃x w',(execOp a.eval o).run P w=.ok (.value x) w'∧K x w')∨(∃f args,(execOp a.eval o).run P w=.ok (.enter f args) w∧Calls P f args w fun e w'=>∃x,e=.returned x∧K x w')
theorem WildAt.wp {Q:Exit->Act->World->Prop} {o:Oper} {a b:Act} {w:World} {K:Value->World->Prop} {K':Act->World->Prop} (h:WildAt P o a w K) (he:execOp b.eval o=execOp a.eval o) (hK:∀x w',K x w'->K' (b.put o.dst x) w'):o.wp P b w K' Q:=by
 unfold Oper.wp;rw [he];rcases h with ⟨x,w',h1,h2⟩ | ⟨f,args,h1,h2⟩
 ·rw [h1];exact hK x w' h2
 ·rw [h1];refine h2.mono ?_;rintro e w' ⟨x,rfl,hx⟩;exact hK x w' hx
theorem lo {Q:Exit->Act->World->Prop} {z:Nat} (hch:∀k,z<=k->k+1<ops.size->Region.waitsFor .any ops (k+1) k=true):∀(n k:Nat) (listed:Array Bool) (b:Act) (w:World),n=ops.size-k->z<=k->k<=ops.size->gx ops=true->listed.size=ops.size->(∀j,j<k->listed.getD j false=true)->(∀j,k<=j->j<ops.size->listed.getD j true=false)->
 wpList P ops Q (ops.toList.drop k) b w->∀fuel,n<=fuel->wpAny P .any ops Q fuel listed b w:=by
 intro n
 induction n with
 | zero=>
  intro k listed b w hn hz hk hE hs hl hu h fuel _;have hk':ops.toList.drop k=[]:=by rw [List.drop_eq_nil_iff];simp;omega
  rw [hk'] at h;exact ln (fun j hj=>kn (hl j (by omega))) h fuel
 | succ n ih=>
  intro k listed b w hn hz hk hE hs hl hu h fuel hf;have hklt:k<ops.size:=by omega
  obtain ⟨ok,hok⟩:∃o,ops[k]?=some o:=⟨_,Array.getElem?_eq_getElem hklt⟩;have hd:ops.toList.drop k=ok::ops.toList.drop (k+1):=by
   rw [List.drop_eq_getElem_cons (by simpa using hklt)];congr 1;have:=Array.getElem?_eq_getElem hklt;rw [hok] at this;simpa using (Option.some.inj this).symm
  rw [hd] at h;cases fuel with
  | zero=>omega
  | succ fuel=>
   refine ⟨fun h0=>absurd h0 (gz hE hklt (hu k (Nat.le_refl _) hklt) hs),fun i hi=>?_⟩;obtain ⟨hli,oi,hoi,_⟩:=mem_ready.1 hi;have hilt:i<ops.size:=(Array.getElem?_eq_some_iff.1 hoi).1;have hik:i=k:=by
    rcases Nat.lt_trichotomy i k with hlt | heq | hgt
    ·rw [kn (hl i hlt)] at hli;cases hli
    ·exact heq
    ·have h1:=cr hi (show Region.waitsFor .any ops i (i-1)=true by
      have:=hch (i-1) (by omega) (by omega);rwa [show i-1+1=i by omega] at this)
     have h2:=iU (hu (i-1) (by omega) (by omega));rw [h1] at h2;cases h2
   subst hik;have h3:wpOp P ops Q i (fun a' w'=>wpList P ops Q (ops.toList.drop (i+1)) a' w') b w:=by
    unfold wpOp;simp only [hok];exact h
   refine wpOp_mono (fun a' w' hq=>ih (i+1) _ a' w' (by omega) (by omega) (by omega) hE (by simpa using hs) (fun j hj=>?_) (fun j hj hj'=>?_) hq fuel (by omega)) h3
   ·by_cases hij:i=j
    ·subst hij;exact eK (by omega)
    ·rw [getD_set_ne false hij];exact hl j (by omega)
   ·rw [getD_set_ne true (by omega)];exact hu j (by omega) hj'
theorem lx {Q:Exit->Act->World->Prop} {ws:List Nat} {z s:Nat} {v:World} {a A:Act} {p0:Nat->Value} {G:(Nat->Bool)->(Nat->Value)->World->Prop} (hH:Heads ops ws z s) (hws:∀c∈ws,c<z) (hs:a.tmps.size=s)
 (hA:Fr ops ws z a A (fun j=>j<z∧j∉ws) p0 A) (hL:∀i,i<z->i∉ws->∃o d x b',Head ops ws z s i o d∧A.tmps[d]?=some x∧Fr ops ws z a A (fun j=>j<i∧j∉ws) p0 b'∧∀w0,Below v.heap.size v w0->YieldsIn P ops (fun w'=>∃u:Lies w0,w'=u.w) o x b')
 (hGk:∀S p w w',G S p w->Below w.heap.size w w'->G S p w') (hGb:∀S p w,G S p w->Below v.heap.size v w) (hGs:∀S S' p p' w,(∀c∈ws,S' c=S c∧(S c=true->p' c=p c))->G S p w->G S' p' w)
 (hW:∀c∈ws,∀o,ops[c]?=some o->∀S p w,G S p w->S c=false->(∀j∈ws,Region.waitsFor .any ops c j=true->S j=true)->WildAt P o (cR ops p ws A) w fun x w'=>G (fun j=>j == c || S j) (fun j=>if j=c then x else p j) w')
 (hQ:∀S p w,(∀c∈ws,S c=true)->G S p w->wpList P ops Q (ops.toList.drop z) (cR ops p ws A) w):∀(fuel:Nat) (listed:Array Bool) (b:Act) (p:Nat->Value) (w:World),unl ops listed<=fuel->listed.size=ops.size->Closed ops listed->(∀j,z<=j->j<ops.size->listed.getD j true=false)->
  Fr ops ws z a A (fun j=>listed.getD j false=true) p b->G (fun j=>listed.getD j false) p w->wpAny P .any ops Q fuel listed b w:=by
 have hz:=hH.size;have full:∀(listed:Array Bool) (b:Act) (p:Nat->Value) (o:Oper) (i:Nat),ops[i]?=some o->(∀j,j<z->∀t,bE ops j=some t->t∈o.looksAt ops->listed.getD j false=true)->Fr ops ws z a A (fun j=>listed.getD j false=true) p b->∀t:Nat,t∈o.looksAt ops->b.tmps[t]?=(cR ops p ws A).tmps[t]?:=by
  intro listed b p o i ho hl hF t ht;obtain ⟨_,k2,k3⟩:=eq (ops:=ops) (p:=p) ws A;by_cases hj:∃j,j<z∧bE ops j=some t
  ·obtain ⟨j,hj,hd⟩:=hj;obtain ⟨oj,dj,hdj⟩:=hH.head j hj;have hdt:dj=t:=Option.some.inj (hdj.is.symm.trans hd);subst hdt;by_cases hjw:j∈ws
   ·rw [hF.wild dj j hj (hl j hj dj hd ht) hjw hd,iV ws A hjw hd (by rw [hA.size,hs];exact hdj.lt) (fun c' hc' he=>Classical.byContradiction fun hne=>hdj.apart c' (hws c' hc') hne he)]
   ·rw [hF.new dj j hj (hl j hj dj hd ht) hjw hd,k3 dj fun c hc he=>hdj.apart c (hws c hc) (fun hcj=>hjw (hcj ▸ hc)) he]
  ·have:∀j,j<z->bE ops j≠some t:=fun j h1 h2=>hj ⟨j,h1,h2⟩;rw [hF.old t fun j h1 _=>this j h1,k3 t fun c hc=>this c (hws c hc),hA.old t fun j h1 _=>this j h1]
 intro fuel
 induction fuel with
 | zero=>
  intro listed b p w hf hls hc hn hF hG;have:0<unl ops listed:=List.countP_pos_iff.2 ⟨z,List.mem_range.2 (by omega),by rw [hn z (Nat.le_refl _) hz];rfl⟩;omega
 | succ fuel ih=>
  intro listed b p w hf hls hc hn hF hG;have set_at:∀i,i<z->i∈Region.ready .any ops listed->(∀j,j<z->((listed.setIfInBounds i true).getD j false=true↔listed.getD j false=true∨j=i)):=fun i hi hr j hj=>by
   by_cases hij:i=j
   ·subst hij;simp [eK (listed:=listed) (i:=i) (by omega)]
   ·rw [getD_set_ne false hij];exact ⟨.inl,fun h=>h.resolve_right (Ne.symm hij)⟩
  have step:∀i∈Region.ready .any ops listed,wpOp P ops Q i (wpAny P .any ops Q fuel (listed.setIfInBounds i true)) b w:=fun i hi=>by
   have hun:=lW hi hls;obtain ⟨hli,oi,hoi,_⟩:=mem_ready.1 hi;have hlt:i<ops.size:=(Array.getElem?_eq_some_iff.1 hoi).1;by_cases hin:i<z
   ·by_cases hiw:i∈ws
    ·obtain ⟨o,d,hd⟩:=hH.head i hin;have ho:oi=o:=Option.some.inj (hoi.symm.trans hd.op);subst ho;have slots:=full listed b p oi i hoi (fun j hj t hdt ht=>cr hi (hd.looks j t hj hdt ht).2.1) hF;have hw:=hW i hiw oi hoi _ p w hG (iU hli) (fun j hj hwt=>cr hi hwt);unfold wpOp;simp only [hoi];rw [if_pos (by simp [Region.wanted,hd.guard hiw])];refine .inl (hw.wp (ij slots fun cs q=>Region.noSelect_spec hH.sel i oi cs q hoi) fun x w' hG'=>?_);rw [hd.dst];refine ih _ _ (fun j=>if j=i then x else p j) w' (by omega) (by simpa using hls) (hc.set hi) (fun j hj hj'=>by rw [getD_set_ne true (by omega)];exact hn j hj hj') (hF.put hd hs (fun h=>absurd hiw h) (fun _=>by simp) (fun j hj=>by simp [hj]) (set_at i hin hi) hin) ?_;refine hGs _ _ _ _ _ (fun c hcw=>⟨?_,fun _=>rfl⟩) hG';by_cases hci:c=i
     ·subst hci;simp [eK (listed:=listed) (i:=c) (by omega)]
     ·rw [getD_set_ne false (Ne.symm hci)];simp [hci]
    ·obtain ⟨o,d,x,b',hd,hx,hF',hy⟩:=hL i hin hiw;have slot:∀t:Nat,t∈o.looksAt ops->b.tmps[t]?=b'.tmps[t]?:=fun t ht=>by
      by_cases hj:∃j,j<z∧bE ops j=some t
      ·obtain ⟨j,hj,hdt⟩:=hj;obtain ⟨h1,h2,h3⟩:=hd.looks j t hj hdt ht;have h4:j∉ws:=h3.resolve_left hiw;rw [hF.new t j hj (cr hi h2) h4 hdt,hF'.new t j hj ⟨h1,h4⟩ h4 hdt]
      ·have:∀j,j<z->bE ops j≠some t:=fun j h1 h2=>hj ⟨j,h1,h2⟩;rw [hF.old t fun j h1 _=>this j h1,hF'.old t fun j h1 _=>this j h1]
     have hyy:YieldsIn P ops (fun w'=>∃u:Lies w,w'=u.w) o x b:=(hy w (hGb _ _ _ hG)).of_same (ij slot fun cs q=>Region.noSelect_spec hH.sel i o cs q hd.op) (jG slot);have hq:=YieldsIn.qOp (K:=fun a'=>a'=b.put o.dst x) hd.op hyy rfl;refine wpOp_of_qOp (C:=fun w'=>∃u:Lies w,w'=u.w) ⟨⟨w,Below.refl _ _⟩,rfl⟩ (fun a' w' hw' ha'=>?_) hq;obtain ⟨u,rfl⟩:=hw';rw [ha',hd.dst];refine ih _ _ p u.w (by omega) (by simpa using hls) (hc.set hi) (fun j hj hj'=>by rw [getD_set_ne true (by omega)];exact hn j hj hj') (hF.put hd hs (fun _=>hx) (fun h=>absurd h hiw) (fun _ _=>rfl) (set_at i hin hi) hin) ?_;refine hGs _ _ _ _ _ (fun c hcw=>⟨?_,fun _=>rfl⟩) (hGk _ _ _ _ hG u.h);rw [getD_set_ne false (show i≠c from fun hic=>hiw (hic ▸ hcw))]
   ·have hiz:i=z:=by
     by_cases hgt:z<i
     ·have h1:=cr hi (show Region.waitsFor .any ops i (i-1)=true by
       have:=hH.chain (i-1) (by omega) (by omega);rwa [show i-1+1=i by omega] at this)
      have h2:=iU (hn (i-1) (by omega) (by omega));rw [h1] at h2;cases h2
     ·omega
    subst hiz;have hall:∀j,j<i->listed.getD j false=true:=fun j hj=>iT hH hc hi _ j rfl hj;have hb:b=cR ops p ws A:=by
     obtain ⟨k1,k2,k3⟩:=eq (ops:=ops) (p:=p) ws A;have ht:b.tmps=(cR ops p ws A).tmps:=by
      apply Array.ext_getElem?;intro t;by_cases hj:∃j,j<i∧bE ops j=some t
      ·obtain ⟨j,hj,hd⟩:=hj;obtain ⟨oj,dj,hdj⟩:=hH.head j hj;have hdt:dj=t:=Option.some.inj (hdj.is.symm.trans hd);subst hdt;by_cases hjw:j∈ws
       ·rw [hF.wild dj j hj (hall j hj) hjw hd,iV ws A hjw hd (by rw [hA.size,hs];exact hdj.lt) (fun c' hc' he=>Classical.byContradiction fun hne=>hdj.apart c' (hws c' hc') hne he)]
       ·rw [hF.new dj j hj (hall j hj) hjw hd,k3 dj fun c hc he=>hdj.apart c (hws c hc) (fun hcj=>hjw (hcj ▸ hc)) he]
      ·have:∀j,j<i->bE ops j≠some t:=fun j h1 h2=>hj ⟨j,h1,h2⟩;rw [hF.old t fun j h1 _=>this j h1,k3 t fun c hc=>this c (hws c hc),hA.old t fun j h1 _=>this j h1]
     have hd:=hF.defers.trans (hA.defers.symm.trans k1.symm);generalize cR ops p ws A=B at ht hd;cases b;cases B
     simp_all
    have h2:=hQ (fun j=>listed.getD j false) p w (fun c hcw=>hall c (hws c hcw)) hG;rw [<-hb] at h2;have htl:=lo (P:=P) (Q:=Q) hH.chain (ops.size-i) i listed b w rfl (Nat.le_refl _) (by omega) hH.edges hls hall hn h2 (fuel+1) (by
     have hcount:ops.size-i<=unl ops listed:=by
      have:(List.range' i (ops.size-i)).countP (fun j=>!listed.getD j true)<=(List.range ops.size).countP (fun j=>!listed.getD j true):=by
       refine List.Sublist.countP_le ?_;rw [List.range_eq_range'];have e:List.range' 0 ops.size=List.range' 0 i++List.range' i (ops.size-i):=by
        have h6:=List.range'_append_1 (s:=0) (m:=i) (n:=ops.size-i);rw [Nat.zero_add,show i+(ops.size-i)=ops.size by omega] at h6;exact h6.symm
       rw [e];exact List.sublist_append_right _ _
      have h5:(List.range' i (ops.size-i)).countP (fun j=>!listed.getD j true)=ops.size-i:=by
       rw [List.countP_eq_length.2]
       ·simp
       ·intro j hj;rw [List.mem_range'_1] at hj;rw [hn j hj.1 (by omega)];rfl
      unfold unl;omega
     omega)
    exact htl.2 i hi
  exact ⟨fun h0=>absurd h0 (gz hH.edges hz (hn z (Nat.le_refl _) hz) hls),step⟩
theorem jH:Closed ops (Array.replicate ops.size false):=fun j oj _ hl=>by
 have:(Array.replicate ops.size false).getD j false=false:=by
  rcases Nat.lt_or_ge j ops.size with h | h
  ·simp [h]
  ·simp [h]
 rw [this] at hl;cases hl
theorem ko {ws:List Nat} {z:Nat} {a A:Act} {S:Nat->Prop} {p:Nat->Value} (hS:∀j,j<z->¬S j):Fr ops ws z a A S p a:=
 ⟨rfl,rfl,fun _ _=>rfl,fun _ j hj hj2=>absurd hj2 (hS j hj),fun _ j hj hj2=>absurd hj2 (hS j hj)⟩
theorem ex (m j:Nat):(Array.replicate m false).getD j false=false:=by
 rcases Nat.lt_or_ge j m with h | h
 ·simp [h]
 ·simp [h]
theorem mq (listed:Array Bool):unl ops listed<=ops.size:=by
 have:=List.countP_le_length (p:=fun j=>!listed.getD j true) (l:=List.range ops.size);simpa [unl] using this
theorem fG {id:Nat} {Q:Exit->Act->World->Prop} {a:Act} {w:World} {l:List Oper} (ws:List Nat) (z:Nat) (A:Act) (T:List Oper) (G:(Nat->Bool)->(Nat->Value)->World->Prop) (hm:P.follows .mixedOrders=true) (hB:gy l.toArray ws z a.tmps.size=true) (hws:ws.all (fun c=>decide (c<z))=true) (hT:l.drop z=T)
 (h:∀w0,Below w.heap.size w w0->wpQuiet P l.toArray (fun w'=>∃u:Lies w0,w'=u.w) (fun a'=>a'=A) (cu l.toArray ws z 0) a)
 (hG0:G (fun _=>false) (fun _=>undef) w.drew) (hGk:∀S p w w',G S p w->Below w.heap.size w w'->G S p w') (hGb:∀S p w',G S p w'->Below w.heap.size w w') (hGs:∀S S' p p' w,(∀c∈ws,S' c=S c∧(S c=true->p' c=p c))->G S p w->G S' p' w)
 (hW:∀c∈ws,∀o,l[c]?=some o->∀S p w',G S p w'->S c=false->(∀j∈ws,Region.waitsFor .any l.toArray c j=true->S j=true)->WildAt P o (cR l.toArray p ws A) w' fun x w''=>G (fun j=>j == c || S j) (fun j=>if j=c then x else p j) w'')
 (hQ:∀S p w',(∀c∈ws,S c=true)->G S p w'->wpList P l.toArray Q T (cR l.toArray p ws A) w'):(Code.region id l.toArray true).wp P Q a w:=by
 have hH:=ke hB;have hws':∀c∈ws,c<z:=fun c hc=>by simpa using List.all_eq_true.1 hws c hc
 have hx:=ft (v:=w.drew) (P:=P) (ops:=l.toArray) (p:=fun _=>undef) hH rfl z 0 a (by omega) (ko fun j _ h=>by omega) (fun w0 hw0=>h w0 (Below.trans ((Below.refl _ _).drew) hw0));refine wp_region_any hm ?_;have hz:=hH.size;refine lx (P:=P) (Q:=Q) (v:=w.drew) (G:=G) hH hws' rfl hx.1 (fun i hi hw=>hx.2 i (Nat.zero_le _) hi hw) hGk (fun S p w' hg=>?_) hGs (fun c hc o ho=>hW c hc o (by simpa using ho)) (fun S p w' h1 h2=>by rw [show l.toArray.toList.drop z=T from hT];exact hQ S p w' h1 h2) _ _ a (fun _=>undef) _ (mq _) (by simp) jH ?_ (ko fun j _ hj=>by rw [ex] at hj;cases hj) ?_
 ·have hb:=hGb S p w' hg;exact ⟨hb.os,hb.tape,hb.output,hb.size,hb.block⟩
 ·intro j _ hj;simp only [List.size_toArray] at hj |-;simp [hj]
 ·refine hGs _ _ _ _ _ (fun c _=>⟨ex _ _,fun h=>rfl⟩) hG0
theorem ec {id:Nat} {Q:Exit->Act->World->Prop} {a:Act} {w:World} {l:List Oper} (ws:List Nat) (z:Nat) (A:Act) (oS:Oper) (G:(Nat->Bool)->(Nat->Value)->World->Prop) (hm:P.follows .mixedOrders=true) (hB:gy l.toArray ws z a.tmps.size=true) (hws:ws.all (fun c=>decide (c<z))=true) (hoS:l.drop z=[oS])
 (h:∀w0,Below w.heap.size w w0->wpQuiet P l.toArray (fun w'=>∃u:Lies w0,w'=u.w) (fun a'=>a'=A) (cu l.toArray ws z 0) a)
 (hG0:G (fun _=>false) (fun _=>undef) w.drew) (hGk:∀S p w w',G S p w->Below w.heap.size w w'->G S p w') (hGb:∀S p w',G S p w'->Below w.heap.size w w') (hGs:∀S S' p p' w,(∀c∈ws,S' c=S c∧(S c=true->p' c=p c))->G S p w->G S' p' w)
 (hW:∀c∈ws,∀o,l[c]?=some o->∀S p w',G S p w'->S c=false->(∀j∈ws,Region.waitsFor .any l.toArray c j=true->S j=true)->WildAt P o (cR l.toArray p ws A) w' fun x w''=>G (fun j=>j == c || S j) (fun j=>if j=c then x else p j) w'')
 (hQ:∀S p w',(∀c∈ws,S c=true)->G S p w'->wpList P l.toArray Q [oS] (cR l.toArray p ws A) w'):(Code.region id l.toArray true).wp P Q a w:=by
 refine fG ws z A (l.drop z) G hm hB hws rfl h hG0 hGk hGb hGs hW (fun S p w' h1 h2=>?_);rw [show l.drop z=[oS] from hoS];exact hQ S p w' h1 h2
def kf (l:List Oper):List (Nat × Nat)->List Oper
 | []=>[]
 | (d,t)::ps=>(l.drop d).take t++kf l ps
theorem cw {id:Nat} {Q:Exit->Act->World->Prop} {a:Act} {w:World} {l:List Oper} (ws:List Nat) (z:Nat) (A:Act) (oS:Oper) (ps:List (Nat × Nat)) (R:Nat->Value->World->Prop) (hm:P.follows .mixedOrders=true) (hB:gy l.toArray ws z a.tmps.size=true) (hws:ws.all (fun c=>decide (c<z))=true) (hoS:l.drop z=[oS]) (hq:cu l.toArray ws z 0=kf l ps)
 (h:∀w0,Below w.heap.size w w0->wpQuiet P l.toArray (fun w'=>∃u:Lies w0,w'=u.w) (fun a'=>a'=A) (kf l ps) a)
 (hR:∀c∈ws,∀x w1 w2,R c x w1->Below w1.heap.size w1 w2->R c x w2)
 (hW:∀c∈ws,∀o,l[c]?=some o->∀p w',Below w.heap.size w w'->(∀j∈ws,Region.waitsFor .any l.toArray c j=true->R j (p j) w')->WildAt P o (cR l.toArray p ws A) w' fun x w''=>R c x w''∧Below w'.heap.size w' w'')
 (hQ:∀p w',Below w.heap.size w w'->(∀c∈ws,R c (p c) w')->wpList P l.toArray Q [oS] (cR l.toArray p ws A) w'):(Code.region id l.toArray true).wp P Q a w:=by
 refine ec ws z A oS (fun S p w'=>Below w.heap.size w w'∧∀c∈ws,S c=true->R c (p c) w') hm hB hws hoS (by rw [hq];exact h) ⟨(Below.refl _ _).drew,fun _ _ hh=>by cases hh⟩ (fun S p w1 w2 hg hb=>⟨Below.step hg.1 hb (Nat.le_refl _),fun c hc hS=>hR c hc _ _ _ (hg.2 c hc hS) hb⟩) (fun S p w' hg=>hg.1) (fun S S' p p' w' hss hg=>⟨hg.1,fun c hc h3=>?_⟩) (fun c hc o ho S p w' hg hS hw=>?_) (fun S p w' hS hg=>hQ p w' hg.1 fun c hc=>hg.2 c hc (hS c hc))
 ·obtain ⟨h1,h2⟩:=hss c hc;rw [h1] at h3;rw [h2 h3];exact hg.2 c hc h3
 ·have h1:=hW c hc o ho p w' hg.1 (fun j hj hwj=>hg.2 j hj (hw j hj hwj));have fin:∀x w2,R c x w2->Below w'.heap.size w' w2->Below w.heap.size w w2∧∀c'∈ws,(c' == c || S c')=true->R c' (if c'=c then x else p c') w2:=fun x w2 e2 e3=>by
   refine ⟨Below.step hg.1 e3 (Nat.le_refl _),fun c' hc' hs=>?_⟩;by_cases hcc:c'=c
   ·subst hcc;simpa using e2
   ·rw [if_neg hcc];exact hR c' hc' _ _ _ (hg.2 c' hc' (by simpa [hcc] using hs)) e3
  rcases h1 with ⟨x,w2,e1,e2,e3⟩ | ⟨f,args,e1,e2⟩
  ·exact .inl ⟨x,w2,e1,fin x w2 e2 e3⟩
  ·refine .inr ⟨f,args,e1,e2.mono ?_⟩;rintro e w2 ⟨x,rfl,e2,e3⟩;exact ⟨x,rfl,fin x w2 e2 e3⟩
theorem bM {id:Nat} {Q:Exit->Act->World->Prop} {a:Act} {w:World} {l:List Oper} (c z g d:Nat) (A:Act) (oC oS:Oper) (R:Value->World->Prop) (hm:P.follows .mixedOrders=true) (hB:gy l.toArray [c] z a.tmps.size=true) (hcz:decide (c<z)=true) (hoC:l[c]?=some oC) (hoS:l.drop z=[oS]) (hd:oC.dst=some d) (hq:cu l.toArray [c] z 0=l.take c++(l.drop (c+1)).take g)
 (h:∀w0,Below w.heap.size w w0->wpQuiet P l.toArray (fun w'=>∃u:Lies w0,w'=u.w) (fun a'=>a'=A) (l.take c++(l.drop (c+1)).take g) a)
 (hR:∀x w1 w2,R x w1->Below w1.heap.size w1 w2->R x w2)
 (hC:∀y w',Below w.heap.size w w'->WildAt P oC (A.put (some d) y) w' fun x w''=>R x w''∧Below w'.heap.size w' w'')
 (hQ:∀x w',Below w.heap.size w w'->R x w'->wpList P l.toArray Q [oS] (A.put (some d) x) w'):(Code.region id l.toArray true).wp P Q a w:=by
 have hdd:bE l.toArray c=some d:=by
  rw [bE,show l.toArray[c]?=some oC by simpa using hoC];exact hd
 refine ec [c] z A oS (fun S p w'=>Below w.heap.size w w'∧(S c=true->R (p c) w')) hm hB (by simpa using hcz) hoS (by rw [hq];exact h) ⟨(Below.refl _ _).drew,fun hh=>by cases hh⟩ (fun S p w1 w2 hg hb=>⟨Below.step hg.1 hb (Nat.le_refl _),fun hS=>hR _ _ _ (hg.2 hS) hb⟩) (fun S p w' hg=>hg.1) (fun S S' p p' w' hss hg=>?_) (fun c' hc' o ho S p w' hg hS hw=>?_) (fun S p w' hS hg=>?_)
 ·obtain ⟨h1,h2⟩:=hss c (by simp);exact ⟨hg.1,fun h3=>by rw [h1] at h3;rw [h2 h3];exact hg.2 h3⟩
 ·have:c'=c:=by simpa using hc'
  subst this;have:o=oC:=Option.some.inj (ho.symm.trans hoC);subst this;have h1:=hC (p c') w' hg.1;simp only [cR,hdd];rcases h1 with ⟨x,w2,e1,e2,e3⟩ | ⟨f,args,e1,e2⟩
  ·exact .inl ⟨x,w2,e1,Below.step hg.1 e3 (Nat.le_refl _),fun _=>by simpa using e2⟩
  ·refine .inr ⟨f,args,e1,e2.mono ?_⟩;rintro e w2 ⟨x,rfl,e2,e3⟩;exact ⟨x,rfl,Below.step hg.1 e3 (Nat.le_refl _),fun _=>by simpa using e2⟩
 ·have:=hQ (p c) w' hg.1 (hg.2 (hS c (by simp)));simpa only [cR,hdd] using this
theorem cg {id:Nat} {Q:Exit->Act->World->Prop} {a:Act} {w:World} {l:List Oper} (c d:Nat) (A:Act) (oC oS:Oper) (Z:Obj) (hm:P.follows .mixedOrders=true) (hB:gy l.toArray [c] (c+1) a.tmps.size=true) (hoC:l[c]?=some oC) (hoS:l.drop (c+1)=[oS]) (hd:oC.dst=some d)
 (hal:∀(b:Act) (w:World),(execOp b.eval oC).run P w=.ok (.value (.pointer (some ⟨w.heap.size,0,none⟩))) (w.alloc Z))
 (hq:cu l.toArray [c] (c+1) 0=l.take c) (h:∀w0,Below w.heap.size w w0->wpQuiet P l.toArray (fun w'=>∃u:Lies w0,w'=u.w) (fun a'=>a'=A) (l.take c) a)
 (hQ:∀pb w',w.heap.size<=pb->Below w.heap.size w w'->w'.heap[pb]?=some Z->wpList P l.toArray Q [oS] (A.put (some d) (.pointer (some ⟨pb,0,none⟩))) w'):(Code.region id l.toArray true).wp P Q a w:=by
 refine bM c (c+1) 0 d A oC oS (fun x w'=>∃pb,x=.pointer (some ⟨pb,0,none⟩)∧w.heap.size<=pb∧w'.heap[pb]?=some Z) hm hB (by simp) hoC hoS hd (by rw [hq];simp) (by simpa using h) ?_ (fun y w' hw=>?_) ?_
 ·rintro x w1 w2 ⟨pb,rfl,h1,h2⟩ hb;exact ⟨pb,rfl,h1,aC h2 hb (Array.getElem?_eq_some_iff.1 h2).1⟩
 ·exact .inl ⟨_,_,hal _ _,⟨w'.heap.size,rfl,hw.size,heap_alloc_new w' Z⟩,(Below.refl _ _).alloc (Nat.le_refl _) _⟩
 ·rintro x w' hw ⟨pb,rfl,h1,h2⟩;exact hQ pb w' h1 hw h2
end
theorem jn (a k:Nat):(a &&& 2^k != 0)=(a/2^k%2 == 1):=by
 have e:(a/2^k%2 == 1)=a.testBit k:=by rw [Nat.testBit_eq_decide_div_mod_eq];rfl
 rw [e];cases h:a.testBit k
 ·have:a &&& 2^k=0:=by
   apply Nat.eq_of_testBit_eq;intro i;rw [Nat.testBit_and,Nat.testBit_two_pow,Nat.zero_testBit];by_cases hi:k=i
   ·subst hi;simp [h]
   ·simp [hi]
  simp [this]
 ·have:a &&& 2^k≠0:=by
   intro h0;have:=congrArg (fun n=>n.testBit k) h0;simp [Nat.testBit_and,h] at this
  simpa using this
theorem dI (a m n:Nat):(a &&& (m ||| n) != 0)=((a &&& m != 0) || (a &&& n != 0)):=by
 rw [Nat.and_or_distrib_left];cases h:(a &&& m != 0) <;> cases h':(a &&& n != 0) <;> simp_all [Nat.or_eq_zero_iff]
def dJ (x m:Int):Bool:=bits .and .u64 x m != 0
theorem cF (a m:Nat) (ha:a<18446744073709551616) (hm:m<18446744073709551616):dJ a m=(a &&& m != 0):=by
 rw [dJ,u64_and_nat a m ha hm];cases h:(a &&& m != 0)
 ·simp at h;simp [h]
 ·simp at h;simp;omega
theorem bs (k:Nat) (x p:Int) (hp:p=2^k) (hk:p<18446744073709551616) (h0:0<=x) (h1:x<=18446744073709551615):dJ x p=aI x p:=by
 obtain ⟨a,rfl⟩:=Int.eq_ofNat_of_zero_le h0;have e:p=((2^k:Nat):Int):=by rw [hp];push_cast;rfl
 rw [e] at hk |-;rw [cF a (2^k) (by omega) (by omega),jn,aI];rw [show ((a:Int)/((2^k:Nat):Int)%2)=((a/2^k%2:Nat):Int) by omega];generalize a/2^k%2=t;rw [Bool.eq_iff_iff];simp only [beq_iff_eq];omega
theorem kU (x:Int) (h0:0<=x) (h1:x<=18446744073709551615):dJ x 14=(aI x 2 || aI x 4 || aI x 8):=by
 rw [<-bs 1 x 2 rfl (by omega) h0 h1,<-bs 2 x 4 rfl (by omega) h0 h1,<-bs 3 x 8 rfl (by omega) h0 h1];obtain ⟨a,rfl⟩:=Int.eq_ofNat_of_zero_le h0;rw [show (14:Int)=((14:Nat):Int) from rfl,show (2:Int)=((2:Nat):Int) from rfl,show (4:Int)=((4:Nat):Int) from rfl,show (8:Int)=((8:Nat):Int) from rfl];rw [cF a 14 (by omega) (by omega),cF a 2 (by omega) (by omega),cF a 4 (by omega) (by omega),cF a 8 (by omega) (by omega)];rw [<-dI,<-dI];rfl
theorem kV (x:Int) (h0:0<=x) (h1:x<=18446744073709551615):dJ x 208=(aI x 16 || aI x 64 || aI x 128):=by
 rw [<-bs 4 x 16 rfl (by omega) h0 h1,<-bs 6 x 64 rfl (by omega) h0 h1,<-bs 7 x 128 rfl (by omega) h0 h1];obtain ⟨a,rfl⟩:=Int.eq_ofNat_of_zero_le h0;rw [show (208:Int)=((208:Nat):Int) from rfl,show (16:Int)=((16:Nat):Int) from rfl,show (64:Int)=((64:Nat):Int) from rfl,show (128:Int)=((128:Nat):Int) from rfl];rw [cF a 208 (by omega) (by omega),cF a 16 (by omega) (by omega),cF a 64 (by omega) (by omega),cF a 128 (by omega) (by omega)];rw [<-dI,<-dI];rfl
theorem kE (k:Nat) (x m P:Int) (hP:P=2^k) (hm:m=P-1) (hk:m<18446744073709551616) (h0:0<=x) (h1:x<=18446744073709551615):bits .andNot .u64 x m=x/P*P:=by
 obtain ⟨a,rfl⟩:=Int.eq_ofNat_of_zero_le h0;have hp:1<=(2^k:Nat):=Nat.one_le_two_pow;have eP:P=((2^k:Nat):Int):=by rw [hP];push_cast;rfl
 have e:m=((2^k-1:Nat):Int):=by rw [hm,eP];omega
 rw [e] at hk |-;rw [eP,u64_andNot_nat a (2^k-1) (by omega) (by omega)];rw [show ((a:Int)/((2^k:Nat):Int)*((2^k:Nat):Int))=((a/2^k*2^k:Nat):Int) by push_cast;rfl];congr 1;apply Nat.eq_of_testBit_eq;intro i;have hk64:k<=64:=by
  rcases Nat.lt_or_ge 64 k with h | h
  ·have:2^65<=2^k:=Nat.pow_le_pow_right (by omega) h;omega
  ·exact h
 rw [Nat.testBit_and,Nat.testBit_mul_two_pow,Nat.testBit_div_two_pow];by_cases hi:k<=i
 ·by_cases hi':i<64
  ·have:(18446744073709551615-(2^k-1)).testBit i=true:=by
    rw [show 18446744073709551615-(2^k-1)=2^64-(2^k-1+1) by omega,Nat.testBit_two_pow_sub_succ (by omega),Nat.testBit_two_pow_sub_one];simp;omega
   rw [this];simp [hi,show i-k+k=i by omega]
  ·have:a.testBit i=false:=Nat.testBit_lt_two_pow (Nat.lt_of_lt_of_le (by omega:a<2^64) (Nat.pow_le_pow_right (by omega) (by omega)));simp [this,show i-k+k=i by omega]
 ·have:(18446744073709551615-(2^k-1)).testBit i=false:=by
   rw [show 18446744073709551615-(2^k-1)=2^64-(2^k-1+1) by omega,Nat.testBit_two_pow_sub_succ (by omega),Nat.testBit_two_pow_sub_one];simp;omega
  simp [this,hi]
theorem eE (k:Nat) (x y m P:Int) (hP:P=2^k) (hm:m=P-1) (hk:m<18446744073709551616) (h0:0<=x) (h1:x<=18446744073709551615) (g0:0<=y) (g1:y<=18446744073709551615):
 bits .or .u64 (bits .andNot .u64 x m) (bits .and .u64 y m)=x/P*P+y%P:=by
 have hp:1<=P:=by rw [hP];exact Int.pow_pos (by omega:(0:Int)<2)
 rw [kE k x m P hP hm hk h0 h1,bS k y m (by rw [hm,hP]) hk g0 g1,<-hP];have a1:0<=y%P:=Int.emod_nonneg _ (by omega);have a2:y%P<P:=Int.emod_lt_of_pos _ (by omega);have a3:0<=x/P:=Int.ediv_nonneg h0 (by omega);have a4:x/P*P<=x:=Int.ediv_mul_le _ (by omega);have a5:0<=x/P*P:=Int.mul_nonneg a3 (by omega);have hc:bits .or .u64 (x/P*P) (y%P)=bits .or .u64 (y%P) (x/P*P):=by
  rw [u64_or _ _ a5 (by omega) a1 (by omega),u64_or _ _ a1 (by omega) a5 (by omega),Nat.or_comm]
 rw [hc,eZ k P (y%P) (x/P) hP a1 a2 a3 (by omega) (by omega)];omega
end Go.Proofs.YtfgogedgolgnaaaGreat
