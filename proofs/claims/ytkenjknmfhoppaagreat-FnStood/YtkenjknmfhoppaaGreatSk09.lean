import Derived.StillTail
import Derived.Test.YtkenjknmfhoppaaGreatSk08
namespace Go.Proofs.YtkenjknmfhoppaaGreat
open Go.RowKit
set_option linter.unusedVariables false
set_option maxHeartbeats 6400000
set_option maxRecDepth 20000
section
variable {P:Program} {ops:Array Oper}
def fo (ops:Array Oper) (j:Nat):Option Tmp:=(ops[j]?).bind (·.dst)
def tB (ops:Array Oper):Bool:=
 (List.range ops.size).all fun i=>match ops[i]? with
  | none=>true
  | some o=>o.after.all fun e=>!Region.binds .any e || decide (e.on<i)
theorem yN (h:tB ops=true) {i:Nat} {o:Oper} (ho:ops[i]?=some o) {e:Edge} (he:e∈o.after) (hb:Region.binds .any e=true):e.on<i:=by
 have h1:=List.all_eq_true.1 h i (List.mem_range.2 (hpl ho));simp only [ho] at h1;have h2:=Array.all_eq_true_iff_forall_mem.1 h1 e he;simpa [hb] using h2
def uU (ops:Array Oper) (ws:List Nat) (z s:Nat):Bool:=
 Region.noSelect ops && tB ops && (decide (z<ops.size) && (List.range ops.size).all (fun k=>decide (k<z) || decide (ops.size<=k+1) || Region.waitsFor .any ops (k+1) k)) && (List.range z).all fun i=>match ops[i]? with
  | none=>false
  | some o=>(match o.dst with | some d=>decide (d<s) | none=>false) &&
   (!ws.contains i || o.guard.isNone) &&
   ((List.range z).all fun j=>match fo ops j with
    | none=>false
    | some d=>(j == i || o.dst != some d) && (!(o.looksAt ops).contains d || (decide (j<i) && Region.waitsFor .any ops i j && (ws.contains i || !ws.contains j)))) &&
   ((List.range (z+1)).any fun j=>decide (i<j) && Region.waitsFor .any ops j i)
structure Head (ops:Array Oper) (ws:List Nat) (z s i:Nat) (o:Oper) (d:Tmp):Prop where
 op:ops[i]?=some o
 dst:o.dst=some d
 lt:d<s
 guard:i∈ws->o.guard=none
 apart:∀j,j<z->j≠i->fo ops j≠some d
 looks:∀j t,j<z->fo ops j=some t->t∈o.looksAt ops->j<i∧Region.waitsFor .any ops i j=true∧(i∈ws∨j∉ws)
 sink:∃j,i<j∧j<z+1∧Region.waitsFor .any ops j i=true
structure Heads (ops:Array Oper) (ws:List Nat) (z s:Nat):Prop where
 sel:Region.noSelect ops=true
 edges:tB ops=true
 size:z<ops.size
 chain:∀k,z<=k->k+1<ops.size->Region.waitsFor .any ops (k+1) k=true
 head:∀i,i<z->∃o d,Head ops ws z s i o d
theorem zT {ws:List Nat} {z s:Nat} (h:uU ops ws z s=true):Heads ops ws z s:=by
 simp only [uU,Bool.and_eq_true,decide_eq_true_eq] at h;refine ⟨h.1.1.1,h.1.1.2,h.1.2.1,fun k hk hk'=>?_,fun i hi=>?_⟩
 ·have:=List.all_eq_true.1 h.1.2.2 k (List.mem_range.2 (by omega));simp only [Bool.or_eq_true,decide_eq_true_eq] at this;rcases this with (h | h) | h
  ·omega
  ·omega
  ·exact h
 have h2:=List.all_eq_true.1 h.2 i (List.mem_range.2 hi);cases ho:ops[i]? with
 | none=>simp [ho] at h2
 | some o=>
  simp only [ho,Bool.and_eq_true] at h2;obtain ⟨⟨⟨hd,hg⟩,hj⟩,hs⟩:=h2;cases hdd:o.dst with
  | none=>simp [hdd] at hd
  | some d=>
   simp only [hdd,decide_eq_true_eq] at hd;have hj2:=fun j (hjn:j<z)=>List.all_eq_true.1 hj j (List.mem_range.2 hjn);refine ⟨o,d,ho,hdd,hd,fun hw=>?_,fun j hjn hne he=>?_,fun j t hjn ht hl=>?_,?_⟩
   ·simpa [hw] using hg
   ·have:=hj2 j hjn;simp [he,hdd,hne] at this
   ·have:=hj2 j hjn;simp only [ht,Bool.and_eq_true,Bool.or_eq_true,Bool.not_eq_true',List.contains_eq_mem,decide_eq_false_iff_not,decide_eq_true_eq] at this;rcases this.2 with hc | hc
    ·exact absurd hl hc
    ·exact ⟨hc.1.1,hc.1.2,hc.2⟩
   ·obtain ⟨j,hj,hh⟩:=List.any_eq_true.1 hs;simp only [Bool.and_eq_true,decide_eq_true_eq] at hh;exact ⟨j,hh.1,List.mem_range.1 hj,hh.2⟩
structure Fr (ops:Array Oper) (ws:List Nat) (z:Nat) (a A:Act) (S:Nat->Prop) (p:Nat->Value) (b:Act):Prop where
 defers:b.defers=a.defers
 size:b.tmps.size=a.tmps.size
 old:∀d:Nat,(∀j,j<z->S j->fo ops j≠some d)->b.tmps[d]?=a.tmps[d]?
 new:∀(d:Nat) j,j<z->S j->j∉ws->fo ops j=some d->b.tmps[d]?=A.tmps[d]?
 wild:∀(d:Nat) j,j<z->S j->j∈ws->fo ops j=some d->b.tmps[d]?=some (p j)
theorem wu {b:Act} {d:Nat} {x:Value} (h:d<b.tmps.size):(b.put (some d) x).tmps[d]?=some x:=by
 simp [Act.put,h]
theorem nu {b:Act} {e:Option Tmp} {d:Nat} {x:Value} (h:e≠some d):(b.put e x).tmps[d]?=b.tmps[d]?:=by
 cases e with
 | none=>rfl
 | some e=>simp [Act.put,Array.getElem?_setIfInBounds_ne (show e≠d from fun he=>h (he ▸ rfl))]
theorem Head.is {ws:List Nat} {z s i:Nat} {o:Oper} {d:Tmp} (h:Head ops ws z s i o d):fo ops i=some d:=by
 rw [fo,h.op];exact h.dst
theorem Fr.put {ws:List Nat} {z s i d:Nat} {a A b:Act} {S S':Nat->Prop} {p p':Nat->Value} {o:Oper} {x:Value} (h:Fr ops ws z a A S p b) (hh:Head ops ws z s i o d) (hs:a.tmps.size=s) (hx:i∉ws->A.tmps[d]?=some x) (hp:i∈ws->p' i=x) (hp':∀j,j≠i->p' j=p j)
 (hS:∀j,j<z->(S' j↔S j∨j=i)) (hi:i<z):Fr ops ws z a A S' p' (b.put (some d) x):=by
 have one:∀e j,j<z->S' j->fo ops j=some e->(d=e∧j=i)∨(d≠e∧S j∧j≠i):=fun e j hj hSj hd=>by
  by_cases hji:j=i
  ·subst hji;exact .inl ⟨Option.some.inj (hh.is.symm.trans hd),rfl⟩
  ·refine .inr ⟨fun hde=>hh.apart j hj hji (by rw [hd,hde]),((hS j hj).1 hSj).resolve_right hji,hji⟩
 refine ⟨h.defers,by simp [Act.put,h.size],fun e he=>?_,fun e j hj hSj hw hd=>?_,fun e j hj hSj hw hd=>?_⟩
 ·have hne:d≠e:=fun hde=>he i hi ((hS i hi).2 (.inr rfl)) (by rw [hh.is,hde]);rw [nu (by simpa using hne)];exact h.old e fun j hj hj2=>he j hj ((hS j hj).2 (.inl hj2))
 ·rcases one e j hj hSj hd with ⟨rfl,rfl⟩ | ⟨h1,h2,h3⟩
  ·rw [wu (by rw [h.size,hs];exact hh.lt),hx hw]
  ·rw [nu (by simpa using h1)];exact h.new e j hj h2 hw hd
 ·rcases one e j hj hSj hd with ⟨rfl,rfl⟩ | ⟨h1,h2,h3⟩
  ·rw [wu (by rw [h.size,hs];exact hh.lt),hp hw]
  ·rw [nu (by simpa using h1),hp' j h3];exact h.wild e j hj h2 hw hd
theorem ph {C:World->Prop} {A:Act} {d:Nat}:∀(l:List Oper) (b:Act),(∀o∈l,o.dst≠some d)->wpQuiet P ops C (fun a'=>a'=A) l b->b.tmps[d]?=A.tmps[d]?
 | [],b,_,h=>by rw [show b=A from h]
 | o::l,b,hl,h=>by
  unfold wpQuiet at h;split at h
  ·obtain ⟨v,_,h2⟩:=h;rw [<-ph l _ (fun o' ho'=>hl o' (List.mem_cons_of_mem _ ho')) h2,nu (hl o (List.mem_cons_self ..))]
  ·rw [<-ph l _ (fun o' ho'=>hl o' (List.mem_cons_of_mem _ ho')) h,nu (hl o (List.mem_cons_self ..))]
def hU (ops:Array Oper) (ws:List Nat):Nat->Nat->List Oper
 | 0,_=>[]
 | f+1,k=>if ws.contains k then hU ops ws f (k+1) else (ops[k]?).toList++hU ops ws f (k+1)
theorem pj {ws:List Nat} {o:Oper}:∀(f k:Nat),o∈hU ops ws f k->∃j,k<=j∧j<k+f∧ops[j]?=some o
 | 0,k,h=>by cases h
 | f+1,k,h=>by
  unfold hU at h;split at h
  ·obtain ⟨j,h1,h2,h3⟩:=pj f (k+1) h;exact ⟨j,by omega,by omega,h3⟩
  ·rcases List.mem_append.1 h with h | h
   ·exact ⟨k,nle,by omega,by simpa using h⟩
   ·obtain ⟨j,h1,h2,h3⟩:=pj f (k+1) h;exact ⟨j,by omega,by omega,h3⟩
theorem qL {ws:List Nat} {z s:Nat} {v:World} {a A:Act} {p:Nat->Value} (hH:Heads ops ws z s) (hs:a.tmps.size=s):∀(f k:Nat) (b:Act),k+f=z->
 Fr ops ws z a A (fun j=>j<k∧j∉ws) p b->(∀w0,Bw v w0->wpQuiet P ops (fun w'=>∃u:Lies w0,w'=u.w) (fun a'=>a'=A) (hU ops ws f k) b)->
 Fr ops ws z a A (fun j=>j<z∧j∉ws) p A∧∀i,k<=i->i<z->i∉ws->∃o d x b',Head ops ws z s i o d∧A.tmps[d]?=some x∧Fr ops ws z a A (fun j=>j<i∧j∉ws) p b'∧∀w0,Bw v w0->YieldsIn P ops (fun w'=>∃u:Lies w0,w'=u.w) o x b'
 | 0,k,b,hk,hF,h=>by
  have hk':k=z:=by simpa using hk
  have hb:b=A:=h v brf;subst hk';subst hb;exact ⟨hF,fun i h1 h2=>by omega⟩
 | f+1,k,b,hk,hF,h=>by
  by_cases hkw:k∈ws
  ·have hF':Fr ops ws z a A (fun j=>j<k+1∧j∉ws) p b:=by
    have e:(fun j=>j<k+1∧j∉ws)=(fun j=>j<k∧j∉ws):=by
     funext j;apply propext;constructor
     ·rintro ⟨h1,h2⟩;exact ⟨by rcases Nat.lt_or_ge j k with h | h;exact h;exact absurd (by rw [show j=k by omega];exact hkw) h2,h2⟩
     ·rintro ⟨h1,h2⟩;exact ⟨by omega,h2⟩
    rw [e];exact hF
   have hrec:=qL hH hs f (k+1) b (by omega) hF' (fun w0 hw0=>by
    have:=h w0 hw0;rw [hU,if_pos (by simpa using hkw)] at this;exact this)
   refine ⟨hrec.1,fun i h1 h2 h3=>?_⟩;by_cases hik:i=k
   ·subst hik;exact absurd hkw h3
   ·exact hrec.2 i (by omega) h2 h3
  ·obtain ⟨o',d,hd⟩:=hH.head k (by omega);have hlt:d<b.tmps.size:=by rw [hF.size,hs];exact hd.lt
   have hno:∀o∈hU ops ws f (k+1),o.dst≠some d:=fun o2 ho2 he=>by
    obtain ⟨j,h1,h2,h3⟩:=pj f (k+1) ho2;exact hd.apart j (by omega) (by omega) (by rw [fo,h3];exact he)
   have one:∀w0,Bw v w0->∃x,A.tmps[d]?=some x∧YieldsIn P ops (fun w'=>∃u:Lies w0,w'=u.w) o' x b∧wpQuiet P ops (fun w'=>∃u:Lies w0,w'=u.w) (fun a'=>a'=A) (hU ops ws f (k+1)) (b.put (some d) x):=fun w0 hw0=>by
    have h1:=h w0 hw0;rw [hU,if_neg (by simpa using hkw),hd.op] at h1;have hq:qOp P ops (fun w'=>∃u:Lies w0,w'=u.w) k (wpQuiet P ops (fun w'=>∃u:Lies w0,w'=u.w) (fun a'=>a'=A) (hU ops ws f (k+1))) b:=by unfold qOp;simp only [hd.op];exact h1
    obtain ⟨x,hy,hK⟩:=yieldsIn_of_qOp hd.op hq;rw [hd.dst] at hK;exact ⟨x,by rw [<-ph _ _ hno hK,wu hlt],hy,hK⟩
   obtain ⟨x,hx,_,_⟩:=one v brf;have all:∀w0,Bw v w0->YieldsIn P ops (fun w'=>∃u:Lies w0,w'=u.w) o' x b∧wpQuiet P ops (fun w'=>∃u:Lies w0,w'=u.w) (fun a'=>a'=A) (hU ops ws f (k+1)) (b.put (some d) x):=fun w0 hw0=>by
    obtain ⟨x',hx',h1,h2⟩:=one w0 hw0;have:x'=x:=Option.some.inj (hx'.symm.trans hx);subst this;exact ⟨h1,h2⟩
   have hF':Fr ops ws z a A (fun j=>j<k+1∧j∉ws) p (b.put (some d) x):=hF.put hd hs (fun _=>hx) (fun h=>absurd h hkw) (fun _ _=>rfl) (fun j _=>by
    constructor
    ·rintro ⟨h1,h2⟩;by_cases hjk:j=k
     ·exact .inr hjk
     ·exact .inl ⟨by omega,h2⟩
    ·rintro (⟨h1,h2⟩ | rfl)
     ·exact ⟨by omega,h2⟩
     ·exact ⟨by omega,hkw⟩) (by omega)
   have hrec:=qL hH hs f (k+1) (b.put (some d) x) (by omega) hF' (fun w0 hw0=>(all w0 hw0).2);refine ⟨hrec.1,fun i h1 h2 h3=>?_⟩;by_cases hik:i=k
   ·subst hik;exact ⟨o',d,x,b,hd,hx,hF,fun w0 hw0=>(all w0 hw0).1⟩
   ·exact hrec.2 i (by omega) h2 h3
theorem uV {b b':Act} {o:Oper} (slot:∀t:Nat,t∈o.looksAt ops->b.tmps[t]?=b'.tmps[t]?) (hs1:∀cs q,o.op≠.select cs q):execOp b.eval o=execOp b'.eval o:=by
 refine execOp_congr o hs1 fun y hy=>?_;cases y with
 | tmp t=>
  have:=slot t (List.mem_append_left _ (List.mem_filterMap.2 ⟨.tmp t,by simpa using hy,rfl⟩));simp only [Act.eval,Array.getD_eq_getD_getElem?];rw [this]
 | _=>rfl
theorem yO {b b':Act} {o:Oper} (slot:∀t:Nat,t∈o.looksAt ops->b.tmps[t]?=b'.tmps[t]?):Region.wanted o (yielded ops b.tmps)=Region.wanted o (yielded ops b'.tmps):=by
 unfold Region.wanted;cases hg:o.guard with
 | none=>rfl
 | some gw=>
  obtain ⟨g,want⟩:=gw;have:yielded ops b.tmps g=yielded ops b'.tmps g:=by
   unfold yielded;cases ht:(ops[g]?).bind (·.dst) with
   | none=>rfl
   | some t=>
    have:=slot t (by simp [Oper.looksAt,hg,ht]);simp only [Option.bind_some];rw [this]
  simp only [this]
def Closed (ops:Array Oper) (listed:Array Bool):Prop:=∀j oj,ops[j]?=some oj->listed.getD j false=true->∀e∈oj.after,Region.binds .any e=true->listed.getD e.on false=true
theorem Closed.set {listed:Array Bool} {i:Nat} (h:Closed ops listed) (hi:i∈Region.ready .any ops listed):Closed ops (listed.setIfInBounds i true):=by
 obtain ⟨_,oi,hoi,hall⟩:=mem_ready.1 hi;intro j oj hj hl e he hb;by_cases hij:i=j
 ·subst hij;have:oj=oi:=Option.some.inj (hj.symm.trans hoi);subst this;exact getD_set_true (hall e he hb)
 ·rw [getD_set_ne false hij] at hl;exact getD_set_true (h j oj hj hl e he hb)
theorem gL {listed:Array Bool} {i j:Nat} (hi:i∈Region.ready .any ops listed) (hw:Region.waitsFor .any ops i j=true):listed.getD j false=true:=by
 obtain ⟨_,oi,hoi,hall⟩:=mem_ready.1 hi;obtain ⟨o,ho,e,he,hb,hon⟩:=Region.waitsFor_spec hw;have:o=oi:=Option.some.inj (ho.symm.trans hoi);subst this;rw [<-hon];exact hall e he hb
theorem qg {listed:Array Bool} {i j:Nat} (hc:Closed ops listed) (hi:listed.getD i false=true) (hw:Region.waitsFor .any ops i j=true):listed.getD j false=true:=by
 obtain ⟨o,ho,e,he,hb,hon⟩:=Region.waitsFor_spec hw;rw [<-hon];exact hc i o ho hi e he hb
theorem wy {ws:List Nat} {z s:Nat} {listed:Array Bool} (hH:Heads ops ws z s) (hc:Closed ops listed) (hz:z∈Region.ready .any ops listed):∀(k i:Nat),z-i=k->i<z->listed.getD i false=true:=by
 intro k
 induction k using Nat.strongRecOn with
 | _ k ih=>
  intro i hk hi;obtain ⟨o,d,hd⟩:=hH.head i hi;obtain ⟨j,h1,h2,h4⟩:=hd.sink;by_cases hjn:j<z
  ·exact qg hc (ih (z-j) (by omega) j rfl hjn) h4
  ·have h:j=z:=by omega
   subst h;exact gL hz h4
theorem tC (hE:tB ops=true) {listed:Array Bool} {i:Nat} (hi:i<ops.size) (hl:listed.getD i true=false) (hs:listed.size=ops.size):Region.ready .any ops listed≠[]:=by
 have main:∀(k i:Nat),i=k->i<ops.size->listed.getD i true=false->∃j,j∈Region.ready .any ops listed:=by
  intro k
  induction k using Nat.strongRecOn with
  | _ k ih=>
   intro i hik hi hl;by_cases hall:∀e∈(ops[i]'hi).after,Region.binds .any e=true->listed.getD e.on false=true
   ·exact ⟨i,mem_ready.2 ⟨hl,_,Array.getElem?_eq_getElem hi,hall⟩⟩
   ·have ⟨e,he,hb,hn⟩:∃e,e∈(ops[i]'hi).after∧Region.binds .any e=true∧¬listed.getD e.on false=true:=by
     apply Classical.byContradiction;intro hno;exact hall fun e he hb=>Classical.byContradiction fun h=>hno ⟨e,he,hb,h⟩
    have hlt:=yN hE (Array.getElem?_eq_getElem hi) he hb;refine ih e.on (by omega) e.on rfl (by omega) ?_;have:e.on<listed.size:=by omega
    simp [this] at hn |-;exact hn
 obtain ⟨j,hj⟩:=main i i rfl hi hl;intro h0;rw [h0] at hj;cases hj
def unl (ops:Array Oper) (listed:Array Bool):Nat:=(List.range ops.size).countP fun j=>!listed.getD j true
theorem uW {p q:Nat->Bool}:∀{l:List Nat} {i:Nat},(∀x,q x=true->p x=true)->i∈l->p i=true->q i=false->l.countP q<l.countP p
 | x::l,i,h,hi,hp,hq=>by
  have hle:l.countP q<=l.countP p:=List.countP_mono_left fun x _=>h x;rw [List.countP_cons,List.countP_cons];rcases List.mem_cons.1 hi with rfl | hi
  ·simp only [hp,hq];simp;omega
  ·have:=uW h hi hp hq;have h2:(if q x=true then 1 else 0)<=(if p x=true then 1 else 0):=by
    by_cases hx:q x=true
    ·simp [hx,h x hx]
    ·simp [hx]
   omega
theorem EP {listed:Array Bool} {i:Nat} (hi:i∈Region.ready .any ops listed) (hs:listed.size=ops.size):unl ops (listed.setIfInBounds i true)<unl ops listed:=by
 obtain ⟨h0,oi,hoi,_⟩:=mem_ready.1 hi;have hlt:=(hpl hoi);refine uW (i:=i) (fun x hx=>?_) (List.mem_range.2 hlt) (by rw [h0];rfl) ?_
 ·by_cases hix:i=x
  ·subst hix;simp [hs,hlt] at hx
  ·rwa [getD_set_ne true hix] at hx
 ·simp [hs,hlt]
theorem DG {Q:Exit->Act->World->Prop} {listed:Array Bool} {a:Act} {w:World} (h:∀j,j<ops.size->listed.getD j true=true) (hQ:Q .normal a w):∀fuel,wpAny P .any ops Q fuel listed a w:=by
 have hr:Region.ready .any ops listed=[]:=by
  cases hh:Region.ready .any ops listed with
  | nil=>rfl
  | cons x l=>
   have hx:x∈Region.ready .any ops listed:=by rw [hh];exact List.mem_cons_self ..
   obtain ⟨h0,o,ho,_⟩:=mem_ready.1 hx;rw [h x (hpl ho)] at h0;cases h0
 intro fuel;cases fuel with
 | zero=>exact ⟨hr,hQ⟩
 | succ f=>exact ⟨fun _=>hQ,fun i hi=>by rw [hr] at hi;cases hi⟩
theorem nv {listed:Array Bool} {i:Nat} (h:listed.getD i true=false):listed.getD i false=false:=by
 rcases Nat.lt_or_ge i listed.size with h' | h'
 ·simp [h'] at h |-;exact h
 ·simp [Array.getElem?_eq_none h'] at h
theorem AB {listed:Array Bool} {i:Nat} (h:listed.getD i false=true):listed.getD i true=true:=by
 rcases Nat.lt_or_ge i listed.size with h' | h'
 ·simp [h'] at h |-;exact h
 ·simp [Array.getElem?_eq_none h'] at h
theorem po {listed:Array Bool} {i:Nat} (hs:i<listed.size):(listed.setIfInBounds i true).getD i false=true:=by
 simp [hs]
def lm (ops:Array Oper) (p:Nat->Value):List Nat->Act->Act
 | [],A=>A
 | c::ws,A=>lm ops p ws (A.put (fo ops c) (p c))
theorem ny {p:Nat->Value}:∀(ws:List Nat) (A:Act),(lm ops p ws A).defers=A.defers∧(lm ops p ws A).tmps.size=A.tmps.size∧∀d,(∀c∈ws,fo ops c≠some d)->(lm ops p ws A).tmps[d]?=A.tmps[d]?
 | [],A=>⟨rfl,rfl,fun _ _=>rfl⟩
 | c::ws,A=>by
  obtain ⟨h1,h2,h3⟩:=ny ws (A.put (fo ops c) (p c));refine ⟨h1.trans (by cases fo ops c <;> rfl),h2.trans (by cases fo ops c <;> simp [Act.put]),fun d hd=>?_⟩;rw [lm,h3 d fun c' hc'=>hd c' (List.mem_cons_of_mem _ hc'),nu (hd c (List.mem_cons_self ..))]
theorem wA {p:Nat->Value} {c d:Nat}:∀(ws:List Nat) (A:Act),c∈ws->fo ops c=some d->d<A.tmps.size->(∀c'∈ws,fo ops c'=some d->c'=c)->(lm ops p ws A).tmps[d]?=some (p c)
 | c'::ws,A,hc,hd,hlt,hu=>by
  by_cases hin:c∈ws
  ·exact wA ws _ hin hd (by cases fo ops c' <;> simpa [Act.put] using hlt) (fun c2 h2=>hu c2 (List.mem_cons_of_mem _ h2))
  ·have hcc:=(List.mem_cons.1 hc).resolve_right hin;subst hcc;rw [lm,(ny ws _).2.2 d fun c2 h2 he=>hin (by rw [<-hu c2 (List.mem_cons_of_mem _ h2) he];exact h2),hd];exact wu hlt
def WildAt (P:Program) (o:Oper) (a:Act) (w:World) (K:Value->World->Prop):Prop:=
 (∃x w',(execOp a.eval o).run P w=.ok (.value x) w'∧K x w')∨(∃f args,(execOp a.eval o).run P w=.ok (.enter f args) w∧Calls P f args w fun e w'=>∃x,e=.returned x∧K x w')
theorem WildAt.wp {Q:Exit->Act->World->Prop} {o:Oper} {a b:Act} {w:World} {K:Value->World->Prop} {K':Act->World->Prop} (h:WildAt P o a w K) (he:execOp b.eval o=execOp a.eval o) (hK:∀x w',K x w'->K' (b.put o.dst x) w'):o.wp P b w K' Q:=by
 unfold Oper.wp;rw [he];rcases h with ⟨x,w',h1,h2⟩ | ⟨f,args,h1,h2⟩
 ·rw [h1];exact hK x w' h2
 ·rw [h1];refine h2.mono ?_;rintro e w' ⟨x,rfl,hx⟩;exact hK x w' hx
theorem DH {Q:Exit->Act->World->Prop} {z:Nat} (hch:∀k,z<=k->k+1<ops.size->Region.waitsFor .any ops (k+1) k=true):∀(n k:Nat) (listed:Array Bool) (b:Act) (w:World),n=ops.size-k->z<=k->k<=ops.size->tB ops=true->listed.size=ops.size->(∀j,j<k->listed.getD j false=true)->(∀j,k<=j->j<ops.size->listed.getD j true=false)->
 wpList P ops Q (ops.toList.drop k) b w->∀fuel,n<=fuel->wpAny P .any ops Q fuel listed b w:=by
 intro n
 induction n with
 | zero=>
  intro k listed b w hn hz hk hE hs hl hu h fuel _;have hk':ops.toList.drop k=[]:=by rw [List.drop_eq_nil_iff];simp;omega
  rw [hk'] at h;exact DG (fun j hj=>AB (hl j (by omega))) h fuel
 | succ n ih=>
  intro k listed b w hn hz hk hE hs hl hu h fuel hf;have hklt:k<ops.size:=by omega
  obtain ⟨ok,hok⟩:∃o,ops[k]?=some o:=⟨_,Array.getElem?_eq_getElem hklt⟩;have hd:ops.toList.drop k=ok::ops.toList.drop (k+1):=by
   rw [List.drop_eq_getElem_cons (by simpa using hklt)];congr 1;have:=Array.getElem?_eq_getElem hklt;rw [hok] at this;simpa using (Option.some.inj this).symm
  rw [hd] at h;cases fuel with
  | zero=>omega
  | succ fuel=>
   refine ⟨fun h0=>absurd h0 (tC hE hklt (hu k nle hklt) hs),fun i hi=>?_⟩;obtain ⟨hli,oi,hoi,_⟩:=mem_ready.1 hi;have hilt:=(hpl hoi);have hik:i=k:=by
    rcases Nat.lt_trichotomy i k with hlt | heq | hgt
    ·rw [AB (hl i hlt)] at hli;cases hli
    ·exact heq
    ·have h1:=gL hi (show Region.waitsFor .any ops i (i-1)=true by
      have:=hch (i-1) (by omega) (by omega);rwa [show i-1+1=i by omega] at this)
     have h2:=nv (hu (i-1) (by omega) (by omega));rw [h1] at h2;cases h2
   subst hik;have h3:wpOp P ops Q i (fun a' w'=>wpList P ops Q (ops.toList.drop (i+1)) a' w') b w:=by
    unfold wpOp;simp only [hok];exact h
   refine wpOp_mono (fun a' w' hq=>ih (i+1) _ a' w' (by omega) (by omega) (by omega) hE (by simpa using hs) (fun j hj=>?_) (fun j hj hj'=>?_) hq fuel (by omega)) h3
   ·by_cases hij:i=j
    ·subst hij;exact po (by omega)
    ·rw [getD_set_ne false hij];exact hl j (by omega)
   ·rw [getD_set_ne true (by omega)];exact hu j (by omega) hj'
theorem DI {Q:Exit->Act->World->Prop} {ws:List Nat} {z s:Nat} {v:World} {a A:Act} {p0:Nat->Value} {G:(Nat->Bool)->(Nat->Value)->World->Prop} (hH:Heads ops ws z s) (hws:∀c∈ws,c<z) (hs:a.tmps.size=s)
 (hA:Fr ops ws z a A (fun j=>j<z∧j∉ws) p0 A) (hL:∀i,i<z->i∉ws->∃o d x b',Head ops ws z s i o d∧A.tmps[d]?=some x∧Fr ops ws z a A (fun j=>j<i∧j∉ws) p0 b'∧∀w0,Bw v w0->YieldsIn P ops (fun w'=>∃u:Lies w0,w'=u.w) o x b')
 (hGk:∀S p w w',G S p w->Bw w w'->G S p w') (hGb:∀S p w,G S p w->Bw v w) (hGs:∀S S' p p' w,(∀c∈ws,S' c=S c∧(S c=true->p' c=p c))->G S p w->G S' p' w)
 (hW:∀c∈ws,∀o,ops[c]?=some o->∀S p w,G S p w->S c=false->(∀j∈ws,Region.waitsFor .any ops c j=true->S j=true)->WildAt P o (lm ops p ws A) w fun x w'=>G (fun j=>j == c || S j) (fun j=>if j=c then x else p j) w')
 (hQ:∀S p w,(∀c∈ws,S c=true)->G S p w->wpList P ops Q (ops.toList.drop z) (lm ops p ws A) w):∀(fuel:Nat) (listed:Array Bool) (b:Act) (p:Nat->Value) (w:World),unl ops listed<=fuel->listed.size=ops.size->Closed ops listed->(∀j,z<=j->j<ops.size->listed.getD j true=false)->
  Fr ops ws z a A (fun j=>listed.getD j false=true) p b->G (fun j=>listed.getD j false) p w->wpAny P .any ops Q fuel listed b w:=by
 have hz:=hH.size;have full:∀(listed:Array Bool) (b:Act) (p:Nat->Value) (o:Oper) (i:Nat),ops[i]?=some o->(∀j,j<z->∀t,fo ops j=some t->t∈o.looksAt ops->listed.getD j false=true)->Fr ops ws z a A (fun j=>listed.getD j false=true) p b->∀t:Nat,t∈o.looksAt ops->b.tmps[t]?=(lm ops p ws A).tmps[t]?:=by
  intro listed b p o i ho hl hF t ht;obtain ⟨_,k2,k3⟩:=ny (ops:=ops) (p:=p) ws A;by_cases hj:∃j,j<z∧fo ops j=some t
  ·obtain ⟨j,hj,hd⟩:=hj;obtain ⟨oj,dj,hdj⟩:=hH.head j hj;have hdt:=Option.some.inj (hdj.is.symm.trans hd);subst hdt;by_cases hjw:j∈ws
   ·rw [hF.wild dj j hj (hl j hj dj hd ht) hjw hd,wA ws A hjw hd (by rw [hA.size,hs];exact hdj.lt) (fun c' hc' he=>Classical.byContradiction fun hne=>hdj.apart c' (hws c' hc') hne he)]
   ·rw [hF.new dj j hj (hl j hj dj hd ht) hjw hd,k3 dj fun c hc he=>hdj.apart c (hws c hc) (fun hcj=>hjw (hcj ▸ hc)) he]
  ·have:∀j,j<z->fo ops j≠some t:=fun j h1 h2=>hj ⟨j,h1,h2⟩;rw [hF.old t fun j h1 _=>this j h1,k3 t fun c hc=>this c (hws c hc),hA.old t fun j h1 _=>this j h1]
 intro fuel
 induction fuel with
 | zero=>
  intro listed b p w hf hls hc hn hF hG;have:0<unl ops listed:=List.countP_pos_iff.2 ⟨z,List.mem_range.2 (by omega),by rw [hn z nle hz];rfl⟩;omega
 | succ fuel ih=>
  intro listed b p w hf hls hc hn hF hG;have set_at:∀i,i<z->i∈Region.ready .any ops listed->(∀j,j<z->((listed.setIfInBounds i true).getD j false=true↔listed.getD j false=true∨j=i)):=fun i hi hr j hj=>by
   by_cases hij:i=j
   ·subst hij;simp [po (listed:=listed) (i:=i) (by omega)]
   ·rw [getD_set_ne false hij];exact ⟨.inl,fun h=>h.resolve_right (Ne.symm hij)⟩
  have step:∀i∈Region.ready .any ops listed,wpOp P ops Q i (wpAny P .any ops Q fuel (listed.setIfInBounds i true)) b w:=fun i hi=>by
   have hun:=EP hi hls;obtain ⟨hli,oi,hoi,_⟩:=mem_ready.1 hi;have hlt:=(hpl hoi);by_cases hin:i<z
   ·by_cases hiw:i∈ws
    ·obtain ⟨o,d,hd⟩:=hH.head i hin;have ho:=Option.some.inj (hoi.symm.trans hd.op);subst ho;have slots:=full listed b p oi i hoi (fun j hj t hdt ht=>gL hi (hd.looks j t hj hdt ht).2.1) hF;have hw:=hW i hiw oi hoi _ p w hG (nv hli) (fun j hj hwt=>gL hi hwt);unfold wpOp;simp only [hoi];rw [if_pos (by simp [Region.wanted,hd.guard hiw])];refine .inl (hw.wp (uV slots fun cs q=>Region.noSelect_spec hH.sel i oi cs q hoi) fun x w' hG'=>?_);rw [hd.dst];refine ih _ _ (fun j=>if j=i then x else p j) w' (by omega) (by simpa using hls) (hc.set hi) (fun j hj hj'=>by rw [getD_set_ne true (by omega)];exact hn j hj hj') (hF.put hd hs (fun h=>absurd hiw h) (fun _=>by simp) (fun j hj=>by simp [hj]) (set_at i hin hi) hin) ?_;refine hGs _ _ _ _ _ (fun c hcw=>⟨?_,fun _=>rfl⟩) hG';by_cases hci:c=i
     ·subst hci;simp [po (listed:=listed) (i:=c) (by omega)]
     ·rw [getD_set_ne false (Ne.symm hci)];simp [hci]
    ·obtain ⟨o,d,x,b',hd,hx,hF',hy⟩:=hL i hin hiw;have slot:∀t:Nat,t∈o.looksAt ops->b.tmps[t]?=b'.tmps[t]?:=fun t ht=>by
      by_cases hj:∃j,j<z∧fo ops j=some t
      ·obtain ⟨j,hj,hdt⟩:=hj;obtain ⟨h1,h2,h3⟩:=hd.looks j t hj hdt ht;have h4:=h3.resolve_left hiw;rw [hF.new t j hj (gL hi h2) h4 hdt,hF'.new t j hj ⟨h1,h4⟩ h4 hdt]
      ·have:∀j,j<z->fo ops j≠some t:=fun j h1 h2=>hj ⟨j,h1,h2⟩;rw [hF.old t fun j h1 _=>this j h1,hF'.old t fun j h1 _=>this j h1]
     have hyy:=(hy w (hGb _ _ _ hG)).of_same (uV slot fun cs q=>Region.noSelect_spec hH.sel i o cs q hd.op) (yO slot);have hq:=YieldsIn.qOp (K:=fun a'=>a'=b.put o.dst x) hd.op hyy rfl;refine wpOp_of_qOp (C:=fun w'=>∃u:Lies w,w'=u.w) ⟨⟨w,brf⟩,rfl⟩ (fun a' w' hw' ha'=>?_) hq;obtain ⟨u,rfl⟩:=hw';rw [ha',hd.dst];refine ih _ _ p u.w (by omega) (by simpa using hls) (hc.set hi) (fun j hj hj'=>by rw [getD_set_ne true (by omega)];exact hn j hj hj') (hF.put hd hs (fun _=>hx) (fun h=>absurd h hiw) (fun _ _=>rfl) (set_at i hin hi) hin) ?_;refine hGs _ _ _ _ _ (fun c hcw=>⟨?_,fun _=>rfl⟩) (hGk _ _ _ _ hG u.h);rw [getD_set_ne false (show i≠c from fun hic=>hiw (hic ▸ hcw))]
   ·have hiz:i=z:=by
     by_cases hgt:z<i
     ·have h1:=gL hi (show Region.waitsFor .any ops i (i-1)=true by
       have:=hH.chain (i-1) (by omega) (by omega);rwa [show i-1+1=i by omega] at this)
      have h2:=nv (hn (i-1) (by omega) (by omega));rw [h1] at h2;cases h2
     ·omega
    subst hiz;have hall:=fun j (hj:j<i)=>wy hH hc hi _ j rfl hj;have hb:b=lm ops p ws A:=by
     obtain ⟨k1,k2,k3⟩:=ny (ops:=ops) (p:=p) ws A;have ht:b.tmps=(lm ops p ws A).tmps:=by
      apply Array.ext_getElem?;intro t;by_cases hj:∃j,j<i∧fo ops j=some t
      ·obtain ⟨j,hj,hd⟩:=hj;obtain ⟨oj,dj,hdj⟩:=hH.head j hj;have hdt:=Option.some.inj (hdj.is.symm.trans hd);subst hdt;by_cases hjw:j∈ws
       ·rw [hF.wild dj j hj (hall j hj) hjw hd,wA ws A hjw hd (by rw [hA.size,hs];exact hdj.lt) (fun c' hc' he=>Classical.byContradiction fun hne=>hdj.apart c' (hws c' hc') hne he)]
       ·rw [hF.new dj j hj (hall j hj) hjw hd,k3 dj fun c hc he=>hdj.apart c (hws c hc) (fun hcj=>hjw (hcj ▸ hc)) he]
      ·have:∀j,j<i->fo ops j≠some t:=fun j h1 h2=>hj ⟨j,h1,h2⟩;rw [hF.old t fun j h1 _=>this j h1,k3 t fun c hc=>this c (hws c hc),hA.old t fun j h1 _=>this j h1]
     have hd:=hF.defers.trans (hA.defers.symm.trans k1.symm);generalize lm ops p ws A=B at ht hd;cases b;cases B
     simp_all
    have h2:=hQ (fun j=>listed.getD j false) p w (fun c hcw=>hall c (hws c hcw)) hG;rw [<-hb] at h2;have htl:=DH (P:=P) (Q:=Q) hH.chain (ops.size-i) i listed b w rfl nle (by omega) hH.edges hls hall hn h2 (fuel+1) (by
     have hcount:ops.size-i<=unl ops listed:=by
      have:(List.range' i (ops.size-i)).countP (fun j=>!listed.getD j true)<=(List.range ops.size).countP (fun j=>!listed.getD j true):=by
       refine List.Sublist.countP_le ?_;rw [List.range_eq_range'];have e:List.range' 0 ops.size=List.range' 0 i++List.range' i (ops.size-i):=by
        have h6:=List.range'_append_1 (s:=0) (m:=i) (n:=ops.size-i);rw [Nat.zero_add,show i+(ops.size-i)=ops.size by omega] at h6;exact h6.symm
       rw [e];exact List.sublist_append_right _ _
      have h5:(List.range' i (ops.size-i)).countP (fun j=>!listed.getD j true)=ops.size-i:=by
       rw [List.countP_eq_length.2]
       ·simp
       ·intro j hj;rw [List.mem_range'_1] at hj;rw [hn j hj.1 (by omega)];rfl
      unfold unl;omega
     omega)
    exact htl.2 i hi
  exact ⟨fun h0=>absurd h0 (tC hH.edges hz (hn z nle hz) hls),step⟩
theorem yP:Closed ops (Array.replicate ops.size false):=fun j oj _ hl=>by
 have:(Array.replicate ops.size false).getD j false=false:=by
  rcases Nat.lt_or_ge j ops.size with h | h
  ·simp [h]
  ·simp [h]
 rw [this] at hl;cases hl
theorem AC {ws:List Nat} {z:Nat} {a A:Act} {S:Nat->Prop} {p:Nat->Value} (hS:∀j,j<z->¬S j):Fr ops ws z a A S p a:=
 ⟨rfl,rfl,fun _ _=>rfl,fun _ j hj hj2=>absurd hj2 (hS j hj),fun _ j hj hj2=>absurd hj2 (hS j hj)⟩
theorem oB (m j:Nat):(Array.replicate m false).getD j false=false:=by
 rcases Nat.lt_or_ge j m with h | h
 ·simp [h]
 ·simp [h]
theorem FJ (listed:Array Bool):unl ops listed<=ops.size:=by
 have:=List.countP_le_length (p:=fun j=>!listed.getD j true) (l:=List.range ops.size);simpa [unl] using this
theorem rC {id:Nat} {Q:Exit->Act->World->Prop} {a:Act} {w:World} {l:List Oper} (ws:List Nat) (z:Nat) (A:Act) (T:List Oper) (G:(Nat->Bool)->(Nat->Value)->World->Prop) (hm:P.follows .mixedOrders=true) (hB:uU l.toArray ws z a.tmps.size=true) (hws:ws.all (fun c=>decide (c<z))=true) (hT:l.drop z=T)
 (h:∀w0,Bw w w0->wpQuiet P l.toArray (fun w'=>∃u:Lies w0,w'=u.w) (fun a'=>a'=A) (hU l.toArray ws z 0) a)
 (hG0:G (fun _=>false) (fun _=>undef) w.drew) (hGk:∀S p w w',G S p w->Bw w w'->G S p w') (hGb:∀S p w',G S p w'->Bw w w') (hGs:∀S S' p p' w,(∀c∈ws,S' c=S c∧(S c=true->p' c=p c))->G S p w->G S' p' w)
 (hW:∀c∈ws,∀o,l[c]?=some o->∀S p w',G S p w'->S c=false->(∀j∈ws,Region.waitsFor .any l.toArray c j=true->S j=true)->WildAt P o (lm l.toArray p ws A) w' fun x w''=>G (fun j=>j == c || S j) (fun j=>if j=c then x else p j) w'')
 (hQ:∀S p w',(∀c∈ws,S c=true)->G S p w'->wpList P l.toArray Q T (lm l.toArray p ws A) w'):(Code.region id l.toArray true).wp P Q a w:=by
 have hH:=zT hB;have hws':∀c∈ws,c<z:=fun c hc=>by simpa using List.all_eq_true.1 hws c hc
 have hx:=qL (v:=w.drew) (P:=P) (ops:=l.toArray) (p:=fun _=>undef) hH rfl z 0 a (by omega) (AC fun j _ h=>by omega) (fun w0 hw0=>h w0 (Below.trans ((brf).drew) hw0));refine wp_region_any hm ?_;have hz:=hH.size;refine DI (P:=P) (Q:=Q) (v:=w.drew) (G:=G) hH hws' rfl hx.1 (fun i hi hw=>hx.2 i (Nat.zero_le _) hi hw) hGk (fun S p w' hg=>?_) hGs (fun c hc o ho=>hW c hc o (by simpa using ho)) (fun S p w' h1 h2=>by rw [show l.toArray.toList.drop z=T from hT];exact hQ S p w' h1 h2) _ _ a (fun _=>undef) _ (FJ _) (by simp) yP ?_ (AC fun j _ hj=>by rw [oB] at hj;cases hj) ?_
 ·have hb:=hGb S p w' hg;exact ⟨hb.os,hb.tape,hb.output,hb.size,hb.block⟩
 ·intro j _ hj;simp only [List.size_toArray] at hj |-;simp [hj]
 ·refine hGs _ _ _ _ _ (fun c _=>⟨oB _ _,fun h=>rfl⟩) hG0
theorem tE {id:Nat} {Q:Exit->Act->World->Prop} {a:Act} {w:World} {l:List Oper} (ws:List Nat) (z:Nat) (A:Act) (oS:Oper) (G:(Nat->Bool)->(Nat->Value)->World->Prop) (hm:P.follows .mixedOrders=true) (hB:uU l.toArray ws z a.tmps.size=true) (hws:ws.all (fun c=>decide (c<z))=true) (hoS:l.drop z=[oS])
 (h:∀w0,Bw w w0->wpQuiet P l.toArray (fun w'=>∃u:Lies w0,w'=u.w) (fun a'=>a'=A) (hU l.toArray ws z 0) a)
 (hG0:G (fun _=>false) (fun _=>undef) w.drew) (hGk:∀S p w w',G S p w->Bw w w'->G S p w') (hGb:∀S p w',G S p w'->Bw w w') (hGs:∀S S' p p' w,(∀c∈ws,S' c=S c∧(S c=true->p' c=p c))->G S p w->G S' p' w)
 (hW:∀c∈ws,∀o,l[c]?=some o->∀S p w',G S p w'->S c=false->(∀j∈ws,Region.waitsFor .any l.toArray c j=true->S j=true)->WildAt P o (lm l.toArray p ws A) w' fun x w''=>G (fun j=>j == c || S j) (fun j=>if j=c then x else p j) w'')
 (hQ:∀S p w',(∀c∈ws,S c=true)->G S p w'->wpList P l.toArray Q [oS] (lm l.toArray p ws A) w'):(Code.region id l.toArray true).wp P Q a w:=by
 refine rC ws z A (l.drop z) G hm hB hws rfl h hG0 hGk hGb hGs hW (fun S p w' h1 h2=>?_);rw [show l.drop z=[oS] from hoS];exact hQ S p w' h1 h2
theorem gU {id:Nat} {Q:Exit->Act->World->Prop} {a:Act} {w:World} {l:List Oper} (c z g d:Nat) (A:Act) (oC oS:Oper) (R:Value->World->Prop) (hm:P.follows .mixedOrders=true) (hB:uU l.toArray [c] z a.tmps.size=true) (hcz:decide (c<z)=true) (hoC:l[c]?=some oC) (hoS:l.drop z=[oS]) (hd:oC.dst=some d) (hq:hU l.toArray [c] z 0=l.take c++(l.drop (c+1)).take g)
 (h:∀w0,Bw w w0->wpQuiet P l.toArray (fun w'=>∃u:Lies w0,w'=u.w) (fun a'=>a'=A) (l.take c++(l.drop (c+1)).take g) a)
 (hR:∀x w1 w2,R x w1->Bw w1 w2->R x w2)
 (hC:∀y w',Bw w w'->WildAt P oC (A.put (some d) y) w' fun x w''=>R x w''∧Bw w' w'')
 (hQ:∀x w',Bw w w'->R x w'->wpList P l.toArray Q [oS] (A.put (some d) x) w'):(Code.region id l.toArray true).wp P Q a w:=by
 have hdd:fo l.toArray c=some d:=by
  rw [fo,show l.toArray[c]?=some oC by simpa using hoC];exact hd
 refine tE [c] z A oS (fun S p w'=>Bw w w'∧(S c=true->R (p c) w')) hm hB (by simpa using hcz) hoS (by rw [hq];exact h) ⟨(brf).drew,fun hh=>by cases hh⟩ (fun S p w1 w2 hg hb=>⟨bst hg.1 hb,fun hS=>hR _ _ _ (hg.2 hS) hb⟩) (fun S p w' hg=>hg.1) (fun S S' p p' w' hss hg=>?_) (fun c' hc' o ho S p w' hg hS hw=>?_) (fun S p w' hS hg=>?_)
 ·obtain ⟨h1,h2⟩:=hss c (by simp);exact ⟨hg.1,fun h3=>by rw [h1] at h3;rw [h2 h3];exact hg.2 h3⟩
 ·have:c'=c:=by simpa using hc'
  subst this;have:o=oC:=Option.some.inj (ho.symm.trans hoC);subst this;have h1:=hC (p c') w' hg.1;simp only [lm,hdd];rcases h1 with ⟨x,w2,e1,e2,e3⟩ | ⟨f,args,e1,e2⟩
  ·exact .inl ⟨x,w2,e1,bst hg.1 e3,fun _=>by simpa using e2⟩
  ·refine .inr ⟨f,args,e1,e2.mono ?_⟩;rintro e w2 ⟨x,rfl,e2,e3⟩;exact ⟨x,rfl,bst hg.1 e3,fun _=>by simpa using e2⟩
 ·have:=hQ (p c) w' hg.1 (hg.2 (hS c (by simp)));simpa only [lm,hdd] using this
theorem jZ {id:Nat} {Q:Exit->Act->World->Prop} {a:Act} {w:World} {l:List Oper} (c d:Nat) (A:Act) (oC oS:Oper) (Z:Obj) (hm:P.follows .mixedOrders=true) (hB:uU l.toArray [c] (c+1) a.tmps.size=true) (hoC:l[c]?=some oC) (hoS:l.drop (c+1)=[oS]) (hd:oC.dst=some d)
 (hal:∀(b:Act) (w:World),(execOp b.eval oC).run P w=.ok (.value (PT w.heap.size 0)) (w.alloc Z))
 (hq:hU l.toArray [c] (c+1) 0=l.take c) (h:∀w0,Bw w w0->wpQuiet P l.toArray (fun w'=>∃u:Lies w0,w'=u.w) (fun a'=>a'=A) (l.take c) a)
 (hQ:∀pb w',w.heap.size<=pb->Bw w w'->w'.heap[pb]?=some Z->wpList P l.toArray Q [oS] (A.put (some d) (PT pb 0)) w'):(Code.region id l.toArray true).wp P Q a w:=by
 refine gU c (c+1) 0 d A oC oS (fun x w'=>∃pb,x=PT pb 0∧w.heap.size<=pb∧w'.heap[pb]?=some Z) hm hB (by simp) hoC hoS hd (by rw [hq];simp) (by simpa using h) ?_ (fun y w' hw=>?_) ?_
 ·rintro x w1 w2 ⟨pb,rfl,h1,h2⟩ hb;exact ⟨pb,rfl,h1,ag h2 hb (hpl h2)⟩
 ·exact .inl ⟨_,_,hal _ _,⟨w'.heap.size,rfl,hw.size,er w' Z⟩,(brf).alloc nle _⟩
 ·rintro x w' hw ⟨pb,rfl,h1,h2⟩;exact hQ pb w' h1 hw h2
end
theorem je (sv:Value) (zs:List Int) (va root:Int) (w:World) (hB:SrcAt w sv zs) (hv0:0<=va) (hv1:va<=18446744073709551615) (hr0:0<=root) (hr1:root<=18446744073709551615):
 Calls Tryz.prog 197 #[sv,VU root,VU va] w fun e w'=>zv w.heap.size w' e (dn zs root va)∧Bw w w':=by
 have b0:=(Below.refl w.heap.size w).alloc nle (Obj.cells #[VI 0,VU 0,SN] 312);have r0:Hid ((w.alloc (Obj.cells #[VI 0,VU 0,SN] 312)).heap[w.heap.size]?=some (.cells #[VI 0,VU 0,SN] 312 (0,0))):=er w _;have HB:=hid hB;clear hB;have hb0:0<=root%17592186044416∧root%17592186044416<17592186044416:=⟨Int.emod_nonneg _ (by omega),Int.emod_lt_of_pos _ (by omega)⟩;have HM:=hid (eX 44 root 17592186044415 rfl (by omega) hr0 hr1);unfold dn;cases hcn:dC va
 ·rw [if_pos rfl];have HC:=hid hcn;clear hcn;go_enter Tryz.func197,Tryz.ntmps197;go_wp2_with fail;generalize w.alloc (Obj.cells #[VI 0,VU 0,SN] 312)=v1 at b0 r0 |-;refine (jg va v1 hv0 hv1).mono ?_;rintro e v2 ⟨rfl,rfl⟩;rw [HC.out];obtain ⟨⟨d0,d1,d2⟩,f0,f1,f2⟩:=aA r0.out;go_wp2_with fail;refine bodyPost_ret (v:=.tuple #[.agg #[VI 2,VU 0,SN],.iface 288 (.agg #[])]) (by simp [results,Tryz.results197,go_sem,d0,d1,d2]) rfl ?_;exact ⟨⟨none,0,rfl,World.ownsRow_nil _ _ _ _⟩,gQ b0 nle _ _ _⟩
 ·rw [if_neg (by simp)];have HC:=hid hcn;clear hcn;obtain ⟨X,hX⟩:∃X,cQ zs va 2 (root%17592186044416)=X:=⟨_,rfl⟩;have HX:=hid hX;rw [hX];clear hX;go_enter Tryz.func197,Tryz.ntmps197;go_wp2_with fail;have l1:w.heap.size<(w.alloc (Obj.cells #[VI 0,VU 0,SN] 312)).heap.size:=by simp
  generalize w.alloc (Obj.cells #[VI 0,VU 0,SN] 312)=v1 at b0 r0 l1 |-;refine (jg va v1 hv0 hv1).mono ?_;rintro e v2 ⟨rfl,rfl⟩;rw [HC.out];go_wp2_with fail;refine (dB 44 17592186044415 _ (by omega)).mono ?_;rintro e v3 ⟨rfl,rfl⟩;go_wp2_with fail;rw [HM.out];refine (pO sv zs va (root%17592186044416) 2 v3 (HB.out.keep b0) (by omega) hv0 hv1 hb0.1 hb0.2).mono ?_;rintro e v4 ⟨hw,n4⟩;rw [HX.out] at hw;obtain ⟨ra,rc,rfl,o4⟩:=hw;obtain ⟨x1,x2,x3,rs⟩:=X;simp only at o4 |-;have HO:=hid o4;clear o4;have r4:=hid (ag r0.out n4 l1);have b4:=bst b0 n4;obtain ⟨⟨d0,d1,d2⟩,f0,f1,f2⟩:=aA r4.out;obtain ⟨fv,hfv⟩:∃fv,cM x1=fv:=⟨_,rfl⟩;have HF:=hid hfv;rw [hfv];clear hfv;go_wp2_with fail;refine bodyPost_ret (v:=.tuple #[.agg #[VI x2,VU x3,.slice ra rs.length rc],fv]) (by simp [results,Tryz.results197,go_sem,d0,d1,d2]) rfl ?_;exact ⟨⟨ra,rc,by rw [HF.out],aJ (aG HO.out (gb3 _ w.heap.size _ _ _) l1) (by omega)⟩,gQ b4 nle _ _ _⟩
section
attribute [local go_sem ↓] Go.wp_at_zero Go.wp_at_succ
def TransOwn (base:Nat) (w:World) (v:Value) (r:(Int × Int) × KM):Prop:=
 ∃s1 s2 s3,v=.agg #[VI r.1.1,VU r.1.2,VI r.2.i.sets,VI r.2.i.ways,s1,VI r.2.d.sets,VI r.2.d.ways,s2,VI r.2.p.sets,VI r.2.p.ways,s3]∧
  w.ownsRow base 127 6 s1 r.2.i.es.length (aO r.2.i.es)∧w.ownsRow base 127 6 s2 r.2.d.es.length (aO r.2.d.es)∧w.ownsRow base 127 6 s3 r.2.p.es.length (aO r.2.p.es)
theorem cY {v:World} {p:Nat} {T:TypeId} {a b c d e f g h i j k:Value} (hh:v.heap[p]?=some (.cells #[a,b,c,d,e,f,g,h,i,j,k] T (0,0))):
 v.cell? (AD p 0)=some a∧v.cell? (AD p 1)=some b∧v.cell? (AD p 2)=some c∧v.cell? (AD p 3)=some d∧v.cell? (AD p 4)=some e∧v.cell? (AD p 5)=some f∧v.cell? (AD p 6)=some g∧v.cell? (AD p 7)=some h∧v.cell? (AD p 8)=some i∧v.cell? (AD p 9)=some j∧v.cell? (AD p 10)=some k:=by
 simp [World.cell?,hh]
theorem dS {v:World} {p:Nat} {T:TypeId} {xs:Array Value} (hh:v.heap[p]?=some (.cells xs T (0,0))) (i:Nat):v.frozen? (AD p i)=false:=by
 simp [World.frozen?,hh]
theorem rU {B:Nat} {a w:World} {g:Nat} (h:Below B a w) (hg:B<=g) (x0 x1 x2 x3 x4 x5 x6 x7 x8 x9 x10:Value):Below B a (((((((((((w.setCell (AD g 0) x0).setCell (AD g 1) x1).setCell (AD g 2) x2).setCell (AD g 3) x3).setCell (AD g 4) x4).setCell (AD g 5) x5).setCell (AD g 6) x6).setCell (AD g 7) x7).setCell (AD g 8) x8).setCell (AD g 9) x9).setCell (AD g 10) x10):=
 (((((((((((h.setCell (p:=(AD g 0)) hg x0).setCell (p:=(AD g 1)) hg x1).setCell (p:=(AD g 2)) hg x2).setCell (p:=(AD g 3)) hg x3).setCell (p:=(AD g 4)) hg x4).setCell (p:=(AD g 5)) hg x5).setCell (p:=(AD g 6)) hg x6).setCell (p:=(AD g 7)) hg x7).setCell (p:=(AD g 8)) hg x8).setCell (p:=(AD g 9)) hg x9).setCell (p:=(AD g 10)) hg x10)
theorem rV (w:World) (g:Nat) (x0 x1 x2 x3 x4 x5 x6 x7 x8 x9 x10:Value):w.grownBy (((((((((((w.setCell (AD g 0) x0).setCell (AD g 1) x1).setCell (AD g 2) x2).setCell (AD g 3) x3).setCell (AD g 4) x4).setCell (AD g 5) x5).setCell (AD g 6) x6).setCell (AD g 7) x7).setCell (AD g 8) x8).setCell (AD g 9) x9).setCell (AD g 10) x10) (some g):=
 (aq (aq (aq (aq (aq (aq (aq (aq (aq (aq (aq (aw w (some g)) 0 x0) 1 x1) 2 x2) 3 x3) 4 x4) 5 x5) 6 x6) 7 x7) 8 x8) 9 x9) 10 x10)
theorem rW (base:Nat) (w:World):w.ownsRow base 127 6 (SN) 0 []:=⟨rfl,.inl ⟨rfl,rfl⟩⟩
theorem tL (a:Option Addr) (len cap:Nat) (mode:Int) (sum mxr:Bool) (satp:Int) (v:Value) (k:KM) (kind va pick:Int) (w:World) (h:KAt w v k)
 (hbad:bJ k=false∨kind<0∨2<kind∨mode<0∨2<mode∨pick<0∨255<pick):
 Calls Tryz.prog 125 #[.slice a len cap,et mode sum mxr satp,v,VI kind,VU va,VI pick] w fun e w'=>(∃x,e=.returned x∧TransOwn w.heap.size w' x ((63,0),k0M))∧Bw w w':=by
 have HK:=hid fun u (hu:Bw w u)=>ed v k u (h.keep hu);obtain ⟨a1,c1,a2,c2,a3,c3,rfl,_⟩:=h;obtain ⟨q,hq⟩:∃q,bJ k=q:=⟨_,rfl⟩;rw [hq] at hbad HK;clear hq;have n1:Bw w (((w.alloc (Obj.cells #[VI mode,.bool sum,.bool mxr,VU satp] 134)).alloc (Obj.cells #[VI k.i.sets,VI k.i.ways,.slice a1 k.i.es.length c1,VI k.d.sets,VI k.d.ways,.slice a2 k.d.es.length c2,VI k.p.sets,VI k.p.ways,.slice a3 k.p.es.length c3] 41)).alloc (Obj.cells #[VI 0,VU 0,VI 0,VI 0,SN,VI 0,VI 0,SN,VI 0,VI 0,SN] 232)):=(((Below.refl w.heap.size w).alloc nle _).alloc (by simp) _).alloc (by simp;omega) _;have H1:Hid ((((w.alloc (Obj.cells #[VI mode,.bool sum,.bool mxr,VU satp] 134)).alloc (Obj.cells #[VI k.i.sets,VI k.i.ways,.slice a1 k.i.es.length c1,VI k.d.sets,VI k.d.ways,.slice a2 k.d.es.length c2,VI k.p.sets,VI k.p.ways,.slice a3 k.p.es.length c3] 41)).alloc (Obj.cells #[VI 0,VU 0,VI 0,VI 0,SN,VI 0,VI 0,SN,VI 0,VI 0,SN] 232)).heap[w.heap.size]?=some (.cells #[VI mode,.bool sum,.bool mxr,VU satp] 134 (0,0))):=by
  show _=_;rw [rf _ _ (by simp;omega),rf _ _ (by simp)];exact er w _
 have H2:Hid ((((w.alloc (Obj.cells #[VI mode,.bool sum,.bool mxr,VU satp] 134)).alloc (Obj.cells #[VI k.i.sets,VI k.i.ways,.slice a1 k.i.es.length c1,VI k.d.sets,VI k.d.ways,.slice a2 k.d.es.length c2,VI k.p.sets,VI k.p.ways,.slice a3 k.p.es.length c3] 41)).alloc (Obj.cells #[VI 0,VU 0,VI 0,VI 0,SN,VI 0,VI 0,SN,VI 0,VI 0,SN] 232)).heap[w.heap.size+1]?=some (.cells #[VI k.i.sets,VI k.i.ways,.slice a1 k.i.es.length c1,VI k.d.sets,VI k.d.ways,.slice a2 k.d.es.length c2,VI k.p.sets,VI k.p.ways,.slice a3 k.p.es.length c3] 41 (0,0))):=by
  show _=_;rw [rf _ _ (by simp)];have:=er (w.alloc (Obj.cells #[VI mode,.bool sum,.bool mxr,VU satp] 134)) (Obj.cells #[VI k.i.sets,VI k.i.ways,.slice a1 k.i.es.length c1,VI k.d.sets,VI k.d.ways,.slice a2 k.d.es.length c2,VI k.p.sets,VI k.p.ways,.slice a3 k.p.es.length c3] 41);simp only [World.size_alloc] at this;exact this
 have H3:Hid ((((w.alloc (Obj.cells #[VI mode,.bool sum,.bool mxr,VU satp] 134)).alloc (Obj.cells #[VI k.i.sets,VI k.i.ways,.slice a1 k.i.es.length c1,VI k.d.sets,VI k.d.ways,.slice a2 k.d.es.length c2,VI k.p.sets,VI k.p.ways,.slice a3 k.p.es.length c3] 41)).alloc (Obj.cells #[VI 0,VU 0,VI 0,VI 0,SN,VI 0,VI 0,SN,VI 0,VI 0,SN] 232)).heap[w.heap.size+1+1]?=some (.cells #[VI 0,VU 0,VI 0,VI 0,SN,VI 0,VI 0,SN,VI 0,VI 0,SN] 232 (0,0))):=by
  have:=er ((w.alloc (Obj.cells #[VI mode,.bool sum,.bool mxr,VU satp] 134)).alloc (Obj.cells #[VI k.i.sets,VI k.i.ways,.slice a1 k.i.es.length c1,VI k.d.sets,VI k.d.ways,.slice a2 k.d.es.length c2,VI k.p.sets,VI k.p.ways,.slice a3 k.p.es.length c3] 41)) (Obj.cells #[VI 0,VU 0,VI 0,VI 0,SN,VI 0,VI 0,SN,VI 0,VI 0,SN] 232);simp only [World.size_alloc] at this;exact this
 have l1:w.heap.size+1+1<(((w.alloc (Obj.cells #[VI mode,.bool sum,.bool mxr,VU satp] 134)).alloc (Obj.cells #[VI k.i.sets,VI k.i.ways,.slice a1 k.i.es.length c1,VI k.d.sets,VI k.d.ways,.slice a2 k.d.es.length c2,VI k.p.sets,VI k.p.ways,.slice a3 k.p.es.length c3] 41)).alloc (Obj.cells #[VI 0,VU 0,VI 0,VI 0,SN,VI 0,VI 0,SN,VI 0,VI 0,SN] 232)).heap.size:=by simp
 unfold et;rcases (show q=false∨(q=true∧kind<0)∨(q=true∧0<=kind∧2<kind)∨(q=true∧0<=kind∧kind<=2∧mode<0)∨(q=true∧0<=kind∧kind<=2∧0<=mode∧2<mode)∨(q=true∧0<=kind∧kind<=2∧0<=mode∧mode<=2∧pick<0)∨(q=true∧0<=kind∧kind<=2∧0<=mode∧mode<=2∧0<=pick∧255<pick) by cases q <;> simp at hbad |- <;> omega) with rfl | ⟨rfl,h0⟩ | ⟨rfl,h0,h1⟩ | ⟨rfl,h0,h1,h2⟩ | ⟨rfl,h0,h1,h2,h3⟩ | ⟨rfl,h0,h1,h2,h3,h4⟩ | ⟨rfl,h0,h1,h2,h3,h4,h5⟩;all_goals
  clear hbad;go_enter Tryz.func125,Tryz.ntmps125;go_wp2_with fail;generalize (((w.alloc (Obj.cells #[VI mode,.bool sum,.bool mxr,VU satp] 134)).alloc (Obj.cells #[VI k.i.sets,VI k.i.ways,.slice a1 k.i.es.length c1,VI k.d.sets,VI k.d.ways,.slice a2 k.d.es.length c2,VI k.p.sets,VI k.p.ways,.slice a3 k.p.es.length c3] 41)).alloc (Obj.cells #[VI 0,VU 0,VI 0,VI 0,SN,VI 0,VI 0,SN,VI 0,VI 0,SN] 232))=v1 at n1 H1 H2 H3 l1 |-;refine (HK.out v1 n1).mono ?_;rintro e v2 ⟨rfl,n2⟩;have G3:Hid _:=ag H3.out n2 l1;have l2:=n2.size;obtain ⟨d0,d1,d2,d3⟩:=ay (ag H1.out n2 (by omega));obtain ⟨j0,j1,j2,j3,j4,j5,j6,j7,j8,j9,j10⟩:=cY G3.out;have ff:=dS G3.out;have f0:=ff 0;have f1:=ff 1;have f2:=ff 2;have f3:=ff 3;have f4:=ff 4;have f5:=ff 5;have f6:=ff 6;have f7:=ff 7;have f8:=ff 8;have f9:=ff 9;have f10:=ff 10;clear ff;go_wp2_with fail;refine bodyPost_ret (v:=.agg #[VI 63,VU 0,VI 0,VI 0,SN,VI 0,VI 0,SN,VI 0,VI 0,SN]) (by simp [results,Tryz.results125,go_sem,j0,j1,j2,j3,j4,j5,j6,j7,j8,j9,j10]) rfl
   ⟨⟨_,rfl,SN,SN,SN,rfl,rW _ _,rW _ _,rW _ _⟩,rU (bst n1 n2) (by omega) _ _ _ _ _ _ _ _ _ _ _⟩
end
end Go.Proofs.YtkenjknmfhoppaaGreat
