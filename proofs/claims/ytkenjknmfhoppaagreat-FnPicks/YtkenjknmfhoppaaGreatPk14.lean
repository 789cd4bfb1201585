import Derived.Test.YtkenjknmfhoppaaGreatPk11
import Derived.Test.YtkenjknmfhoppaaGreatPk09
namespace Go.Proofs.YtkenjknmfhoppaaGreat
open Go.RowKit
set_option linter.unusedVariables false
set_option maxHeartbeats 6400000
set_option maxRecDepth 20000
def gX (s t:Value):Prop:=∀g,s.ownBlock=some g->t.ownBlock≠some g
def TransSep (base:Nat) (w:World) (v:Value) (r:(Int × Int) × KM):Prop:=
 ∃s1 s2 s3,v=.agg #[VI r.1.1,VU r.1.2,VI r.2.i.sets,VI r.2.i.ways,s1,VI r.2.d.sets,VI r.2.d.ways,s2,VI r.2.p.sets,VI r.2.p.ways,s3]∧
  w.ownsRow base 127 6 s1 r.2.i.es.length (cH r.2.i.es)∧w.ownsRow base 127 6 s2 r.2.d.es.length (cH r.2.d.es)∧w.ownsRow base 127 6 s3 r.2.p.es.length (cH r.2.p.es)∧
  gX s1 s2∧gX s1 s3∧gX s2 s3
theorem TransSep.own {base:Nat} {w:World} {v:Value} {r:(Int × Int) × KM} (h:TransSep base w v r):Em base w v r:=by
 obtain ⟨s1,s2,s3,h0,h1,h2,h3,_⟩:=h;exact ⟨s1,s2,s3,h0,h1,h2,h3⟩
theorem TlbAt.row {w:World} {a:Option Addr} {c:Nat} {t:TlbM} (h:TlbAt w (.agg #[VI t.sets,VI t.ways,.slice a t.es.length c]) t):RowC w a t.es.length 6 (cH t.es)∧t.es.length<=1048576:=by
 obtain ⟨a',c',he,hr,_,_,_,hl,_⟩:=h;simp at he;obtain ⟨rfl,rfl⟩:=he;exact ⟨hr,hl⟩
theorem qD {e:TypeId} {size base n:Nat} {w:World} {s:Value} {cs:List Value} (h:w.ownsRow base e size s n cs):(s=SN∧n=0∧cs=[])∨∃g cap,s=SL g n cap:=by
 rcases h.2 with ⟨h1,h2⟩ | ⟨g,cap,_,h1,_⟩
 ·refine .inl ⟨h1,h2,?_⟩;have:=h.1;subst h2;simpa using this
 ·exact .inr ⟨g,cap,h1⟩
def RowS (w:World) (s:Value) (n:Nat) (cs:List Value):Prop:=∃a cap,s=.slice a n cap∧RowC w a n 6 cs
theorem RowS.keep {w w':World} {s:Value} {n:Nat} {cs:List Value} (h:RowS w s n cs) (hb:Bw w w'):RowS w' s n cs:=by
 obtain ⟨a,c,h1,h2⟩:=h;exact ⟨a,c,h1,h2.keep hb⟩
structure Mid (R:Nat->Prop) (w w':World):Prop where
 os:w'.os=w.os
 tape:w'.tape=w.tape
 output:w'.output=w.output
 size:w.heap.size<=w'.heap.size
 block:∀i,i<w.heap.size->¬R i->w'.heap[i]?=w.heap[i]?
theorem Mid.of_gb {R:Nat->Prop} {w w':World} {r:Option Nat} (h:w.grownBy w' r) (hr:∀g,r=some g->R g):Mid R w w':=
 ⟨h.os,h.tape,h.output,h.size,fun i hi' hh=>h.block i hi' (fun e=>hh (hr i e.symm))⟩
theorem Mid.of_below {R:Nat->Prop} {w w':World} (h:Bw w w'):Mid R w w':=
 ⟨h.os,h.tape,h.output,h.size,fun i hi' _=>h.block i hi'⟩
theorem Mid.trans {R:Nat->Prop} {a b c:World} (h:Mid R a b) (k:Mid R b c):Mid R a c:=
 ⟨k.os.trans h.os,k.tape.trans h.tape,k.output.trans h.output,Nat.le_trans h.size k.size,fun i hi' hh=>(k.block i (ltl hi' h.size) hh).trans (h.block i hi' hh)⟩
theorem Mid.heap {R:Nat->Prop} {g:Nat} {w w':World} {o:Obj} (h:Mid R w w') (hg:w.heap[g]?=some o) (hh:¬R g):w'.heap[g]?=some o:=
 (h.block g (hpl hg) hh).trans hg
theorem Mid.below {R:Nat->Prop} {B:Nat} {a w w':World} (h:Mid R w w') (hb:Below B a w) (hB:B<=w.heap.size) (hl:∀g,R g->B<=g):Below B a w':=
 ⟨h.os.trans hb.os,h.tape.trans hb.tape,h.output.trans hb.output,Nat.le_trans hb.size h.size,fun k hk=>(h.block k (by omega) (fun hr=>by have:=hl k hr;omega)).trans (hb.block k hk)⟩
theorem Mid.own {R:Nat->Prop} {e:TypeId} {size base n:Nat} {w w':World} {s:Value} {cs:List Value} (h:Mid R w w') (ho:w.ownsRow base e size s n cs) (hh:∀g,s.ownBlock=some g->¬R g):w'.ownsRow base e size s n cs:=by
 refine ⟨ho.1,?_⟩;rcases ho.2 with h1 | ⟨g,cap,cur,h1,h2,h3,h4⟩
 ·exact .inl h1
 ·exact .inr ⟨g,cap,cur,h1,h2,h.heap h3 (hh g (by rw [h1];rfl)),h4⟩
def Is (s1 s2 s3:Value) (i:Nat):Prop:=s1.ownBlock=some i∨s2.ownBlock=some i∨s3.ownBlock=some i
theorem mu {e:TypeId} {size base n:Nat} {w w':World} {s t:Value} {cs:List Value} (h:w.ownsRow base e size s n cs) (hg:w.grownBy w' t.ownBlock) (ha:gX s t):w'.ownsRow base e size s n cs:=by
 refine h.kept hg ?_;cases hs:s.ownBlock with
 | none=>exact .inl rfl
 | some g=>exact .inr fun he=>ha g hs he.symm
def ShK (k k':KM):Prop:=(k'.i.es.length=k.i.es.length∧k'.i.sets=k.i.sets∧k'.i.ways=k.i.ways)∧(k'.d.es.length=k.d.es.length∧k'.d.sets=k.d.sets∧k'.d.ways=k.d.ways)∧(k'.p.es.length=k.p.es.length∧k'.p.sets=k.p.sets∧k'.p.ways=k.p.ways)
theorem ShK.refl (k:KM):ShK k k:=⟨⟨rfl,rfl,rfl⟩,⟨rfl,rfl,rfl⟩,⟨rfl,rfl,rfl⟩⟩
theorem ShK.set {k k':KM} (h:ShK k k') (gi gd gp:Nat):iu k' gi gd gp=iu k gi gd gp:=by
 obtain ⟨⟨h1,h2,h3⟩,⟨h4,h5,h6⟩,h7,h8,h9⟩:=h;simp only [iu,h1,h2,h3,h4,h5,h6,h7,h8,h9]
theorem sN (zs:List Int) (mode:Int) (sum mxr:Bool) (satp:Int) (k:KM) (kind va pick:Int) (hg:cS k=true) (hk:0<=kind∧kind<=2) (hm:0<=mode∧mode<=2) (hp:0<=pick∧pick<=255):ShK k (cD zs mode sum mxr satp k kind va pick).2:=by
 unfold cD;rw [if_neg (by rw [hg];simp;omega)];split
 ·exact ShK.refl k
 ·split
  ·exact ShK.refl k
  ·split
   ·exact ShK.refl k
   ·simp only;have hp':=sX va satp pick (aX zs satp va (cB k.p va (aO satp))).2.2.2 k.p;split
    ·unfold xh fq;by_cases h0:kind=0
     ·simp only [if_pos h0];exact ⟨ly _ _ _,⟨rfl,rfl,rfl⟩,hp'⟩
     ·simp only [if_neg h0];exact ⟨⟨rfl,rfl,rfl⟩,ly _ _ _,hp'⟩
    ·exact ⟨⟨rfl,rfl,rfl⟩,⟨rfl,rfl,rfl⟩,hp'⟩
theorem yg {h:HartM} (hh:HOk h) (plain:Bool) {pick kind va:Int} (hp:0<=pick∧pick<=255) (hk:0<=kind∧kind<=2):ShK h.k (aV plain pick h kind va).2:=by
 cases plain
 ·exact sN _ _ _ _ _ _ _ _ _ hh.v.ks hk hh.v.mode hp
 ·exact ShK.refl _
theorem yi (k:KM) (f:FenceM):ShK k (jl k f):=by
 have h:∀t:TlbM,(ir t f).es.length=t.es.length∧(ir t f).sets=t.sets∧(ir t f).ways=t.ways:=fun t=>by
  unfold ir;split
  ·simp
  ·exact ⟨rfl,rfl,rfl⟩
 exact ⟨h k.i,h k.d,h k.p⟩
theorem yj (plain:Bool) (pick:Int) (k:KM):ShK k (fi plain pick k):=by
 unfold fi;split
 ·exact ⟨by simp [bj],by simp [bj],by simp [bj]⟩
 ·exact ShK.refl k
theorem Kh (kind:Int):fk kind≠0:=by unfold fk;split;omega;split <;> omega
theorem fp (kind:Int):bY kind≠0:=by unfold bY;split;omega;split <;> omega
section
variable {P:Program} {ops:Array Oper} {md:Region.Mode} {C:World->Prop}
def HeadQ (P:Program) (md:Region.Mode) (ops:Array Oper) (C:World->Prop) (n:Nat) (L:Array Bool->Act->Prop):Nat->Array Bool->Act->Prop
 | 0,s,a=>L s a
 | f+1,s,a=>Region.ready md ops s≠[]∧∀i∈Region.ready md ops s,i<n∧qOp P ops C i (HeadQ P md ops C n L f (s.setIfInBounds i true)) a
theorem HeadQ.any {n g:Nat} {L:Array Bool->Act->Prop} {Q:Exit->Act->World->Prop} (hL:∀s a w,C w->L s a->wpAny P md ops Q g s a w):
 ∀(f:Nat) (s:Array Bool) (a:Act) (w:World),C w->HeadQ P md ops C n L f s a->wpAny P md ops Q (f+g) s a w
 | 0,s,a,w,hw,h=>by
  rw [Nat.zero_add];exact hL s a w hw h
 | f+1,s,a,w,hw,h=>by
  have e:f+1+g=(f+g)+1:=by omega
  rw [e];refine ⟨fun h0=>(h.1 h0).elim,fun i hi=>?_⟩;exact wpOp_of_qOp hw (fun a' w' hw' h'=>HeadQ.any hL f _ a' w' hw' h') (h.2 i hi).2
theorem HeadQ.first {n i:Nat} {o:Oper} {v:Value} {L:Array Bool->Act->Prop} (ho:ops[i]?=some o) (ns:Region.noSelect ops=true) (hs:Region.sinkB md ops n=true) (hc:Region.chainB md ops n=true) (hn:n<ops.size) (hin:i<n)
 (hd:∀s a,L s a->∀j∈Region.ready md ops s,n<=j) (f:Nat):∀(s:Array Bool) (a:Act),HeadInv md ops n s->
  (∀j oj,ops[j]?=some oj->j≠i->s.getD j true=false->(∀e∈oj.after,Region.binds md e=true->e.on≠i)->o.apart ops oj=true)->
  i∈Region.ready md ops s->YieldsIn P ops C o v a->HeadQ P md ops C n L f (s.setIfInBounds i true) (a.put o.dst v)->HeadQ P md ops C n L (f+1) s a:=by
 have sel:=Region.noSelect_spec ns
 induction f with
 | zero=>
  intro s a inv _ hr hy H;refine ⟨fun h=>(by rw [h] at hr;cases hr),fun j hj=>?_⟩;have hjn:=Nat.lt_of_not_le fun h=>tail_waits hs hc hn inv _ i rfl hin (mem_ready.1 hr).1 j h hj;refine ⟨hjn,?_⟩;by_cases hji:j=i
  ·subst hji;exact YieldsIn.qOp ho hy H
  ·exact absurd (hd _ _ H j (ready_mono hj hji)) (by omega)
 | succ f ih=>
  intro s a inv hfree hr hy H;refine ⟨fun h=>(by rw [h] at hr;cases hr),fun j hj=>?_⟩;have hun:=(mem_ready.1 hr).1;have hjn:=Nat.lt_of_not_le fun h=>tail_waits hs hc hn inv _ i rfl hin hun j h hj;refine ⟨hjn,?_⟩;by_cases hji:j=i
  ·subst hji;exact YieldsIn.qOp ho hy H
  obtain ⟨hjun,oj,hoj,hall⟩:=mem_ready.1 hj;have hno:∀e∈oj.after,Region.binds md e=true->e.on≠i:=fun e he hb heq=>by
   have:=hall e he hb;rw [heq,getD_both hun] at this;cases this
  refine qOp_mono (fun a' h3=>?_) (qOp_put hoj (hfree j oj hoj hji hjun hno) (fun cs b=>sel i o cs b ho) (fun cs b=>sel j oj cs b hoj) hy (H.2 j (ready_mono hj hji)).2);refine ih (s.setIfInBounds j true) a' (inv.set hj hjn) (fun k ok hk hki hku hkn=>?_) (ready_mono hr (Ne.symm hji)) h3.1 ?_
  ·refine hfree k ok hk hki ?_ hkn;by_cases hjk:j=k
   ·rw [<-hjk];exact hjun
   ·rwa [getD_set_ne true hjk] at hku
  ·rw [Array.setIfInBounds_comm _ _ hji];exact h3.2
theorem HeadQ.lex {n g:Nat} {L:Act->Prop} (ns:Region.noSelect ops=true) (hs:Region.sinkB md ops n=true) (hc:Region.chainB md ops n=true) (hn:n<ops.size):
 ∀(l:List Oper) (k:Nat) (s:Array Bool) (a:Act),(∀j,j<l.length->l[j]?=ops[k+j]?)->k+l.length=n->HeadInv md ops n s->Region.lexHead md ops g l.length k s=true->wpQuiet P ops C L l a->
  HeadQ P md ops C n (fun s' a'=>Region.seqB md ops g n s'=true∧L a') l.length s a
 | [],k,s,a,_,hk,_,hB,h=>by
  obtain rfl:k=n:=by simpa using hk
  exact ⟨by simpa [Region.lexHead] using hB,h⟩
 | o::l,k,s,a,hl,hk,inv,hB,h=>by
  rw [List.length_cons] at hk;have h0:ops[k]?=some o:=by simpa using (hl 0 (by simp)).symm
  simp only [List.length_cons,Region.lexHead,Bool.and_eq_true] at hB;have hr:k∈Region.ready md ops s:=by simpa using hB.1.1
  have hq:qOp P ops C k (wpQuiet P ops C L l) a:=by
   unfold qOp;simp only [h0];exact h
  obtain ⟨v,hy,hK⟩:=yieldsIn_of_qOp h0 hq;refine HeadQ.first h0 ns hs hc hn (by omega) (fun s' a' hL=>seqB_ready hL.1) l.length s a inv (Region.free_spec h0 hB.1.2) hr hy ?_;refine HeadQ.lex ns hs hc hn l (k+1) _ _ (fun j hj=>?_) (by omega) (inv.set hr (by omega)) hB.2 hK;have:=hl (j+1) (by simp;omega);simpa [Nat.add_assoc,Nat.add_comm 1 j] using this
theorem rP {id:Nat} {Q:Exit->Act->World->Prop} {a:Act} {w:World} {l:List Oper} (n:Nat) (hm:P.follows .mixedOrders=true) (hB:Region.lexTailB .any l.toArray n=true) (hC:C w.drew)
 (h:wpQuiet P l.toArray C (fun a'=>∀w',C w'->wpList P l.toArray Q (l.drop n) a' w') (l.take n) a):(Code.region id l.toArray true).wp P Q a w:=by
 simp only [Region.lexTailB,Bool.and_eq_true,decide_eq_true_eq] at hB;obtain ⟨⟨⟨⟨ns,hn⟩,hs⟩,hc⟩,hx⟩:=hB;have hn':n<l.length:=by simpa using hn
 have e1:(l.take n).length=n:=by simp;omega
 have e2:(l.drop n).length=l.toArray.size-n:=by simp
 have i0:HeadInv .any l.toArray n (Array.replicate l.toArray.size false):=
  ⟨by simp,fun j oj _ hl=>(by rw [getD_replicate_false] at hl;cases hl),fun t _ ht=>getD_in (by simpa using ht) (getD_replicate_false _ _)⟩
 have hl:=HeadQ.lex (P:=P) (C:=C) (g:=l.toArray.size-n) ns hs hc hn (l.take n) 0 (Array.replicate l.toArray.size false) a (fun j hj=>by
  rw [e1] at hj;simp [hj]) (by rw [e1];omega) i0 (by rw [e1];exact hx) h
 rw [e1] at hl;refine wp_region_any hm ?_;have:=HeadQ.any (Q:=Q) (g:=l.toArray.size-n) (C:=C) (fun s a' w' hw' hL=>by
  have q:=wpAny_of_seq (P:=P) (Q':=Q) (l.drop n) n s a' w' (fun j=>by simp [List.getElem?_drop]) (by rw [e2];exact hL.1) (hL.2 w' hw');rw [e2] at q;exact q) n _ a w.drew hC hl
 rw [show n+(l.toArray.size-n)=l.toArray.size by simp;omega] at this;exact this
end
theorem mf {P:Program} {id:Nat} {Q:Exit->Act->World->Prop} {a:Act} {w:World} {l:List Oper} (n:Nat) (hm:P.follows .mixedOrders=true) (hB:Region.lexTailB .any l.toArray n=true)
 (h:wpQuiet P l.toArray (fun w'=>∃u:Lies w,w'=u.w) (fun a'=>∀w',(∃u:Lies w,w'=u.w)->wpList P l.toArray Q (l.drop n) a' w') (l.take n) a):(Code.region id l.toArray true).wp P Q a w:=
 rP n hm hB ⟨⟨w.drew,(brf).drew⟩,rfl⟩ h
def wW (o:Oper):Bool:=
 match o.op with
 | .move _ | .assign _ | .load _ _ | .fieldAddr _ _ _ | .field _ _ _ | .binOp _ _ _ _ _ | .unOp _ _ _ | .convert _ _ _ | .extract _ _ | .makeInterface _ _ | .build _ _ | .indexAddr _ _ _ | .nilCheck _ | .slice _ _ _ _ _ | .sliceToArrayPointer _ _=>true
 | _=>false
theorem Dy {P:Program} {s:Sem Value} {w w':World} {n:Next} (h:(do pure (.value (<-s)):Sem Next).run P w=.ok n w'):∃v,n=.value v:=by
 simp only [Sem.run_bind,Sem.run_pure] at h;generalize s.run P w=r at h;cases r with
 | ok x w1=>
  simp only [Result.andThen_ok,Result.ok.injEq] at h;exact ⟨x,h.1.symm⟩
 | halt x w1=>simp [Result.andThen] at h
theorem tC {P:Program} {ρ:Operand->Value} {o:Oper} {w w':World} {n:Next} (hp:wW o=true) (h:(execOp ρ o).run P w=.ok n w'):∃v,n=.value v:=by
 unfold wW at hp;unfold execOp at h;obtain ⟨dst,op,ty,pos,af,gd⟩:=o;cases op;all_goals first
  | (cases hp;done)
  | exact Dy h
  | (simp only [Sem.run_pure,Result.ok.injEq] at h;exact ⟨_,h.1.symm⟩)
  | skip
 rename_i x;simp only at h;split at h;all_goals first
  | (simp only [Sem.run_pure,Result.ok.injEq] at h;exact ⟨_,h.1.symm⟩)
  | (exfalso;revert h;simp [runtimePanic,go_sem];done)
  | skip
 split at h;all_goals first
  | (simp only [Sem.run_pure,Result.ok.injEq] at h;exact ⟨_,h.1.symm⟩)
  | (exfalso;revert h;simp [runtimePanic,go_sem];done)
  | skip
 simp only [Sem.run_bind] at h;generalize Sem.run P program w=r1 at h;cases r1 with
 | halt y w1=>simp [Result.andThen] at h
 | ok p w1=>
  simp only [Result.andThen_ok] at h;generalize Sem.run P (nilAhead _ _ _ _) w1=r2 at h;cases r2 with
  | halt y w2=>simp [Result.andThen] at h
  | ok q w2=>
   simp only [Result.andThen_ok] at h;split at h
   ·simp only [Sem.run_bind] at h;generalize Sem.run P (unsupported _) w2=r3 at h;cases r3 with
    | halt y w3=>simp [Result.andThen] at h
    | ok q w3=>
     simp only [Result.andThen_ok,Sem.run_pure,Result.ok.injEq] at h;exact ⟨_,h.1.symm⟩
   ·simp only [Sem.run_pure,Result.ok.injEq] at h;exact ⟨_,h.1.symm⟩
structure Has (b:Nat) (o:Obj) where
 w:World
 h:w.heap[b]?=some o
structure Has2 (b:Nat) (o:Obj) (b':Nat) (o':Obj) where
 w:World
 h:w.heap[b]?=some o
 h':w.heap[b']?=some o'
structure HasC (l:List (Addr × Value)) where
 w:World
 h:∀q∈l,w.cell? q.1=some q.2
theorem Dz {Q:Exit->Act->World->Prop} (h:∀x a a' w,a'.defers=a.defers->Q (.panic x) a' w->Q (.panic x) a w) (x:List PanicEntry) (a:Act) (d:Option Tmp) (v:Value) (w:World) (hq:Q (.panic x) (a.put d v) w):Q (.panic x) a w:=
 h x a _ w (by cases d <;> rfl) hq
section
variable {P:Program} {ops:Array Oper} {Q:Exit->Act->World->Prop} {F:World->Prop} {c:Nat}
def DA (ops:Array Oper) (c:Nat):List Nat->Array Bool->Bool
 | [],_=>true
 | i::is,s=>lL ops s && Region.free .any ops s i && (Region.ready .any ops s).contains i && (i != c) && mN ops ops.size c i && (match ops[i]? with | some o=>wW o | none=>false) && DA ops c is (s.setIfInBounds i true)
def vf:List Nat->Array Bool->Array Bool
 | [],s=>s
 | i::is,s=>vf is (s.setIfInBounds i true)
def gM (ops:Array Oper):List Nat->List Oper
 | []=>[]
 | i::is=>match ops[i]? with
  | some o=>o::gM ops is
  | none=>gM ops is
theorem za (ns:Region.noSelect ops=true) {fuel:Nat} {w:World} (hF:F w) (hQ:∀x a (d:Option Tmp) v w,Q (.panic x) (a.put d v) w->Q (.panic x) a w):∀(is:List Nat) (s:Array Bool) (a:Act),DA ops c is s=true->
 wpQuiet P ops F (fun a'=>bw P ops Q F c fuel (vf is s) a' w) (gM ops is) a->bw P ops Q F c (fuel+is.length) s a w
 | [],s,a,_,h=>h
 | i::is,s,a,hB,h=>by
  simp only [DA,Bool.and_eq_true] at hB;obtain ⟨⟨⟨⟨⟨⟨h1,h2⟩,h3⟩,h4⟩,h5⟩,h6⟩,h7⟩:=hB;cases ho:ops[i]? with
  | none=>rw [ho] at h6;cases h6
  | some o=>
   rw [ho] at h6;simp only [gM,ho,wpQuiet] at h;have key:∀v,YieldsIf P ops (fun w=>∃l,Closed ops l∧l.getD i true=false∧(l.getD c false=false->F w)) o v a->wpQuiet P ops F (fun a'=>bw P ops Q F c fuel (vf is (s.setIfInBounds i true)) a' w) (gM ops is) (a.put o.dst v)->bw P ops Q F c (fuel+(i::is).length) s a w:=fun v hy hn=>
    lK ho (by simpa using h4) (Region.noSelect_spec ns) (fun x a w=>hQ x a _ _ w) (fuel+is.length) s a w (jx h1) (Region.free_spec ho h2) (by simpa using h3) hy (fun _=>hF) (za ns hF hQ is _ _ h7 hn)
   split at h
   ·rename_i hw;obtain ⟨v,hv,hn⟩:=h;refine key v (.inl ⟨hw,fun u ⟨l,l1,l2,l3⟩=>?_⟩) hn;have hFu:F u:=l3 (by
     cases hh:l.getD c false
     ·rfl
     ·have:=JP l1 _ _ h5 hh;rw [xz l2] at this;cases this)
    have hq:=hv u hFu;unfold Oper.quietAt at hq;generalize hr:(execOp a.eval o).run P u=r at hq;cases r with
    | halt x w1=>exact hq.elim
    | ok n w1=>
     obtain ⟨x,rfl⟩:=tC h6 hr;obtain ⟨rfl,rfl⟩:=hq;rfl
   ·rename_i hw;exact key undef (.inr ⟨by simpa using hw,rfl⟩) h
theorem AN {fuel:Nat} {listed:Array Bool} {a:Act} {w:World} (i:Nat) {o:Oper} (d:Tmp) (hd:o.dst=some d) (hi:ops[i]?=some o) (hg:o.guard=none) (hr:Region.ready .any ops listed=[i]) {f:FuncId} {args:Array Value} (he:(execOp a.eval o).run P w=.ok (.enter f args) w)
 (h:Calls P f args w fun e w'=>(∃x,e=.returned x∧((listed.setIfInBounds i true).getD c false=false->F w')∧bw P ops Q F c fuel (listed.setIfInBounds i true) (a.put (some d) x) w')∨(∃ch,e=.panicked ch∧Q (.panic ch) a w')):bw P ops Q F c (fuel+1) listed a w:=by
 refine iZ i hr ?_;unfold wpOp;simp only [hi];rw [if_pos (by simp [Region.wanted,hg])];refine .inl ?_;unfold Oper.wp;rw [he];refine h.mono ?_;rintro e w' (⟨x,rfl,hS,h2⟩ | ⟨ch,rfl,h2⟩)
 ·refine ⟨hS,?_⟩;rw [hd];exact h2
 ·exact h2
theorem eF {fuel:Nat} {listed:Array Bool} {a:Act} {w:World} (i:Nat) {o:Oper} (d:Tmp) (hi:ops[i]?=some o) {f:FuncId} {args:Array Value}
 (h:Calls P f args w fun e w'=>(∃x,e=.returned x∧((listed.setIfInBounds i true).getD c false=false->F w')∧bw P ops Q F c fuel (listed.setIfInBounds i true) (a.put (some d) x) w')∨(∃ch,e=.panicked ch∧Q (.panic ch) a w'))
 (hd:o.dst=some d:=by kernel_rfl) (hg:o.guard=none:=by kernel_rfl) (hr:Region.ready .any ops listed=[i]:=by kernel_rfl) (he:(execOp a.eval o).run P w=.ok (.enter f args) w:=by kernel_rfl):bw P ops Q F c (fuel+1) listed a w:=AN i d hd hi hg hr he h
theorem fe {fuel:Nat} {w:World} (hF:F w) (is:List Nat) {s:Array Bool} {a:Act} (h:wpQuiet P ops F (fun a'=>bw P ops Q F c fuel (vf is s) a' w) (gM ops is) a) (hB:DA ops c is s=true:=by kernel_rfl) (ns:Region.noSelect ops=true:=by kernel_rfl)
 (hQ:∀x a (d:Option Tmp) v w,Q (.panic x) (a.put d v) w->Q (.panic x) a w:=by exact Dz fun _ _ _ _ e h=>⟨e ▸ h.1,h.2⟩):bw P ops Q F c (fuel+is.length) s a w:=za ns hF hQ is s a hB h
end
section
attribute [local go_sem ↓] Go.wp_at_zero Go.wp_at_succ
theorem iM (mode:Int) (sum mxr:Bool) (satp:Int) (w:World) (h0:0<=satp) (h1:satp<=18446744073709551615):
 Calls Tryz.prog 191 #[iH mode sum mxr satp] w fun e w'=>e=.returned (.bool (onM mode satp))∧Bw w w':=by
 unfold iH;have b1:=(Below.refl w.heap.size w).alloc nle (Obj.cells #[VI mode,.bool sum,.bool mxr,VU satp] 134);have HS:Hid (satp/1152921504606846976=satp/1152921504606846976%16):=show _=_ by omega
 cases hs:(satp/1152921504606846976 == 8)
 ·go_enter Tryz.func191,Tryz.ntmps191;go_wp2;go_ret;exact ⟨aL (by rw [onM,<-HS.out,hs];rfl),b1⟩
 ·cases hm0:(mode == 0)
  ·go_enter Tryz.func191,Tryz.ntmps191;go_wp2;go_ret;exact ⟨aL (by rw [onM,<-HS.out,hs,hm0];rfl),b1⟩
  ·go_enter Tryz.func191,Tryz.ntmps191;go_wp2;go_ret;exact ⟨aL (by rw [onM,<-HS.out,hs,hm0];rfl),b1⟩
theorem gF (pte level mode:Int) (sum mxr:Bool) (satp kind va:Int) (w:World) (h0:0<=pte) (h1:pte<=18446744073709551615) (hv:0<=va) (hv':va<=18446744073709551615) (hl:level=0∨level=1∨level=2):
 Calls Tryz.prog 209 #[VU pte,VI level,iH mode sum mxr satp,VI kind,VU va] w fun e w'=>
  e=.returned (.tuple #[VU (if cQ pte kind mode sum mxr=true then fT pte level va else 0),cK (if cQ pte kind mode sum mxr=true then 1 else 2)])∧Bw w w':=by
 unfold iH;have b1:=(Below.refl w.heap.size w).alloc nle (Obj.cells #[VI mode,.bool sum,.bool mxr,VU satp] 134);cases hg:cQ pte kind mode sum mxr
 ·have HG:=hid hg;clear hg;rw [if_neg (by simp),if_neg (by simp)];go_enter Tryz.func209,Tryz.ntmps209;go_wp2_with (go_at_call 200;refine (jS pte kind mode sum mxr _ h0 h1).mono ?_;rintro e w' ⟨rfl,rfl⟩;rw [HG.out]);exact bodyPost_ret (v:=.tuple #[VU 0,.iface 288 (.agg #[])]) (by simp [results,Tryz.results209,go_sem]) rfl ⟨rfl,b1⟩
 ·have HG:=hid hg;clear hg;rw [if_pos rfl,if_pos rfl];go_enter Tryz.func209,Tryz.ntmps209;go_wp2_with (first
   | (go_at_call 200;refine (jS pte kind mode sum mxr _ h0 h1).mono ?_;rintro e w' ⟨rfl,rfl⟩;rw [HG.out])
   | (go_at_call 214;refine (Hu pte level va _ h0 h1 hl hv hv').mono ?_;rintro e w' ⟨rfl,rfl⟩))
  exact bodyPost_ret (v:=.tuple #[VU (fT pte level va),.nilIface]) (by simp [results,Tryz.results209,go_sem]) rfl ⟨rfl,b1⟩
theorem In (w:World):(binOp .neq 281 (.iface 288 (.agg #[])) .nilIface).run Tryz.prog w=.ok (.bool true) w:=by kernel_rfl
theorem Io (w:World):(binOp .neq 281 (.iface 289 (.agg #[])) .nilIface).run Tryz.prog w=.ok (.bool true) w:=by kernel_rfl
theorem Ip (w:World):(binOp .neq 281 .nilIface .nilIface).run Tryz.prog w=.ok (.bool false) w:=by kernel_rfl
def oA (r:Int × Int × Int × List aQ) (mode:Int) (sum mxr:Bool) (kind va:Int):Int × Int:=
 if r.1=1 then (if cQ r.2.2.1 kind mode sum mxr=true then (fT r.2.2.1 r.2.1 va,1) else (0,2)) else (0,r.1)
theorem qB {w w':World} {g:Nat} {o:Obj} (h:Hid (w.heap[g]?=some o)) (n:Bw w w') (l:g<w.heap.size):Hid (w'.heap[g]?=some o):=ae h.out n l
theorem vW (sv:Value) (zs:List Int) (mode:Int) (sum mxr:Bool) (satp kind va:Int) (w:World) (hB:SrcAt w sv zs) (hv0:0<=va) (hv1:va<=18446744073709551615) (hs0:0<=satp) (hs1:satp<=18446744073709551615) (hon:onM mode satp=true):
 Calls Tryz.prog 202 #[sv,iH mode sum mxr satp,VI kind,VU va] w fun e w'=>
  e=.returned (.tuple #[VU (oA (bO zs satp va) mode sum mxr kind va).1,cK (oA (bO zs satp va) mode sum mxr kind va).2])∧Bw w w':=by
 have HB:=hid hB;have HTR:Hid (∀w,Calls Tryz.prog 191 #[.agg #[VI mode,.bool sum,.bool mxr,VU satp]] w fun e w'=>e=.returned (.bool true)∧Bw w w'):=fun w=>by have:=iM mode sum mxr satp w hs0 hs1;rw [hon] at this;exact this
 clear hon;have hcd:=lG zs satp va;have hbd:=tA zs satp va hB.bd;clear hB;obtain ⟨X,hX⟩:∃X,bO zs satp va=X:=⟨_,rfl⟩;have HX:=hid hX;rw [hX] at hcd hbd |-;clear hX;obtain ⟨x1,x2,x3,rs⟩:=X;simp only at hcd hbd;unfold iH;have b1:=(Below.refl w.heap.size w).alloc nle (Obj.cells #[VI mode,.bool sum,.bool mxr,VU satp] 134);have r1:Hid ((w.alloc (Obj.cells #[VI mode,.bool sum,.bool mxr,VU satp] 134)).heap[w.heap.size]?=some (.cells #[VI mode,.bool sum,.bool mxr,VU satp] 134 (0,0))):=fE w _;have l1:w.heap.size<(w.alloc (Obj.cells #[VI mode,.bool sum,.bool mxr,VU satp] 134)).heap.size:=by simp
 have q1:=In;have q2:=Io;have q3:=Ip;rcases hcd with rfl | rfl | rfl
 ·obtain ⟨⟨y1,y2⟩,hY⟩:∃Y,oA (1,x2,x3,rs) mode sum mxr kind va=Y:=⟨_,rfl⟩;rw [hY];obtain ⟨fv,hfv⟩:∃fv,cK y2=fv:=⟨_,rfl⟩;have HTL:Hid (∀w,Calls Tryz.prog 209 #[VU x3,VI x2,.agg #[VI mode,.bool sum,.bool mxr,VU satp],VI kind,VU va] w fun e w'=>
   e=.returned (.tuple #[VU y1,fv])∧Bw w w'):=by
   intro w;have:=gF x3 x2 mode sum mxr satp kind va w hbd.1 hbd.2.1 hv0 hv1 (by omega);unfold iH at this;rw [<-hfv];cases hg:cQ x3 kind mode sum mxr
   ·simp [oA,hg] at hY;obtain ⟨rfl,rfl⟩:=hY;simpa [hg] using this
   ·simp [oA,hg] at hY;obtain ⟨rfl,rfl⟩:=hY;simpa [hg] using this
  rw [hfv];clear hY hfv;go_enter Tryz.func202,Tryz.ntmps202;go_wp2_with fail;generalize w.alloc (Obj.cells #[VI mode,.bool sum,.bool mxr,VU satp] 134)=v0 at b1 r1 l1 |-;refine (HTR.out v0).mono ?_;rintro e v1 ⟨rfl,n1⟩;replace r1:=qB r1 n1 l1;replace b1:=bst b1 n1;replace l1:=ltl l1 n1.size;clear n1;obtain ⟨⟨d0,d1,d2,d3⟩,e0,e1,e2,e3⟩:=aP r1.out;go_wp2_with fail;clear d0 d1 d2 d3 e0 e1 e2 e3;refine (ic sv zs va satp v1 (HB.out.keep b1) hv0 hv1 hs0 hs1).mono ?_;rintro e v2 ⟨hw,n2⟩;rw [HX.out] at hw;obtain ⟨ra,rc,rfl,o2⟩:=hw;clear o2;rw [show cK 1=.nilIface from rfl];have b2:=bst b1 n2;have r2:=hid (ae r1.out n2 l1);have l2:=ltl l1 n2.size;obtain ⟨⟨d0,d1,d2,d3⟩,e0,e1,e2,e3⟩:=aP r2.out;have b3:=b2.alloc (by omega) (Obj.cells #[VI x2,VU x3,.slice ra rs.length rc] 312);clear b1 r1 l1 n2;go_wp2_with fail;refine (HTL.out _).mono ?_;rintro e v4 ⟨rfl,n4⟩;have b4:=bst b3 n4;go_wp2_with fail;exact bodyPost_ret (v:=.tuple #[VU y1,fv]) (by simp [results,Tryz.results202,go_sem]) rfl ⟨rfl,b4⟩
 ·rw [show oA (2,x2,x3,rs) mode sum mxr kind va=(0,2) from rfl];rw [show cK 2=.iface 288 (.agg #[]) from rfl];go_enter Tryz.func202,Tryz.ntmps202;go_wp2_with fail;generalize w.alloc (Obj.cells #[VI mode,.bool sum,.bool mxr,VU satp] 134)=v0 at b1 r1 l1 |-;refine (HTR.out v0).mono ?_;rintro e v1 ⟨rfl,n1⟩;replace r1:=qB r1 n1 l1;replace b1:=bst b1 n1;replace l1:=ltl l1 n1.size;clear n1;obtain ⟨⟨d0,d1,d2,d3⟩,e0,e1,e2,e3⟩:=aP r1.out;go_wp2_with fail;clear d0 d1 d2 d3 e0 e1 e2 e3;refine (ic sv zs va satp v1 (HB.out.keep b1) hv0 hv1 hs0 hs1).mono ?_;rintro e v2 ⟨hw,n2⟩;rw [HX.out] at hw;obtain ⟨ra,rc,rfl,o2⟩:=hw;clear o2;rw [show cK 2=.iface 288 (.agg #[]) from rfl];have b2:=bst b1 n2;have r2:=hid (ae r1.out n2 l1);have l2:=ltl l1 n2.size;obtain ⟨⟨d0,d1,d2,d3⟩,e0,e1,e2,e3⟩:=aP r2.out;have b3:=b2.alloc (by omega) (Obj.cells #[VI x2,VU x3,.slice ra rs.length rc] 312);clear b1 r1 l1 n2;go_wp2_with fail;exact bodyPost_ret (v:=.tuple #[VU 0,.iface 288 (.agg #[])]) (by simp [results,Tryz.results202,go_sem]) rfl ⟨rfl,b3⟩
 ·rw [show oA (3,x2,x3,rs) mode sum mxr kind va=(0,3) from rfl];rw [show cK 3=.iface 289 (.agg #[]) from rfl];go_enter Tryz.func202,Tryz.ntmps202;go_wp2_with fail;generalize w.alloc (Obj.cells #[VI mode,.bool sum,.bool mxr,VU satp] 134)=v0 at b1 r1 l1 |-;refine (HTR.out v0).mono ?_;rintro e v1 ⟨rfl,n1⟩;replace r1:=qB r1 n1 l1;replace b1:=bst b1 n1;replace l1:=ltl l1 n1.size;clear n1;obtain ⟨⟨d0,d1,d2,d3⟩,e0,e1,e2,e3⟩:=aP r1.out;go_wp2_with fail;clear d0 d1 d2 d3 e0 e1 e2 e3;refine (ic sv zs va satp v1 (HB.out.keep b1) hv0 hv1 hs0 hs1).mono ?_;rintro e v2 ⟨hw,n2⟩;rw [HX.out] at hw;obtain ⟨ra,rc,rfl,o2⟩:=hw;clear o2;rw [show cK 3=.iface 289 (.agg #[]) from rfl];have b2:=bst b1 n2;have r2:=hid (ae r1.out n2 l1);have l2:=ltl l1 n2.size;obtain ⟨⟨d0,d1,d2,d3⟩,e0,e1,e2,e3⟩:=aP r2.out;have b3:=b2.alloc (by omega) (Obj.cells #[VI x2,VU x3,.slice ra rs.length rc] 312);clear b1 r1 l1 n2;go_wp2_with fail;exact bodyPost_ret (v:=.tuple #[VU 0,.iface 289 (.agg #[])]) (by simp [results,Tryz.results202,go_sem]) rfl ⟨rfl,b3⟩
theorem ui (sv:Value) (mode:Int) (sum mxr:Bool) (satp kind va:Int) (w:World) (hs0:0<=satp) (hs1:satp<=18446744073709551615) (hon:onM mode satp=false):
 Calls Tryz.prog 202 #[sv,iH mode sum mxr satp,VI kind,VU va] w fun e w'=>
  e=.returned (.tuple #[VU va,cK 1])∧Bw w w':=by
 have HTR:Hid (∀w,Calls Tryz.prog 191 #[.agg #[VI mode,.bool sum,.bool mxr,VU satp]] w fun e w'=>e=.returned (.bool false)∧Bw w w'):=fun w=>by have:=iM mode sum mxr satp w hs0 hs1;rw [hon] at this;exact this
 clear hon;unfold iH;obtain ⟨v0,Ev0,b1,_,_⟩:=al1 w #[VI mode,.bool sum,.bool mxr,VU satp] 134;rw [show cK 1=.nilIface from rfl];go_enter Tryz.func202,Tryz.ntmps202;go_wp2_with fail;rw [Ev0.out];clear Ev0;refine (HTR.out v0).mono ?_;rintro e v1 ⟨rfl,n1⟩;have b2:=bst b1 n1;go_wp2_with fail;exact bodyPost_ret (v:=.tuple #[VU va,.nilIface]) (by simp [results,Tryz.results202,go_sem]) rfl ⟨rfl,b2⟩
def hZ (zs:List Int) (mode:Int) (sum mxr:Bool) (satp kind va:Int):Int × Int:=
 if onM mode satp=false then (va,1) else oA (bO zs satp va) mode sum mxr kind va
theorem uj (sv:Value) (zs:List Int) (mode:Int) (sum mxr:Bool) (satp kind va:Int) (w:World) (hB:SrcAt w sv zs) (hv0:0<=va) (hv1:va<=18446744073709551615) (hs0:0<=satp) (hs1:satp<=18446744073709551615):
 Calls Tryz.prog 202 #[sv,iH mode sum mxr satp,VI kind,VU va] w fun e w'=>
  e=.returned (.tuple #[VU (hZ zs mode sum mxr satp kind va).1,cK (hZ zs mode sum mxr satp kind va).2])∧Bw w w':=by
 unfold hZ;cases hon:onM mode satp
 ·rw [if_pos rfl];exact ui sv mode sum mxr satp kind va w hs0 hs1 hon
 ·rw [if_neg (by simp)];exact vW sv zs mode sum mxr satp kind va w hB hv0 hv1 hs0 hs1 hon
theorem Ad (r:Int × Int × Int × List aQ) (mode:Int) (sum mxr:Bool) (kind va:Int) (h:r.1=1∨r.1=2∨r.1=3):
 cY r mode sum mxr kind va=((if (oA r mode sum mxr kind va).2=1 then 0 else if (oA r mode sum mxr kind va).2=2 then fk kind else bY kind),(oA r mode sum mxr kind va).1):=by
 unfold cY oA gB;rcases h with h | h | h <;> rw [h]
 ·cases cQ r.2.2.1 kind mode sum mxr <;> simp
 ·simp
 ·simp
theorem Ct (r:Int × Int × Int × List aQ) (mode:Int) (sum mxr:Bool) (kind va:Int) (h:r.1=1∨r.1=2∨r.1=3):
 (oA r mode sum mxr kind va).2=1∨(oA r mode sum mxr kind va).2=2∨(oA r mode sum mxr kind va).2=3:=by
 unfold oA;rcases h with h | h | h <;> rw [h]
 ·cases cQ r.2.2.1 kind mode sum mxr <;> simp
 ·simp
 ·simp
end
def me (c t:Int):PanicEntry:={ v:=.iface 99 (.agg #[VI c,VU t]),recovered:=false }
theorem Jt {O X:Nat->Prop} {m:MP} {ov:Value} {h:HartM} {ol:List (Nat × Int)} (w:World) (k:MW w O X m ov h ol):
 Calls Tryz.prog 166 #[PT m.b 0] w fun e w'=>e=.returned (ki h)∧Bw w w':=by
 obtain ⟨v1,Ev1,F⟩:=ax1 w #[VI 0,.bool false,.bool false,VU 0] 134;have hb:=k.lt;have c9:=ab k.blk 9 (v:=VI h.mode) rfl;have c10:=ab k.blk 10 (v:=.bool h.sum) rfl;have c11:=ab k.blk 11 (v:=.bool h.mxr) rfl;have c12:=ab k.blk 12 (v:=VU h.satp) rfl;unfold ki;clear k;generalize m.b=b at *;go_enter Tryz.func166,Tryz.ntmps166;go_upto_region 1 with fail;rw [Ev1.out];clear Ev1;obtain ⟨h1,hz,n1⟩:=F;replace c9:=Below.cell2 n1 c9 hb;replace c10:=Below.cell2 n1 c10 hb;replace c11:=Below.cell2 n1 c11 hb;replace c12:=Below.cell2 n1 c12 hb;have k0:=ab h1 0 (v:=VI 0) rfl;have k1:=ab h1 1 (v:=.bool false) rfl;have k2:=ab h1 2 (v:=.bool false) rfl;have k3:=ab h1 3 (v:=VU 0) rfl;have f0:=ap h1 0;have f1:=ap h1 1;have f2:=ap h1 2;have f3:=ap h1 3;have b2:w.heap.size<v1.heap.size:=by omega
 have hb1:b<v1.heap.size:=by omega
 clear h1 hz;refine dz 17 (by kernel_rfl) (by kernel_rfl) ?_;simp only [List.take_succ_cons,List.take_zero,List.drop_succ_cons,List.drop_zero];repeat still_step
 refine wpStill_nil ?_;go_wp2_with fail;exact bodyPost_ret (v:=.agg #[VI h.mode,.bool h.sum,.bool h.mxr,VU h.satp]) (by simp [results,Tryz.results166,go_sem,k0,k1,k2,k3]) rfl ⟨rfl,bP (bP (bP (bP n1.drew (by omega) _ _) (by omega) _ _) (by omega) _ _) (by omega) _ _⟩
def Ju (plain:Bool) (pick:Int) (O X:Nat->Prop) (m:MP) (PA:World->RunM->Prop) (ov:Value) (ol:List (Nat × Int)) (r:RunM) (kind va size:Int) (w:World) (e:Ending) (w':World):Prop:=
 e=(if (aV plain pick r.h kind va).1.1=0 then .returned (.agg #[VI kind,VU va,VU (aV plain pick r.h kind va).1.2,VU size]) else .panicked [me (aV plain pick r.h kind va).1.1 va])∧
 MW w' O X m ov (bf plain pick r kind va).h ol∧PA w' (bf plain pick r kind va)∧Kp X w w'
theorem lS {plain:Bool} {pick:Int} {h0:HartM} {O X:Nat->Prop} {PI:World->Prop} {PA:World->RunM->Prop} {m:MP} (hp:PathOk m plain pick h0 X PI PA) (hpk:0<=pick∧pick<=255) {ov:Value} {ol:List (Nat × Int)} (r:RunM) (kind va size:Int) (w:World)
 (k:MW w O X m ov r.h ol) (hA:PA w r) (hr:ROk r) (hc:SameC 2 r h0) (hk0:0<=kind) (hk2:kind<=2) (hv:inU va):
 Calls Tryz.prog 143 #[PT m.b 0,VI kind,VU va,VU size] w fun e w'=>Ju plain pick O X m PA ov ol r kind va size w e w':=by
 obtain ⟨v1,Ev1,F⟩:=ax1 w #[VI 0,VU 0,VU 0,VU 0] 257;have HK:Hid _:=k;have HA:Hid _:=hA;have HP:Hid _:=hp;have HR:Hid _:=hr;have HC:Hid _:=hc;have HSh:Hid (iu (aV plain pick r.h kind va).2 m.gi m.gd m.gp=iu r.h.k m.gi m.gd m.gp):=(yg hr.h plain hpk ⟨hk0,hk2⟩).set _ _ _;have hb:=k.lt;obtain ⟨hv0,hv1⟩:=hv;clear k hA hp hr hc;obtain ⟨b,hbm⟩:∃b,m.b=b:=⟨_,rfl⟩;have HBm:Hid _:=hbm;rw [hbm] at hb;rw [hbm];clear hbm;go_enter Tryz.func143,Tryz.ntmps143;go_upto_region 1 with fail;rw [Ev1.out];clear Ev1;obtain ⟨h1,hz,n1⟩:=F;have H1:Hid _:=h1;have K1:=hid (HK.out.low n1);have c29:v1.cell? (AD b 29)=some (.iface m.pd m.px):=by rw [<-HBm.out];exact ab K1.out.blk 29 rfl
 have hb1:b<v1.heap.size:=by omega
 have hbk:v1.heap[b]?=some (.cells (cV r.h m.gm ov m.gi m.gd m.gp m.pv) 97 (0,0)):=by rw [<-HBm.out];exact K1.out.blk
 have CT:∀u:Has b (.cells (cV r.h m.gm ov m.gi m.gd m.gp m.pv) 97 (0,0)),u.w.cell? (AD b 29)=some (.iface m.pd m.px):=fun u=>ab u.h 29 rfl;have ne:Nonempty (Has b (.cells (cV r.h m.gm ov m.gi m.gd m.gp m.pv) 97 (0,0))):=⟨⟨v1,hbk⟩⟩;have HBk:Hid _:=hbk;clear h1 hz c29 hbk;generalize cV r.h m.gm ov m.gi m.gd m.gp m.pv=A at CT ne HBk;refine az (fun w'=>∃u:Has b (.cells A 97 (0,0)),w'=u.w) 21 ?_;refine fe (fuel:=7) ⟨⟨v1.drew,HBk.out⟩,rfl⟩ [0,1,2,3,4,5,6,7,8,9,10,12,13,14,15] ?_;simp only [gM,List.getElem?_toArray,List.getElem?_cons_zero,List.getElem?_cons_succ];repeat (go_big_quiet_step (fail))
 refine wpQuiet_nil ?_;have D1:=bdr v1;refine eF 11 23 rfl (f:=166) (args:=#[PT b 0]) ?_;rw [<-HBm.out];refine (Jt v1.drew (K1.out.low D1)).mono ?_;rintro e v2 ⟨rfl,n2'⟩;rw [HBm.out];have n2:=bst D1 n2';have K2:=hid (K1.out.low n2);have n12:=bst n1 n2;have HB2:=hid (ah HBk n2);refine .inl ⟨_,rfl,fun _=>⟨⟨v2,HB2.out⟩,rfl⟩,?_⟩
 go_frame
 have H2:=ah H1 n2;have A2:=HP.out.keep HA.out (fun i hi=>(HK.out.xo i hi).2) (Kp.of_below (fun _=>False) n12) (fun _ _ h=>h);obtain ⟨fn,rv,hm,hen,hcall⟩:=HP.out.phys v2 r _ kind va A2 K2.out.cells (fun u hu=>FO (K2.out.keep hu)) HC.out HR.out hk0 hk2 ⟨hv0,hv1⟩;rw [HBm.out] at hcall;have HM:Hid _:=hcall;clear hcall A2 n2';refine eF 16 28 rfl (f:=fn) (args:=#[rv,.iface 212 (PT b 18),ki r.h,VI kind,VU va]) ?_ (he:=by go_simp);refine Calls.mono HM.out ?_;rintro e v3 ⟨pa,code,rfl,hcode,hans,hA3,hk3⟩;have K3:=hid ((K2.out.keep hk3).withK HSh.out);have A3:Hid _:=hA3;have nx:¬X w.heap.size:=fun h=>by have:=(HK.out.xo _ h).2;omega
 have H3:=Kp.hid H2 hk3 nx;have KP:=hid ((Kp.of_below X n12).trans hk3);have l3:=(hpl H3.out);have q1:=In;have q2:=Io;have q3:=Ip;have HB3:=hid (Kp.hid HB2 hk3 (by rw [<-HBm.out];exact HK.out.xb));refine .inl ⟨_,rfl,fun _=>⟨⟨v3,HB3.out⟩,rfl⟩,?_⟩
 go_frame
 refine fe (fuel:=1) ⟨⟨v3,HB3.out⟩,rfl⟩ [17,18,19,20] ?_;simp only [gM,List.getElem?_toArray,List.getElem?_cons_zero,List.getElem?_cons_succ];repeat (go_big_quiet_step (fail))
 refine wpQuiet_nil ?_;refine ji 21 10 (cK code) rfl (fun _=>⟨⟨v3,HB3.out⟩,rfl⟩) ?_
 go_frame
 refine dJ ?_;clear hA3 hk3 HM n2 n12 H2 K2 K1 hm HB2 HB3 D1;have HT:=hid hans;clear hans CT ne HBk;rcases hcode with rfl | rfl | rfl
 ·rw [show cK 1=.nilIface from rfl];have k0:=ab H3.out 0 (v:=VI 0) rfl;have k1:=ab H3.out 1 (v:=VU 0) rfl;have k2:=ab H3.out 2 (v:=VU 0) rfl;have k3:=ab H3.out 3 (v:=VU 0) rfl;have f0:=ap H3.out 0;have f1:=ap H3.out 1;have f2:=ap H3.out 2;have f3:=ap H3.out 3;go_wp2_with fail;have g4:=gb4 v3 w.heap.size (VI kind) (VU va) (VU pa) (VU size);refine bodyPost_ret (v:=.agg #[VI kind,VU va,VU pa,VU size]) (by simp [results,Tryz.results143,go_sem,k0,k1,k2,k3]) rfl ⟨?_,HK.out.box K3.out g4 nle,HP.out.box A3.out (fun i hi=>(K3.out.xo i hi).2) g4 nx,KP.out.box g4 nle⟩;rw [HT.out];rfl
 ·rw [show cK 2=.iface 288 (.agg #[]) from rfl];have HCo:=hid (tr 2 kind v3 (by omega));go_wp2_with fail;refine Calls.mono HCo.out ?_;rintro e u ⟨rfl,hu⟩;rw [hu];clear hu u;go_wp2_with fail;refine ⟨rfl,?_,K3.out,A3.out,KP.out⟩;have ht:=congrArg Prod.fst HT.out;simp only at ht;rw [ht];exact (if_neg (Kh kind)).symm
 ·rw [show cK 3=.iface 289 (.agg #[]) from rfl];have HCo:=hid (tr 3 kind v3 (by omega));go_wp2_with fail;refine Calls.mono HCo.out ?_;rintro e u ⟨rfl,hu⟩;rw [hu];clear hu u;go_wp2_with fail;refine ⟨rfl,?_,K3.out,A3.out,KP.out⟩;have ht:=congrArg Prod.fst HT.out;simp only at ht;rw [ht];exact (if_neg (fp kind)).symm
theorem F7 (x:Int) (w:World) (h0:0<=x) (h1:x<=18446744073709551615):
 Calls Tryz.prog 236 #[VU x] w fun e w'=>e=.returned (VU (dK x))∧w'=w:=by
 go_enter Tryz.func236,Tryz.ntmps236;go_wp2_with (go_at_call 212;refine (wH x _ h0 h1).mono ?_;rintro e w' ⟨rfl,rfl⟩);go_ret;exact ⟨rfl,rfl⟩
end Go.Proofs.YtkenjknmfhoppaaGreat
