import Derived.Test.YtgnnmgfgfihljaaGreatPk22
namespace Go.Proofs.YtgnnmgfgfihljaaGreat
open Go.RowKit
set_option linter.unusedVariables false
set_option maxHeartbeats 6400000
set_option maxRecDepth 20000
def ShK (k k':KM):Prop:=(k'.i.es.length=k.i.es.length∧k'.i.sets=k.i.sets∧k'.i.ways=k.i.ways)∧(k'.d.es.length=k.d.es.length∧k'.d.sets=k.d.sets∧k'.d.ways=k.d.ways)∧(k'.p.es.length=k.p.es.length∧k'.p.sets=k.p.sets∧k'.p.ways=k.p.ways)
theorem ShK.refl (k:KM):ShK k k:=⟨⟨rfl,rfl,rfl⟩,⟨rfl,rfl,rfl⟩,⟨rfl,rfl,rfl⟩⟩
theorem ShK.set {k k':KM} (h:ShK k k') (gi gd gp:Nat):eR k' gi gd gp=eR k gi gd gp:=by
 obtain ⟨⟨h1,h2,h3⟩,⟨h4,h5,h6⟩,h7,h8,h9⟩:=h;simp only [eR,h1,h2,h3,h4,h5,h6,h7,h8,h9]
theorem pU (zs:List Int) (mode:Int) (sum mxr:Bool) (satp:Int) (k:KM) (kind va pick:Int) (hg:bf k=true) (hk:0<=kind∧kind<=2) (hm:0<=mode∧mode<=2) (hp:0<=pick∧pick<=255):ShK k (ct zs mode sum mxr satp k kind va pick).2:=by
 unfold ct;rw [if_neg (by rw [hg];simp;omega)];split
 ·exact ShK.refl k
 ·split
  ·exact ShK.refl k
  ·split
   ·exact ShK.refl k
   ·simp only;have hp':=jM va satp pick (aY zs satp va (aU k.p va (aG satp))).2.2.2 k.p;split
    ·unfold rJ ep;by_cases h0:kind=0
     ·simp only [if_pos h0];exact ⟨ey _ _ _,⟨rfl,rfl,rfl⟩,hp'⟩
     ·simp only [if_neg h0];exact ⟨⟨rfl,rfl,rfl⟩,ey _ _ _,hp'⟩
    ·exact ⟨⟨rfl,rfl,rfl⟩,⟨rfl,rfl,rfl⟩,hp'⟩
theorem uk {h:HartM} (hh:HOk h) (plain:Bool) {pick kind va:Int} (hp:0<=pick∧pick<=255) (hk:0<=kind∧kind<=2):ShK h.k (be plain pick h kind va).2:=by
 cases plain
 ·exact pU _ _ _ _ _ _ _ _ _ hh.v.ks hk hh.v.mode hp
 ·exact ShK.refl _
theorem ul (k:KM) (f:FenceM):ShK k (dh k f):=by
 have h:∀t:TlbM,(dW t f).es.length=t.es.length∧(dW t f).sets=t.sets∧(dW t f).ways=t.ways:=fun t=>by
  unfold dW;split
  ·simp
  ·exact ⟨rfl,rfl,rfl⟩
 exact ⟨h k.i,h k.d,h k.p⟩
theorem um (plain:Bool) (pick:Int) (k:KM):ShK k (fE plain pick k):=by
 unfold fE;split
 ·exact ⟨by simp [aZ],by simp [aZ],by simp [aZ]⟩
 ·exact ShK.refl k
theorem yg (kind:Int):dL kind≠0:=by unfold dL;split;omega;split <;> omega
theorem ev (kind:Int):bE kind≠0:=by unfold bE;split;omega;split <;> omega
section
variable {P:Program} {ops:Array Oper} {md:Region.Mode} {C:World->Prop}
def HeadQ (P:Program) (md:Region.Mode) (ops:Array Oper) (C:World->Prop) (n:Nat) (L:Array Bool->Act->Prop):Nat->Array Bool->Act->Prop
 | 0,s,a=>L s a
 | f+1,s,a=>Region.ready md ops s≠[]∧∀i∈Region.ready md ops s,i<n∧qOp P ops C i (HeadQ P md ops C n L f (s.setIfInBounds i true)) a
theorem HeadQ.any {n g:Nat} {L:Array Bool->Act->Prop} {Q:Exit->Act->World->Prop} (hL:∀s a w,C w->L s a->wpAny P md ops Q g s a w):
 ∀(f:Nat) (s:Array Bool) (a:Act) (w:World),C w->HeadQ P md ops C n L f s a->wpAny P md ops Q (f+g) s a w
 | 0,s,a,w,hw,h=>by
  rw [Nat.zero_add];exact hL s a w hw h
 | f+1,s,a,w,hw,h=>by
  have e:f+1+g=(f+g)+1:=by omega
  rw [e];refine ⟨fun h0=>(h.1 h0).elim,fun i hi=>?_⟩;exact wpOp_of_qOp hw (fun a' w' hw' h'=>HeadQ.any hL f _ a' w' hw' h') (h.2 i hi).2
theorem HeadQ.first {n i:Nat} {o:Oper} {v:Value} {L:Array Bool->Act->Prop} (ho:ops[i]?=some o) (ns:Region.noSelect ops=true) (hs:Region.sinkB md ops n=true) (hc:Region.chainB md ops n=true) (hn:n<ops.size) (hin:i<n)
 (hd:∀s a,L s a->∀j∈Region.ready md ops s,n<=j) (f:Nat):∀(s:Array Bool) (a:Act),HeadInv md ops n s->
  (∀j oj,ops[j]?=some oj->j≠i->s.getD j true=false->(∀e∈oj.after,Region.binds md e=true->e.on≠i)->o.apart ops oj=true)->
  i∈Region.ready md ops s->YieldsIn P ops C o v a->HeadQ P md ops C n L f (s.setIfInBounds i true) (a.put o.dst v)->HeadQ P md ops C n L (f+1) s a:=by
 have sel:=Region.noSelect_spec ns
 induction f with
 | zero=>
  intro s a inv _ hr hy H;refine ⟨fun h=>(by rw [h] at hr;cases hr),fun j hj=>?_⟩;have hjn:j<n:=Nat.lt_of_not_le fun h=>tail_waits hs hc hn inv _ i rfl hin (mem_ready.1 hr).1 j h hj;refine ⟨hjn,?_⟩;by_cases hji:j=i
  ·subst hji;exact YieldsIn.qOp ho hy H
  ·exact absurd (hd _ _ H j (ready_mono hj hji)) (by omega)
 | succ f ih=>
  intro s a inv hfree hr hy H;refine ⟨fun h=>(by rw [h] at hr;cases hr),fun j hj=>?_⟩;have hun:=(mem_ready.1 hr).1;have hjn:j<n:=Nat.lt_of_not_le fun h=>tail_waits hs hc hn inv _ i rfl hin hun j h hj;refine ⟨hjn,?_⟩;by_cases hji:j=i
  ·subst hji;exact YieldsIn.qOp ho hy H
  obtain ⟨hjun,oj,hoj,hall⟩:=mem_ready.1 hj;have hno:∀e∈oj.after,Region.binds md e=true->e.on≠i:=fun e he hb heq=>by
   have:=hall e he hb;rw [heq,getD_both hun] at this;cases this
  refine qOp_mono (fun a' h3=>?_) (qOp_put hoj (hfree j oj hoj hji hjun hno) (fun cs b=>sel i o cs b ho) (fun cs b=>sel j oj cs b hoj) hy (H.2 j (ready_mono hj hji)).2);refine ih (s.setIfInBounds j true) a' (inv.set hj hjn) (fun k ok hk hki hku hkn=>?_) (ready_mono hr (Ne.symm hji)) h3.1 ?_
  ·refine hfree k ok hk hki ?_ hkn;by_cases hjk:j=k
   ·rw [<-hjk];exact hjun
   ·rwa [getD_set_ne true hjk] at hku
  ·rw [Array.setIfInBounds_comm _ _ hji];exact h3.2
theorem HeadQ.lex {n g:Nat} {L:Act->Prop} (ns:Region.noSelect ops=true) (hs:Region.sinkB md ops n=true) (hc:Region.chainB md ops n=true) (hn:n<ops.size):
 ∀(l:List Oper) (k:Nat) (s:Array Bool) (a:Act),(∀j,j<l.length->l[j]?=ops[k+j]?)->k+l.length=n->HeadInv md ops n s->Region.lexHead md ops g l.length k s=true->wpQuiet P ops C L l a->
  HeadQ P md ops C n (fun s' a'=>Region.seqB md ops g n s'=true∧L a') l.length s a
 | [],k,s,a,_,hk,_,hB,h=>by
  obtain rfl:k=n:=by simpa using hk
  exact ⟨by simpa [Region.lexHead] using hB,h⟩
 | o::l,k,s,a,hl,hk,inv,hB,h=>by
  rw [List.length_cons] at hk;have h0:ops[k]?=some o:=by simpa using (hl 0 (by simp)).symm
  simp only [List.length_cons,Region.lexHead,Bool.and_eq_true] at hB;have hr:k∈Region.ready md ops s:=by simpa using hB.1.1
  have hq:qOp P ops C k (wpQuiet P ops C L l) a:=by
   unfold qOp;simp only [h0];exact h
  obtain ⟨v,hy,hK⟩:=yieldsIn_of_qOp h0 hq;refine HeadQ.first h0 ns hs hc hn (by omega) (fun s' a' hL=>seqB_ready hL.1) l.length s a inv (Region.free_spec h0 hB.1.2) hr hy ?_;refine HeadQ.lex ns hs hc hn l (k+1) _ _ (fun j hj=>?_) (by omega) (inv.set hr (by omega)) hB.2 hK;have:=hl (j+1) (by simp;omega);simpa [Nat.add_assoc,Nat.add_comm 1 j] using this
theorem oZ {id:Nat} {Q:Exit->Act->World->Prop} {a:Act} {w:World} {l:List Oper} (n:Nat) (hm:P.follows .mixedOrders=true) (hB:Region.lexTailB .any l.toArray n=true) (hC:C w.drew)
 (h:wpQuiet P l.toArray C (fun a'=>∀w',C w'->wpList P l.toArray Q (l.drop n) a' w') (l.take n) a):(Code.region id l.toArray true).wp P Q a w:=by
 simp only [Region.lexTailB,Bool.and_eq_true,decide_eq_true_eq] at hB;obtain ⟨⟨⟨⟨ns,hn⟩,hs⟩,hc⟩,hx⟩:=hB;have hn':n<l.length:=by simpa using hn
 have e1:(l.take n).length=n:=by simp;omega
 have e2:(l.drop n).length=l.toArray.size-n:=by simp
 have i0:HeadInv .any l.toArray n (Array.replicate l.toArray.size false):=
  ⟨by simp,fun j oj _ hl=>(by rw [getD_replicate_false] at hl;cases hl),fun t _ ht=>getD_in (by simpa using ht) (getD_replicate_false _ _)⟩
 have hl:=HeadQ.lex (P:=P) (C:=C) (g:=l.toArray.size-n) ns hs hc hn (l.take n) 0 (Array.replicate l.toArray.size false) a (fun j hj=>by
  rw [e1] at hj;simp [hj]) (by rw [e1];omega) i0 (by rw [e1];exact hx) h
 rw [e1] at hl;refine wp_region_any hm ?_;have:=HeadQ.any (Q:=Q) (g:=l.toArray.size-n) (C:=C) (fun s a' w' hw' hL=>by
  have q:=wpAny_of_seq (P:=P) (Q':=Q) (l.drop n) n s a' w' (fun j=>by simp [List.getElem?_drop]) (by rw [e2];exact hL.1) (hL.2 w' hw');rw [e2] at q;exact q) n _ a w.drew hC hl
 rw [show n+(l.toArray.size-n)=l.toArray.size by simp;omega] at this;exact this
end
theorem jA {P:Program} {id:Nat} {Q:Exit->Act->World->Prop} {a:Act} {w:World} {l:List Oper} (n:Nat) (hm:P.follows .mixedOrders=true) (hB:Region.lexTailB .any l.toArray n=true)
 (h:wpQuiet P l.toArray (fun w'=>∃u:Lies w,w'=u.w) (fun a'=>∀w',(∃u:Lies w,w'=u.w)->wpList P l.toArray Q (l.drop n) a' w') (l.take n) a):(Code.region id l.toArray true).wp P Q a w:=
 oZ n hm hB ⟨⟨w.drew,(Below.refl _ _).drew⟩,rfl⟩ h
def tA (o:Oper):Bool:=
 match o.op with
 | .move _ | .assign _ | .load _ _ | .fieldAddr _ _ _ | .field _ _ _ | .binOp _ _ _ _ _ | .unOp _ _ _ | .convert _ _ _ | .extract _ _ | .makeInterface _ _ | .build _ _ | .indexAddr _ _ _ | .nilCheck _ | .slice _ _ _ _ _ | .sliceToArrayPointer _ _=>true
 | _=>false
theorem yB {P:Program} {s:Sem Value} {w w':World} {n:Next} (h:(do pure (.value (<-s)):Sem Next).run P w=.ok n w'):∃v,n=.value v:=by
 simp only [Sem.run_bind,Sem.run_pure] at h;generalize s.run P w=r at h;cases r with
 | ok x w1=>
  simp only [Result.andThen_ok,Result.ok.injEq] at h;exact ⟨x,h.1.symm⟩
 | halt x w1=>simp [Result.andThen] at h
theorem qA {P:Program} {ρ:Operand->Value} {o:Oper} {w w':World} {n:Next} (hp:tA o=true) (h:(execOp ρ o).run P w=.ok n w'):∃v,n=.value v:=by
 unfold tA at hp;unfold execOp at h;obtain ⟨dst,op,ty,pos,af,gd⟩:=o;cases op;all_goals first
  | (cases hp;done)
  | exact yB h
  | (simp only [Sem.run_pure,Result.ok.injEq] at h;exact ⟨_,h.1.symm⟩)
  | skip
 rename_i x;simp only at h;split at h;all_goals first
  | (simp only [Sem.run_pure,Result.ok.injEq] at h;exact ⟨_,h.1.symm⟩)
  | (exfalso;revert h;simp [runtimePanic,go_sem];done)
  | skip
 split at h;all_goals first
  | (simp only [Sem.run_pure,Result.ok.injEq] at h;exact ⟨_,h.1.symm⟩)
  | (exfalso;revert h;simp [runtimePanic,go_sem];done)
  | skip
 simp only [Sem.run_bind] at h;generalize Sem.run P program w=r1 at h;cases r1 with
 | halt y w1=>simp [Result.andThen] at h
 | ok p w1=>
  simp only [Result.andThen_ok] at h;generalize Sem.run P (nilAhead _ _ _ _) w1=r2 at h;cases r2 with
  | halt y w2=>simp [Result.andThen] at h
  | ok q w2=>
   simp only [Result.andThen_ok] at h;split at h
   ·simp only [Sem.run_bind] at h;generalize Sem.run P (unsupported _) w2=r3 at h;cases r3 with
    | halt y w3=>simp [Result.andThen] at h
    | ok q w3=>
     simp only [Result.andThen_ok,Sem.run_pure,Result.ok.injEq] at h;exact ⟨_,h.1.symm⟩
   ·simp only [Sem.run_pure,Result.ok.injEq] at h;exact ⟨_,h.1.symm⟩
structure Has (b:Nat) (o:Obj) where
 w:World
 h:w.heap[b]?=some o
structure Has2 (b:Nat) (o:Obj) (b':Nat) (o':Obj) where
 w:World
 h:w.heap[b]?=some o
 h':w.heap[b']?=some o'
structure HasC (l:List (Addr × Value)) where
 w:World
 h:∀q∈l,w.cell? q.1=some q.2
theorem cG {Q:Exit->Act->World->Prop} (h:∀x a a' w,a'.defers=a.defers->Q (.panic x) a' w->Q (.panic x) a w) (x:List PanicEntry) (a:Act) (d:Option Tmp) (v:Value) (w:World) (hq:Q (.panic x) (a.put d v) w):Q (.panic x) a w:=
 h x a _ w (by cases d <;> rfl) hq
section
variable {P:Program} {ops:Array Oper} {Q:Exit->Act->World->Prop} {F:World->Prop} {c:Nat}
def zN (ops:Array Oper) (c:Nat):List Nat->Array Bool->Bool
 | [],_=>true
 | i::is,s=>pC ops s && Region.free .any ops s i && (Region.ready .any ops s).contains i && (i != c) && nU ops ops.size c i && (match ops[i]? with | some o=>tA o | none=>false) && zN ops c is (s.setIfInBounds i true)
def uO:List Nat->Array Bool->Array Bool
 | [],s=>s
 | i::is,s=>uO is (s.setIfInBounds i true)
def fI (ops:Array Oper):List Nat->List Oper
 | []=>[]
 | i::is=>match ops[i]? with
  | some o=>o::fI ops is
  | none=>fI ops is
theorem cW (ns:Region.noSelect ops=true) {fuel:Nat} {w:World} (hF:F w) (hQ:∀x a (d:Option Tmp) v w,Q (.panic x) (a.put d v) w->Q (.panic x) a w):∀(is:List Nat) (s:Array Bool) (a:Act),zN ops c is s=true->
 wpQuiet P ops F (fun a'=>du P ops Q F c fuel (uO is s) a' w) (fI ops is) a->du P ops Q F c (fuel+is.length) s a w
 | [],s,a,_,h=>h
 | i::is,s,a,hB,h=>by
  simp only [zN,Bool.and_eq_true] at hB;obtain ⟨⟨⟨⟨⟨⟨h1,h2⟩,h3⟩,h4⟩,h5⟩,h6⟩,h7⟩:=hB;cases ho:ops[i]? with
  | none=>rw [ho] at h6;cases h6
  | some o=>
   rw [ho] at h6;simp only [fI,ho,wpQuiet] at h;have key:∀v,YieldsIf P ops (fun w=>∃l,Closed ops l∧l.getD i true=false∧(l.getD c false=false->F w)) o v a->wpQuiet P ops F (fun a'=>du P ops Q F c fuel (uO is (s.setIfInBounds i true)) a' w) (fI ops is) (a.put o.dst v)->du P ops Q F c (fuel+(i::is).length) s a w:=fun v hy hn=>
    jk ho (by simpa using h4) (Region.noSelect_spec ns) (fun x a w=>hQ x a _ _ w) (fuel+is.length) s a w (gW h1) (Region.free_spec ho h2) (by simpa using h3) hy (fun _=>hF) (cW ns hF hQ is _ _ h7 hn)
   split at h
   ·rename_i hw;obtain ⟨v,hv,hn⟩:=h;refine key v (.inl ⟨hw,fun u ⟨l,l1,l2,l3⟩=>?_⟩) hn;have hFu:F u:=l3 (by
     cases hh:l.getD c false
     ·rfl
     ·have:=iz l1 _ _ h5 hh;rw [kS l2] at this;cases this)
    have hq:=hv u hFu;unfold Oper.quietAt at hq;generalize hr:(execOp a.eval o).run P u=r at hq;cases r with
    | halt x w1=>exact hq.elim
    | ok n w1=>
     obtain ⟨x,rfl⟩:=qA h6 hr;obtain ⟨rfl,rfl⟩:=hq;rfl
   ·rename_i hw;exact key undef (.inr ⟨by simpa using hw,rfl⟩) h
theorem ck {fuel:Nat} {listed:Array Bool} {a:Act} {w:World} (i:Nat) {o:Oper} (d:Tmp) (hd:o.dst=some d) (hi:ops[i]?=some o) (hg:o.guard=none) (hr:Region.ready .any ops listed=[i]) {f:FuncId} {args:Array Value} (he:(execOp a.eval o).run P w=.ok (.enter f args) w)
 (h:Calls P f args w fun e w'=>(∃x,e=.returned x∧((listed.setIfInBounds i true).getD c false=false->F w')∧du P ops Q F c fuel (listed.setIfInBounds i true) (a.put (some d) x) w')∨(∃ch,e=.panicked ch∧Q (.panic ch) a w')):du P ops Q F c (fuel+1) listed a w:=by
 refine mG i hr ?_;unfold wpOp;simp only [hi];rw [if_pos (by simp [Region.wanted,hg])];refine .inl ?_;unfold Oper.wp;rw [he];refine h.mono ?_;rintro e w' (⟨x,rfl,hS,h2⟩ | ⟨ch,rfl,h2⟩)
 ·refine ⟨hS,?_⟩;rw [hd];exact h2
 ·exact h2
end
section
attribute [local go_sem ↓] Go.wp_at_zero Go.wp_at_succ
theorem iB (mode:Int) (sum mxr:Bool) (satp:Int) (w:World) (h0:0<=satp) (h1:satp<=18446744073709551615):
 Calls Tryz.prog 195 #[dK mode sum mxr satp] w fun e w'=>e=.returned (.bool (onM mode satp))∧Below w.heap.size w w':=by
 unfold dK;have b1:=(Below.refl w.heap.size w).alloc nle (Obj.cells #[.int .i64 mode,.bool sum,.bool mxr,.int .u64 satp] 205);have HS:Hid (satp/1152921504606846976=satp/1152921504606846976%16):=show _=_ by omega
 cases hs:(satp/1152921504606846976 == 8)
 ·go_enter Tryz.func195,Tryz.ntmps195;go_wp2_with fail;go_ret;exact ⟨aB (by rw [onM,<-HS.out,hs];rfl),b1⟩
 ·cases hm0:(mode == 0)
  ·go_enter Tryz.func195,Tryz.ntmps195;go_wp2_with fail;go_ret;exact ⟨aB (by rw [onM,<-HS.out,hs,hm0];rfl),b1⟩
  ·go_enter Tryz.func195,Tryz.ntmps195;go_wp2_with fail;go_ret;exact ⟨aB (by rw [onM,<-HS.out,hs,hm0];rfl),b1⟩
theorem fA (pte level mode:Int) (sum mxr:Bool) (satp kind va:Int) (w:World) (h0:0<=pte) (h1:pte<=18446744073709551615) (hv:0<=va) (hv':va<=18446744073709551615) (hl:level=0∨level=1∨level=2):
 Calls Tryz.prog 200 #[.int .u64 pte,.int .i64 level,dK mode sum mxr satp,.int .i64 kind,.int .u64 va] w fun e w'=>
  e=.returned (.tuple #[.int .u64 (if cF pte kind mode sum mxr=true then eX pte level va else 0),bW (if cF pte kind mode sum mxr=true then 1 else 2)])∧Below w.heap.size w w':=by
 unfold dK;have b1:=(Below.refl w.heap.size w).alloc nle (Obj.cells #[.int .i64 mode,.bool sum,.bool mxr,.int .u64 satp] 205);cases hg:cF pte kind mode sum mxr
 ·have HG:=hid hg;clear hg;rw [if_neg (by simp),if_neg (by simp)];go_enter Tryz.func200,Tryz.ntmps200;go_wp2_with (go_at_call 206;refine (kl pte kind mode sum mxr _ h0 h1).mono ?_;rintro e w' ⟨rfl,rfl⟩;rw [HG.out]);exact bodyPost_ret (v:=.tuple #[.int .u64 0,.iface 282 (.agg #[])]) (by simp [results,Tryz.results200,go_sem]) rfl ⟨rfl,b1⟩
 ·have HG:=hid hg;clear hg;rw [if_pos rfl,if_pos rfl];go_enter Tryz.func200,Tryz.ntmps200;go_wp2_with (first
   | (go_at_call 206;refine (kl pte kind mode sum mxr _ h0 h1).mono ?_;rintro e w' ⟨rfl,rfl⟩;rw [HG.out])
   | (go_at_call 207;refine (Bd pte level va _ h0 h1 hl hv hv').mono ?_;rintro e w' ⟨rfl,rfl⟩))
  exact bodyPost_ret (v:=.tuple #[.int .u64 (eX pte level va),.nilIface]) (by simp [results,Tryz.results200,go_sem]) rfl ⟨rfl,b1⟩
theorem Bl (w:World):(binOp .neq 272 (.iface 282 (.agg #[])) .nilIface).run Tryz.prog w=.ok (.bool true) w:=by kernel_rfl
theorem Bm (w:World):(binOp .neq 272 (.iface 283 (.agg #[])) .nilIface).run Tryz.prog w=.ok (.bool true) w:=by kernel_rfl
theorem Bn (w:World):(binOp .neq 272 .nilIface .nilIface).run Tryz.prog w=.ok (.bool false) w:=by kernel_rfl
def kU (r:Int × Int × Int × List dG) (mode:Int) (sum mxr:Bool) (kind va:Int):Int × Int:=
 if r.1=1 then (if cF r.2.2.1 kind mode sum mxr=true then (eX r.2.2.1 r.2.1 va,1) else (0,2)) else (0,r.1)
theorem mZ {w w':World} {g:Nat} {o:Obj} (h:Hid (w.heap[g]?=some o)) (n:Below w.heap.size w w') (l:g<w.heap.size):Hid (w'.heap[g]?=some o):=ae h.out n l
theorem sQ (sv:Value) (zs:List Int) (mode:Int) (sum mxr:Bool) (satp kind va:Int) (w:World) (hB:SrcAt w sv zs) (hv0:0<=va) (hv1:va<=18446744073709551615) (hs0:0<=satp) (hs1:satp<=18446744073709551615) (hon:onM mode satp=true):
 Calls Tryz.prog 231 #[sv,dK mode sum mxr satp,.int .i64 kind,.int .u64 va] w fun e w'=>
  e=.returned (.tuple #[.int .u64 (kU (ce zs satp va) mode sum mxr kind va).1,bW (kU (ce zs satp va) mode sum mxr kind va).2])∧Below w.heap.size w w':=by
 have HB:=hid hB;have HTR:Hid (∀w,Calls Tryz.prog 195 #[.agg #[.int .i64 mode,.bool sum,.bool mxr,.int .u64 satp]] w fun e w'=>e=.returned (.bool true)∧Below w.heap.size w w'):=fun w=>by have:=iB mode sum mxr satp w hs0 hs1;rw [hon] at this;exact this
 clear hon;have hcd:=lW zs satp va;have hbd:=qy zs satp va hB.bd;clear hB;obtain ⟨X,hX⟩:∃X,ce zs satp va=X:=⟨_,rfl⟩;have HX:=hid hX;rw [hX] at hcd hbd |-;clear hX;obtain ⟨x1,x2,x3,rs⟩:=X;simp only at hcd hbd;unfold dK;have b1:=(Below.refl w.heap.size w).alloc nle (Obj.cells #[.int .i64 mode,.bool sum,.bool mxr,.int .u64 satp] 205);have r1:Hid ((w.alloc (Obj.cells #[.int .i64 mode,.bool sum,.bool mxr,.int .u64 satp] 205)).heap[w.heap.size]?=some (.cells #[.int .i64 mode,.bool sum,.bool mxr,.int .u64 satp] 205 (0,0))):=heap_alloc_new w _;have l1:w.heap.size<(w.alloc (Obj.cells #[.int .i64 mode,.bool sum,.bool mxr,.int .u64 satp] 205)).heap.size:=by simp
 have q1:=Bl;have q2:=Bm;have q3:=Bn;rcases hcd with rfl | rfl | rfl
 ·obtain ⟨⟨y1,y2⟩,hY⟩:∃Y,kU (1,x2,x3,rs) mode sum mxr kind va=Y:=⟨_,rfl⟩;rw [hY];obtain ⟨fv,hfv⟩:∃fv,bW y2=fv:=⟨_,rfl⟩;have HTL:Hid (∀w,Calls Tryz.prog 200 #[.int .u64 x3,.int .i64 x2,.agg #[.int .i64 mode,.bool sum,.bool mxr,.int .u64 satp],.int .i64 kind,.int .u64 va] w fun e w'=>
   e=.returned (.tuple #[.int .u64 y1,fv])∧Below w.heap.size w w'):=by
   intro w;have:=fA x3 x2 mode sum mxr satp kind va w hbd.1 hbd.2.1 hv0 hv1 (by omega);unfold dK at this;rw [<-hfv];cases hg:cF x3 kind mode sum mxr
   ·simp [kU,hg] at hY;obtain ⟨rfl,rfl⟩:=hY;simpa [hg] using this
   ·simp [kU,hg] at hY;obtain ⟨rfl,rfl⟩:=hY;simpa [hg] using this
  rw [hfv];clear hY hfv;go_enter Tryz.func231,Tryz.ntmps231;go_wp2_with fail;generalize w.alloc (Obj.cells #[.int .i64 mode,.bool sum,.bool mxr,.int .u64 satp] 205)=v0 at b1 r1 l1 |-;refine (HTR.out v0).mono ?_;rintro e v1 ⟨rfl,n1⟩;replace r1:=mZ r1 n1 l1;replace b1:=bst b1 n1;replace l1:=Nat.lt_of_lt_of_le l1 n1.size;clear n1;obtain ⟨⟨d0,d1,d2,d3⟩,e0,e1,e2,e3⟩:=av r1.out;go_wp2_with fail;clear d0 d1 d2 d3 e0 e1 e2 e3;refine (gQ sv zs va satp v1 (HB.out.keep b1) hv0 hv1 hs0 hs1).mono ?_;rintro e v2 ⟨hw,n2⟩;rw [HX.out] at hw;obtain ⟨ra,rc,rfl,o2⟩:=hw;clear o2;rw [show bW 1=.nilIface from rfl];have b2:=bst b1 n2;have r2:=hid (ae r1.out n2 l1);have l2:=Nat.lt_of_lt_of_le l1 n2.size;obtain ⟨⟨d0,d1,d2,d3⟩,e0,e1,e2,e3⟩:=av r2.out;have b3:=b2.alloc (by omega) (Obj.cells #[.int .i64 x2,.int .u64 x3,.slice ra rs.length rc] 310);clear b1 r1 l1 n2;go_wp2_with fail;refine (HTL.out _).mono ?_;rintro e v4 ⟨rfl,n4⟩;have b4:=bst b3 n4;go_wp2_with fail;exact bodyPost_ret (v:=.tuple #[.int .u64 y1,fv]) (by simp [results,Tryz.results231,go_sem]) rfl ⟨rfl,b4⟩
 ·rw [show kU (2,x2,x3,rs) mode sum mxr kind va=(0,2) from rfl];rw [show bW 2=.iface 282 (.agg #[]) from rfl];go_enter Tryz.func231,Tryz.ntmps231;go_wp2_with fail;generalize w.alloc (Obj.cells #[.int .i64 mode,.bool sum,.bool mxr,.int .u64 satp] 205)=v0 at b1 r1 l1 |-;refine (HTR.out v0).mono ?_;rintro e v1 ⟨rfl,n1⟩;replace r1:=mZ r1 n1 l1;replace b1:=bst b1 n1;replace l1:=Nat.lt_of_lt_of_le l1 n1.size;clear n1;obtain ⟨⟨d0,d1,d2,d3⟩,e0,e1,e2,e3⟩:=av r1.out;go_wp2_with fail;clear d0 d1 d2 d3 e0 e1 e2 e3;refine (gQ sv zs va satp v1 (HB.out.keep b1) hv0 hv1 hs0 hs1).mono ?_;rintro e v2 ⟨hw,n2⟩;rw [HX.out] at hw;obtain ⟨ra,rc,rfl,o2⟩:=hw;clear o2;rw [show bW 2=.iface 282 (.agg #[]) from rfl];have b2:=bst b1 n2;have r2:=hid (ae r1.out n2 l1);have l2:=Nat.lt_of_lt_of_le l1 n2.size;obtain ⟨⟨d0,d1,d2,d3⟩,e0,e1,e2,e3⟩:=av r2.out;have b3:=b2.alloc (by omega) (Obj.cells #[.int .i64 x2,.int .u64 x3,.slice ra rs.length rc] 310);clear b1 r1 l1 n2;go_wp2_with fail;exact bodyPost_ret (v:=.tuple #[.int .u64 0,.iface 282 (.agg #[])]) (by simp [results,Tryz.results231,go_sem]) rfl ⟨rfl,b3⟩
 ·rw [show kU (3,x2,x3,rs) mode sum mxr kind va=(0,3) from rfl];rw [show bW 3=.iface 283 (.agg #[]) from rfl];go_enter Tryz.func231,Tryz.ntmps231;go_wp2_with fail;generalize w.alloc (Obj.cells #[.int .i64 mode,.bool sum,.bool mxr,.int .u64 satp] 205)=v0 at b1 r1 l1 |-;refine (HTR.out v0).mono ?_;rintro e v1 ⟨rfl,n1⟩;replace r1:=mZ r1 n1 l1;replace b1:=bst b1 n1;replace l1:=Nat.lt_of_lt_of_le l1 n1.size;clear n1;obtain ⟨⟨d0,d1,d2,d3⟩,e0,e1,e2,e3⟩:=av r1.out;go_wp2_with fail;clear d0 d1 d2 d3 e0 e1 e2 e3;refine (gQ sv zs va satp v1 (HB.out.keep b1) hv0 hv1 hs0 hs1).mono ?_;rintro e v2 ⟨hw,n2⟩;rw [HX.out] at hw;obtain ⟨ra,rc,rfl,o2⟩:=hw;clear o2;rw [show bW 3=.iface 283 (.agg #[]) from rfl];have b2:=bst b1 n2;have r2:=hid (ae r1.out n2 l1);have l2:=Nat.lt_of_lt_of_le l1 n2.size;obtain ⟨⟨d0,d1,d2,d3⟩,e0,e1,e2,e3⟩:=av r2.out;have b3:=b2.alloc (by omega) (Obj.cells #[.int .i64 x2,.int .u64 x3,.slice ra rs.length rc] 310);clear b1 r1 l1 n2;go_wp2_with fail;exact bodyPost_ret (v:=.tuple #[.int .u64 0,.iface 283 (.agg #[])]) (by simp [results,Tryz.results231,go_sem]) rfl ⟨rfl,b3⟩
theorem rx (sv:Value) (mode:Int) (sum mxr:Bool) (satp kind va:Int) (w:World) (hs0:0<=satp) (hs1:satp<=18446744073709551615) (hon:onM mode satp=false):
 Calls Tryz.prog 231 #[sv,dK mode sum mxr satp,.int .i64 kind,.int .u64 va] w fun e w'=>
  e=.returned (.tuple #[.int .u64 va,bW 1])∧Below w.heap.size w w':=by
 have HTR:Hid (∀w,Calls Tryz.prog 195 #[.agg #[.int .i64 mode,.bool sum,.bool mxr,.int .u64 satp]] w fun e w'=>e=.returned (.bool false)∧Below w.heap.size w w'):=fun w=>by have:=iB mode sum mxr satp w hs0 hs1;rw [hon] at this;exact this
 clear hon;unfold dK;have b1:=(Below.refl w.heap.size w).alloc nle (Obj.cells #[.int .i64 mode,.bool sum,.bool mxr,.int .u64 satp] 205);rw [show bW 1=.nilIface from rfl];go_enter Tryz.func231,Tryz.ntmps231;go_wp2_with fail;generalize w.alloc (Obj.cells #[.int .i64 mode,.bool sum,.bool mxr,.int .u64 satp] 205)=v0 at b1 |-;refine (HTR.out v0).mono ?_;rintro e v1 ⟨rfl,n1⟩;have b2:=bst b1 n1;go_wp2_with fail;exact bodyPost_ret (v:=.tuple #[.int .u64 va,.nilIface]) (by simp [results,Tryz.results231,go_sem]) rfl ⟨rfl,b2⟩
def ir (zs:List Int) (mode:Int) (sum mxr:Bool) (satp kind va:Int):Int × Int:=
 if onM mode satp=false then (va,1) else kU (ce zs satp va) mode sum mxr kind va
theorem ry (sv:Value) (zs:List Int) (mode:Int) (sum mxr:Bool) (satp kind va:Int) (w:World) (hB:SrcAt w sv zs) (hv0:0<=va) (hv1:va<=18446744073709551615) (hs0:0<=satp) (hs1:satp<=18446744073709551615):
 Calls Tryz.prog 231 #[sv,dK mode sum mxr satp,.int .i64 kind,.int .u64 va] w fun e w'=>
  e=.returned (.tuple #[.int .u64 (ir zs mode sum mxr satp kind va).1,bW (ir zs mode sum mxr satp kind va).2])∧Below w.heap.size w w':=by
 unfold ir;cases hon:onM mode satp
 ·rw [if_pos rfl];exact rx sv mode sum mxr satp kind va w hs0 hs1 hon
 ·rw [if_neg (by simp)];exact sQ sv zs mode sum mxr satp kind va w hB hv0 hv1 hs0 hs1 hon
theorem wf (r:Int × Int × Int × List dG) (mode:Int) (sum mxr:Bool) (kind va:Int) (h:r.1=1∨r.1=2∨r.1=3):
 cK r mode sum mxr kind va=((if (kU r mode sum mxr kind va).2=1 then 0 else if (kU r mode sum mxr kind va).2=2 then dL kind else bE kind),(kU r mode sum mxr kind va).1):=by
 unfold cK kU er;rcases h with h | h | h <;> rw [h]
 ·cases cF r.2.2.1 kind mode sum mxr <;> simp
 ·simp
 ·simp
theorem ya (r:Int × Int × Int × List dG) (mode:Int) (sum mxr:Bool) (kind va:Int) (h:r.1=1∨r.1=2∨r.1=3):
 (kU r mode sum mxr kind va).2=1∨(kU r mode sum mxr kind va).2=2∨(kU r mode sum mxr kind va).2=3:=by
 unfold kU;rcases h with h | h | h <;> rw [h]
 ·cases cF r.2.2.1 kind mode sum mxr <;> simp
 ·simp
 ·simp
end
end Go.Proofs.YtgnnmgfgfihljaaGreat
