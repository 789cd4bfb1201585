import Derived.Test.YtjdmhibnhpdjaaaGreatPk09
import Derived.Test.YtjdmhibnhpdjaaaGreatPk14
namespace Go.Proofs.YtjdmhibnhpdjaaaGreat
open Go.RowKit
set_option linter.unusedVariables false
set_option maxHeartbeats 6400000
set_option maxRecDepth 20000
section
variable {P:Program} {ops:Array Oper} {md:Region.Mode} {C:World->Prop}
def HeadQ (P:Program) (md:Region.Mode) (ops:Array Oper) (C:World->Prop) (n:Nat) (L:Array Bool->Act->Prop):Nat->Array Bool->Act->Prop
 | 0,s,a=>L s a
 | f+1,s,a=>Region.ready md ops s≠[]∧∀i∈Region.ready md ops s,i<n∧qOp P ops C i (HeadQ P md ops C n L f (s.setIfInBounds i true)) a
theorem HeadQ.any {n g:Nat} {L:Array Bool->Act->Prop} {Q:Exit->Act->World->Prop} (hL:∀s a w,C w->L s a->wpAny P md ops Q g s a w):
 ∀(f:Nat) (s:Array Bool) (a:Act) (w:World),C w->HeadQ P md ops C n L f s a->wpAny P md ops Q (f+g) s a w
 | 0,s,a,w,hw,h=>by
  rw [Nat.zero_add];exact hL s a w hw h
 | f+1,s,a,w,hw,h=>by
  have e:f+1+g=(f+g)+1:=by omega
  rw [e];refine ⟨fun h0=>(h.1 h0).elim,fun i hi=>?_⟩;exact wpOp_of_qOp hw (fun a' w' hw' h'=>HeadQ.any hL f _ a' w' hw' h') (h.2 i hi).2
theorem HeadQ.first {n i:Nat} {o:Oper} {v:Value} {L:Array Bool->Act->Prop} (ho:ops[i]?=some o) (ns:Region.noSelect ops=true) (hs:Region.sinkB md ops n=true) (hc:Region.chainB md ops n=true) (hn:n<ops.size) (hin:i<n)
 (hd:∀s a,L s a->∀j∈Region.ready md ops s,n<=j) (f:Nat):∀(s:Array Bool) (a:Act),HeadInv md ops n s->
  (∀j oj,ops[j]?=some oj->j≠i->s.getD j true=false->(∀e∈oj.after,Region.binds md e=true->e.on≠i)->o.apart ops oj=true)->
  i∈Region.ready md ops s->YieldsIn P ops C o v a->HeadQ P md ops C n L f (s.setIfInBounds i true) (a.put o.dst v)->HeadQ P md ops C n L (f+1) s a:=by
 have sel:=Region.noSelect_spec ns
 induction f with
 | zero=>
  intro s a inv _ hr hy H;refine ⟨fun h=>(by rw [h] at hr;cases hr),fun j hj=>?_⟩;have hjn:=Nat.lt_of_not_le fun h=>tail_waits hs hc hn inv _ i rfl hin (mem_ready.1 hr).1 j h hj;refine ⟨hjn,?_⟩;by_cases hji:j=i
  ·subst hji;exact YieldsIn.qOp ho hy H
  ·exact absurd (hd _ _ H j (ready_mono hj hji)) (by omega)
 | succ f ih=>
  intro s a inv hfree hr hy H;refine ⟨fun h=>(by rw [h] at hr;cases hr),fun j hj=>?_⟩;have hun:=(mem_ready.1 hr).1;have hjn:=Nat.lt_of_not_le fun h=>tail_waits hs hc hn inv _ i rfl hin hun j h hj;refine ⟨hjn,?_⟩;by_cases hji:j=i
  ·subst hji;exact YieldsIn.qOp ho hy H
  obtain ⟨hjun,oj,hoj,hall⟩:=mem_ready.1 hj;have hno:∀e∈oj.after,Region.binds md e=true->e.on≠i:=fun e he hb heq=>by
   have:=hall e he hb;rw [heq,getD_both hun] at this;cases this
  refine qOp_mono (fun a' h3=>?_) (qOp_put hoj (hfree j oj hoj hji hjun hno) (fun cs b=>sel i o cs b ho) (fun cs b=>sel j oj cs b hoj) hy (H.2 j (ready_mono hj hji)).2);refine ih (s.setIfInBounds j true) a' (inv.set hj hjn) (fun k ok hk hki hku hkn=>?_) (ready_mono hr (Ne.symm hji)) h3.1 ?_
  ·refine hfree k ok hk hki ?_ hkn;by_cases hjk:j=k
   ·rw [<-hjk];exact hjun
   ·rwa [getD_set_ne true hjk] at hku
  ·rw [Array.setIfInBounds_comm _ _ hji];exact h3.2
theorem HeadQ.lex {n g:Nat} {L:Act->Prop} (ns:Region.noSelect ops=true) (hs:Region.sinkB md ops n=true) (hc:Region.chainB md ops n=true) (hn:n<ops.size):
 ∀(l:List Oper) (k:Nat) (s:Array Bool) (a:Act),(∀j,j<l.length->l[j]?=ops[k+j]?)->k+l.length=n->HeadInv md ops n s->Region.lexHead md ops g l.length k s=true->wpQuiet P ops C L l a->
  HeadQ P md ops C n (fun s' a'=>Region.seqB md ops g n s'=true∧L a') l.length s a
 | [],k,s,a,_,hk,_,hB,h=>by
  obtain rfl:k=n:=by simpa using hk
  exact ⟨by simpa [Region.lexHead] using hB,h⟩
 | o::l,k,s,a,hl,hk,inv,hB,h=>by
  rw [List.length_cons] at hk;have h0:ops[k]?=some o:=by simpa using (hl 0 (by simp)).symm
  simp only [List.length_cons,Region.lexHead,Bool.and_eq_true] at hB;have hr:k∈Region.ready md ops s:=by simpa using hB.1.1
  have hq:qOp P ops C k (wpQuiet P ops C L l) a:=by
   unfold qOp;simp only [h0];exact h
  obtain ⟨v,hy,hK⟩:=yieldsIn_of_qOp h0 hq;refine HeadQ.first h0 ns hs hc hn (by omega) (fun s' a' hL=>seqB_ready hL.1) l.length s a inv (Region.free_spec h0 hB.1.2) hr hy ?_;refine HeadQ.lex ns hs hc hn l (k+1) _ _ (fun j hj=>?_) (by omega) (inv.set hr (by omega)) hB.2 hK;have:=hl (j+1) (by simp;omega);simpa [Nat.add_assoc,Nat.add_comm 1 j] using this
theorem tq {id:Nat} {Q:Exit->Act->World->Prop} {a:Act} {w:World} {l:List Oper} (n:Nat) (hm:P.follows .mixedOrders=true) (hB:Region.lexTailB .any l.toArray n=true) (hC:C w.drew)
 (h:wpQuiet P l.toArray C (fun a'=>∀w',C w'->wpList P l.toArray Q (l.drop n) a' w') (l.take n) a):(Code.region id l.toArray true).wp P Q a w:=by
 simp only [Region.lexTailB,Bool.and_eq_true,decide_eq_true_eq] at hB;obtain ⟨⟨⟨⟨ns,hn⟩,hs⟩,hc⟩,hx⟩:=hB;have hn':n<l.length:=by simpa using hn
 have e1:(l.take n).length=n:=by simp;omega
 have e2:(l.drop n).length=l.toArray.size-n:=by simp
 have i0:HeadInv .any l.toArray n (Array.replicate l.toArray.size false):=
  ⟨by simp,fun j oj _ hl=>(by rw [getD_replicate_false] at hl;cases hl),fun t _ ht=>getD_in (by simpa using ht) (getD_replicate_false _ _)⟩
 have hl:=HeadQ.lex (P:=P) (C:=C) (g:=l.toArray.size-n) ns hs hc hn (l.take n) 0 (Array.replicate l.toArray.size false) a (fun j hj=>by
  rw [e1] at hj;simp [hj]) (by rw [e1];omega) i0 (by rw [e1];exact hx) h
 rw [e1] at hl;refine wp_region_any hm ?_;have:=HeadQ.any (Q:=Q) (g:=l.toArray.size-n) (C:=C) (fun s a' w' hw' hL=>by
  have q:=wpAny_of_seq (P:=P) (Q':=Q) (l.drop n) n s a' w' (fun j=>by simp [List.getElem?_drop]) (by rw [e2];exact hL.1) (hL.2 w' hw');rw [e2] at q;exact q) n _ a w.drew hC hl
 rw [show n+(l.toArray.size-n)=l.toArray.size by simp;omega] at this;exact this
end
theorem pr {P:Program} {id:Nat} {Q:Exit->Act->World->Prop} {a:Act} {w:World} {l:List Oper} (n:Nat) (hm:P.follows .mixedOrders=true) (hB:Region.lexTailB .any l.toArray n=true)
 (h:wpQuiet P l.toArray (fun w'=>∃u:Lies w,w'=u.w) (fun a'=>∀w',(∃u:Lies w,w'=u.w)->wpList P l.toArray Q (l.drop n) a' w') (l.take n) a):(Code.region id l.toArray true).wp P Q a w:=
 tq n hm hB ⟨⟨w.drew,(brf).drew⟩,rfl⟩ h
def xB (o:Oper):Bool:=
 match o.op with
 | .move _ | .assign _ | .load _ _ | .fieldAddr _ _ _ | .field _ _ _ | .binOp _ _ _ _ _ | .unOp _ _ _ | .convert _ _ _ | .extract _ _ | .makeInterface _ _ | .build _ _ | .indexAddr _ _ _ | .nilCheck _ | .slice _ _ _ _ _ | .sliceToArrayPointer _ _=>true
 | _=>false
theorem BI {P:Program} {s:Sem Value} {w w':World} {n:Next} (h:(do pure (.value (<-s)):Sem Next).run P w=.ok n w'):∃v,n=.value v:=by
 simp only [Sem.run_bind,Sem.run_pure] at h;generalize s.run P w=r at h;cases r with
 | ok x w1=>
  simp only [Result.andThen_ok,Result.ok.injEq] at h;exact ⟨x,h.1.symm⟩
 | halt x w1=>simp [Result.andThen] at h
theorem uw {P:Program} {ρ:Operand->Value} {o:Oper} {w w':World} {n:Next} (hp:xB o=true) (h:(execOp ρ o).run P w=.ok n w'):∃v,n=.value v:=by
 unfold xB at hp;unfold execOp at h;obtain ⟨dst,op,ty,pos,af,gd⟩:=o;cases op;all_goals first
  | (cases hp;done)
  | exact BI h
  | (simp only [Sem.run_pure,Result.ok.injEq] at h;exact ⟨_,h.1.symm⟩)
  | skip
 rename_i x;simp only at h;split at h;all_goals first
  | (simp only [Sem.run_pure,Result.ok.injEq] at h;exact ⟨_,h.1.symm⟩)
  | (exfalso;revert h;simp [runtimePanic,go_sem];done)
  | skip
 split at h;all_goals first
  | (simp only [Sem.run_pure,Result.ok.injEq] at h;exact ⟨_,h.1.symm⟩)
  | (exfalso;revert h;simp [runtimePanic,go_sem];done)
  | skip
 simp only [Sem.run_bind] at h;generalize Sem.run P program w=r1 at h;cases r1 with
 | halt y w1=>simp [Result.andThen] at h
 | ok p w1=>
  simp only [Result.andThen_ok] at h;generalize Sem.run P (nilAhead _ _ _ _) w1=r2 at h;cases r2 with
  | halt y w2=>simp [Result.andThen] at h
  | ok q w2=>
   simp only [Result.andThen_ok] at h;split at h
   ·simp only [Sem.run_bind] at h;generalize Sem.run P (unsupported _) w2=r3 at h;cases r3 with
    | halt y w3=>simp [Result.andThen] at h
    | ok q w3=>
     simp only [Result.andThen_ok,Sem.run_pure,Result.ok.injEq] at h;exact ⟨_,h.1.symm⟩
   ·simp only [Sem.run_pure,Result.ok.injEq] at h;exact ⟨_,h.1.symm⟩
structure Has (b:Nat) (o:Obj) where
 w:World
 h:w.heap[b]?=some o
structure Has2 (b:Nat) (o:Obj) (b':Nat) (o':Obj) where
 w:World
 h:w.heap[b]?=some o
 h':w.heap[b']?=some o'
structure HasC (l:List (Addr × Value)) where
 w:World
 h:∀q∈l,w.cell? q.1=some q.2
theorem jl {Q:Exit->Act->World->Prop} (h:∀x a a' w,a'.defers=a.defers->Q (.panic x) a' w->Q (.panic x) a w) (x:List PanicEntry) (a:Act) (d:Option Tmp) (v:Value) (w:World) (hq:Q (.panic x) (a.put d v) w):Q (.panic x) a w:=
 h x a _ w (by cases d <;> rfl) hq
section
variable {P:Program} {ops:Array Oper} {Q:Exit->Act->World->Prop} {F:World->Prop} {c:Nat}
def Dh (ops:Array Oper) (c:Nat):List Nat->Array Bool->Bool
 | [],_=>true
 | i::is,s=>oO ops s && Region.free .any ops s i && (Region.ready .any ops s).contains i && (i != c) && pW ops ops.size c i && (match ops[i]? with | some o=>xB o | none=>false) && Dh ops c is (s.setIfInBounds i true)
def yM:List Nat->Array Bool->Array Bool
 | [],s=>s
 | i::is,s=>yM is (s.setIfInBounds i true)
def lJ (ops:Array Oper):List Nat->List Oper
 | []=>[]
 | i::is=>match ops[i]? with
  | some o=>o::lJ ops is
  | none=>lJ ops is
theorem jz (ns:Region.noSelect ops=true) {fuel:Nat} {w:World} (hF:F w) (hQ:∀x a (d:Option Tmp) v w,Q (.panic x) (a.put d v) w->Q (.panic x) a w):∀(is:List Nat) (s:Array Bool) (a:Act),Dh ops c is s=true->
 wpQuiet P ops F (fun a'=>iZ P ops Q F c fuel (yM is s) a' w) (lJ ops is) a->iZ P ops Q F c (fuel+is.length) s a w
 | [],s,a,_,h=>h
 | i::is,s,a,hB,h=>by
  simp only [Dh,Bool.and_eq_true] at hB;obtain ⟨⟨⟨⟨⟨⟨h1,h2⟩,h3⟩,h4⟩,h5⟩,h6⟩,h7⟩:=hB;cases ho:ops[i]? with
  | none=>rw [ho] at h6;cases h6
  | some o=>
   rw [ho] at h6;simp only [lJ,ho,wpQuiet] at h;have key:∀v,YieldsIf P ops (fun w=>∃l,Closed ops l∧l.getD i true=false∧(l.getD c false=false->F w)) o v a->wpQuiet P ops F (fun a'=>iZ P ops Q F c fuel (yM is (s.setIfInBounds i true)) a' w) (lJ ops is) (a.put o.dst v)->iZ P ops Q F c (fuel+(i::is).length) s a w:=fun v hy hn=>
    oM ho (by simpa using h4) (Region.noSelect_spec ns) (fun x a w=>hQ x a _ _ w) (fuel+is.length) s a w (mD h1) (Region.free_spec ho h2) (by simpa using h3) hy (fun _=>hF) (jz ns hF hQ is _ _ h7 hn)
   split at h
   ·rename_i hw;obtain ⟨v,hv,hn⟩:=h;refine key v (.inl ⟨hw,fun u ⟨l,l1,l2,l3⟩=>?_⟩) hn;have hFu:F u:=l3 (by
     cases hh:l.getD c false
     ·rfl
     ·have:=nm l1 _ _ h5 hh;rw [qF l2] at this;cases this)
    have hq:=hv u hFu;unfold Oper.quietAt at hq;generalize hr:(execOp a.eval o).run P u=r at hq;cases r with
    | halt x w1=>exact hq.elim
    | ok n w1=>
     obtain ⟨x,rfl⟩:=uw h6 hr;obtain ⟨rfl,rfl⟩:=hq;rfl
   ·rename_i hw;exact key undef (.inr ⟨by simpa using hw,rfl⟩) h
theorem jd {fuel:Nat} {listed:Array Bool} {a:Act} {w:World} (i:Nat) {o:Oper} (d:Tmp) (hd:o.dst=some d) (hi:ops[i]?=some o) (hg:o.guard=none) (hr:Region.ready .any ops listed=[i]) {f:FuncId} {args:Array Value} (he:(execOp a.eval o).run P w=.ok (.enter f args) w)
 (h:Calls P f args w fun e w'=>(∃x,e=.returned x∧((listed.setIfInBounds i true).getD c false=false->F w')∧iZ P ops Q F c fuel (listed.setIfInBounds i true) (a.put (some d) x) w')∨(∃ch,e=.panicked ch∧Q (.panic ch) a w')):iZ P ops Q F c (fuel+1) listed a w:=by
 refine oz i hr ?_;unfold wpOp;simp only [hi];rw [if_pos (by simp [Region.wanted,hg])];refine .inl ?_;unfold Oper.wp;rw [he];refine h.mono ?_;rintro e w' (⟨x,rfl,hS,h2⟩ | ⟨ch,rfl,h2⟩)
 ·refine ⟨hS,?_⟩;rw [hd];exact h2
 ·exact h2
theorem fY {fuel:Nat} {listed:Array Bool} {a:Act} {w:World} (i:Nat) {o:Oper} (d:Tmp) (hi:ops[i]?=some o) {f:FuncId} {args:Array Value}
 (h:Calls P f args w fun e w'=>(∃x,e=.returned x∧((listed.setIfInBounds i true).getD c false=false->F w')∧iZ P ops Q F c fuel (listed.setIfInBounds i true) (a.put (some d) x) w')∨(∃ch,e=.panicked ch∧Q (.panic ch) a w'))
 (hd:o.dst=some d:=by kernel_rfl) (hg:o.guard=none:=by kernel_rfl) (hr:Region.ready .any ops listed=[i]:=by kernel_rfl) (he:(execOp a.eval o).run P w=.ok (.enter f args) w:=by kernel_rfl):iZ P ops Q F c (fuel+1) listed a w:=jd i d hd hi hg hr he h
theorem FZ {fuel:Nat} {w:World} (hF:F w) (is:List Nat) {s:Array Bool} {a:Act} (h:wpQuiet P ops F (fun a'=>iZ P ops Q F c fuel (yM is s) a' w) (lJ ops is) a) (hB:Dh ops c is s=true:=by kernel_rfl) (ns:Region.noSelect ops=true:=by kernel_rfl)
 (hQ:∀x a (d:Option Tmp) v w,Q (.panic x) (a.put d v) w->Q (.panic x) a w:=by exact jl fun _ _ _ _ e h=>⟨e ▸ h.1,h.2⟩):iZ P ops Q F c (fuel+is.length) s a w:=jz ns hF hQ is s a hB h
end
section
attribute [local go_sem ↓] Go.wp_at_zero Go.wp_at_succ
theorem no (mode:Int) (sum mxr:Bool) (satp:Int) (w:World) (h0:0<=satp) (h1:satp<=18446744073709551615):
 Calls Tryz.prog 173 #[kg mode sum mxr satp] w fun e w'=>e=.returned (.bool (onM mode satp))∧Bw w w':=by
 unfold kg;have b1:=(Below.refl w.heap.size w).alloc nle (Obj.cells #[VI mode,.bool sum,.bool mxr,VU satp] 205);have HS:Hid (satp/1152921504606846976=satp/1152921504606846976%16):=show _=_ by omega
 cases hs:(satp/1152921504606846976 == 8)
 ·go_enter Tryz.func173,Tryz.ntmps173;go_wp2;go_ret;exact ⟨ik (by rw [onM,<-HS.out,hs];rfl),b1⟩
 ·cases hm0:(mode == 0)
  ·go_enter Tryz.func173,Tryz.ntmps173;go_wp2;go_ret;exact ⟨ik (by rw [onM,<-HS.out,hs,hm0];rfl),b1⟩
  ·go_enter Tryz.func173,Tryz.ntmps173;go_wp2;go_ret;exact ⟨ik (by rw [onM,<-HS.out,hs,hm0];rfl),b1⟩
theorem lH (pte level mode:Int) (sum mxr:Bool) (satp kind va:Int) (w:World) (h0:0<=pte) (h1:pte<=18446744073709551615) (hv:0<=va) (hv':va<=18446744073709551615) (hl:level=0∨level=1∨level=2):
 Calls Tryz.prog 178 #[VU pte,VI level,kg mode sum mxr satp,VI kind,VU va] w fun e w'=>
  e=.returned (.tuple #[VU (if jH pte kind mode sum mxr=true then fz pte level va else 0),jg (if jH pte kind mode sum mxr=true then 1 else 2)])∧Bw w w':=by
 unfold kg;have b1:=(Below.refl w.heap.size w).alloc nle (Obj.cells #[VI mode,.bool sum,.bool mxr,VU satp] 205);cases hg:jH pte kind mode sum mxr
 ·have HG:=hid hg;clear hg;rw [if_neg (by simp),if_neg (by simp)];go_enter Tryz.func178,Tryz.ntmps178;go_wp2_with (go_at_call 184;refine (qa pte kind mode sum mxr _ h0 h1).mono ?_;rintro e w' ⟨rfl,rfl⟩;rw [HG.out]);exact bodyPost_ret (v:=.tuple #[VU 0,.iface 268 (.agg #[])]) (by simp [results,Tryz.results178,go_sem]) rfl ⟨rfl,b1⟩
 ·have HG:=hid hg;clear hg;rw [if_pos rfl,if_pos rfl];go_enter Tryz.func178,Tryz.ntmps178;go_wp2_with (first
   | (go_at_call 184;refine (qa pte kind mode sum mxr _ h0 h1).mono ?_;rintro e w' ⟨rfl,rfl⟩;rw [HG.out])
   | (go_at_call 185;refine (Ez pte level va _ h0 h1 hl hv hv').mono ?_;rintro e w' ⟨rfl,rfl⟩))
  exact bodyPost_ret (v:=.tuple #[VU (fz pte level va),.nilIface]) (by simp [results,Tryz.results178,go_sem]) rfl ⟨rfl,b1⟩
theorem EP (w:World):(binOp .neq 256 (.iface 268 (.agg #[])) .nilIface).run Tryz.prog w=.ok (.bool true) w:=by kernel_rfl
theorem EQ (w:World):(binOp .neq 256 (.iface 269 (.agg #[])) .nilIface).run Tryz.prog w=.ok (.bool true) w:=by kernel_rfl
theorem ER (w:World):(binOp .neq 256 .nilIface .nilIface).run Tryz.prog w=.ok (.bool false) w:=by kernel_rfl
def qH (r:Int × Int × Int × List aT) (mode:Int) (sum mxr:Bool) (kind va:Int):Int × Int:=
 if r.1=1 then (if jH r.2.2.1 kind mode sum mxr=true then (fz r.2.2.1 r.2.1 va,1) else (0,2)) else (0,r.1)
theorem sf {w w':World} {g:Nat} {o:Obj} (h:Hid (w.heap[g]?=some o)) (n:Bw w w') (l:g<w.heap.size):Hid (w'.heap[g]?=some o):=ae h.out n l
theorem wQ (sv:Value) (zs:List Int) (mode:Int) (sum mxr:Bool) (satp kind va:Int) (w:World) (hB:SrcAt w sv zs) (hv0:0<=va) (hv1:va<=18446744073709551615) (hs0:0<=satp) (hs1:satp<=18446744073709551615) (hon:onM mode satp=true):
 Calls Tryz.prog 209 #[sv,kg mode sum mxr satp,VI kind,VU va] w fun e w'=>
  e=.returned (.tuple #[VU (qH (aB zs satp va) mode sum mxr kind va).1,jg (qH (aB zs satp va) mode sum mxr kind va).2])∧Bw w w':=by
 have HB:=hid hB;have HTR:Hid (∀w,Calls Tryz.prog 173 #[.agg #[VI mode,.bool sum,.bool mxr,VU satp]] w fun e w'=>e=.returned (.bool true)∧Bw w w'):=fun w=>by have:=no mode sum mxr satp w hs0 hs1;rw [hon] at this;exact this
 clear hon;have hcd:=ee zs satp va;have hbd:=uu zs satp va hB.bd;clear hB;obtain ⟨X,hX⟩:∃X,aB zs satp va=X:=⟨_,rfl⟩;have HX:=hid hX;rw [hX] at hcd hbd |-;clear hX;obtain ⟨x1,x2,x3,rs⟩:=X;simp only at hcd hbd;unfold kg;have b1:=(Below.refl w.heap.size w).alloc nle (Obj.cells #[VI mode,.bool sum,.bool mxr,VU satp] 205);have r1:Hid ((w.alloc (Obj.cells #[VI mode,.bool sum,.bool mxr,VU satp] 205)).heap[w.heap.size]?=some (.cells #[VI mode,.bool sum,.bool mxr,VU satp] 205 (0,0))):=F6 w _;have l1:w.heap.size<(w.alloc (Obj.cells #[VI mode,.bool sum,.bool mxr,VU satp] 205)).heap.size:=by simp
 have q1:=EP;have q2:=EQ;have q3:=ER;rcases hcd with rfl | rfl | rfl
 ·obtain ⟨⟨y1,y2⟩,hY⟩:∃Y,qH (1,x2,x3,rs) mode sum mxr kind va=Y:=⟨_,rfl⟩;rw [hY];obtain ⟨fv,hfv⟩:∃fv,jg y2=fv:=⟨_,rfl⟩;have HTL:Hid (∀w,Calls Tryz.prog 178 #[VU x3,VI x2,.agg #[VI mode,.bool sum,.bool mxr,VU satp],VI kind,VU va] w fun e w'=>
   e=.returned (.tuple #[VU y1,fv])∧Bw w w'):=by
   intro w;have:=lH x3 x2 mode sum mxr satp kind va w hbd.1 hbd.2.1 hv0 hv1 (by omega);unfold kg at this;rw [<-hfv];cases hg:jH x3 kind mode sum mxr
   ·simp [qH,hg] at hY;obtain ⟨rfl,rfl⟩:=hY;simpa [hg] using this
   ·simp [qH,hg] at hY;obtain ⟨rfl,rfl⟩:=hY;simpa [hg] using this
  rw [hfv];clear hY hfv;go_enter Tryz.func209,Tryz.ntmps209;go_wp2_with fail;generalize w.alloc (Obj.cells #[VI mode,.bool sum,.bool mxr,VU satp] 205)=v0 at b1 r1 l1 |-;refine (HTR.out v0).mono ?_;rintro e v1 ⟨rfl,n1⟩;replace r1:=sf r1 n1 l1;replace b1:=bst b1 n1;replace l1:=ltl l1 n1.size;clear n1;obtain ⟨⟨d0,d1,d2,d3⟩,e0,e1,e2,e3⟩:=ig r1.out;go_wp2_with fail;clear d0 d1 d2 d3 e0 e1 e2 e3;refine (mz sv zs va satp v1 (HB.out.keep b1) hv0 hv1 hs0 hs1).mono ?_;rintro e v2 ⟨hw,n2⟩;rw [HX.out] at hw;obtain ⟨ra,rc,rfl,o2⟩:=hw;clear o2;rw [show jg 1=.nilIface from rfl];have b2:=bst b1 n2;have r2:=hid (ae r1.out n2 l1);have l2:=ltl l1 n2.size;obtain ⟨⟨d0,d1,d2,d3⟩,e0,e1,e2,e3⟩:=ig r2.out;have b3:=b2.alloc (by omega) (Obj.cells #[VI x2,VU x3,.slice ra rs.length rc] 296);clear b1 r1 l1 n2;go_wp2_with fail;refine (HTL.out _).mono ?_;rintro e v4 ⟨rfl,n4⟩;have b4:=bst b3 n4;go_wp2_with fail;exact bodyPost_ret (v:=.tuple #[VU y1,fv]) (by simp [results,Tryz.results209,go_sem]) rfl ⟨rfl,b4⟩
 ·rw [show qH (2,x2,x3,rs) mode sum mxr kind va=(0,2) from rfl];rw [show jg 2=.iface 268 (.agg #[]) from rfl];go_enter Tryz.func209,Tryz.ntmps209;go_wp2_with fail;generalize w.alloc (Obj.cells #[VI mode,.bool sum,.bool mxr,VU satp] 205)=v0 at b1 r1 l1 |-;refine (HTR.out v0).mono ?_;rintro e v1 ⟨rfl,n1⟩;replace r1:=sf r1 n1 l1;replace b1:=bst b1 n1;replace l1:=ltl l1 n1.size;clear n1;obtain ⟨⟨d0,d1,d2,d3⟩,e0,e1,e2,e3⟩:=ig r1.out;go_wp2_with fail;clear d0 d1 d2 d3 e0 e1 e2 e3;refine (mz sv zs va satp v1 (HB.out.keep b1) hv0 hv1 hs0 hs1).mono ?_;rintro e v2 ⟨hw,n2⟩;rw [HX.out] at hw;obtain ⟨ra,rc,rfl,o2⟩:=hw;clear o2;rw [show jg 2=.iface 268 (.agg #[]) from rfl];have b2:=bst b1 n2;have r2:=hid (ae r1.out n2 l1);have l2:=ltl l1 n2.size;obtain ⟨⟨d0,d1,d2,d3⟩,e0,e1,e2,e3⟩:=ig r2.out;have b3:=b2.alloc (by omega) (Obj.cells #[VI x2,VU x3,.slice ra rs.length rc] 296);clear b1 r1 l1 n2;go_wp2_with fail;exact bodyPost_ret (v:=.tuple #[VU 0,.iface 268 (.agg #[])]) (by simp [results,Tryz.results209,go_sem]) rfl ⟨rfl,b3⟩
 ·rw [show qH (3,x2,x3,rs) mode sum mxr kind va=(0,3) from rfl];rw [show jg 3=.iface 269 (.agg #[]) from rfl];go_enter Tryz.func209,Tryz.ntmps209;go_wp2_with fail;generalize w.alloc (Obj.cells #[VI mode,.bool sum,.bool mxr,VU satp] 205)=v0 at b1 r1 l1 |-;refine (HTR.out v0).mono ?_;rintro e v1 ⟨rfl,n1⟩;replace r1:=sf r1 n1 l1;replace b1:=bst b1 n1;replace l1:=ltl l1 n1.size;clear n1;obtain ⟨⟨d0,d1,d2,d3⟩,e0,e1,e2,e3⟩:=ig r1.out;go_wp2_with fail;clear d0 d1 d2 d3 e0 e1 e2 e3;refine (mz sv zs va satp v1 (HB.out.keep b1) hv0 hv1 hs0 hs1).mono ?_;rintro e v2 ⟨hw,n2⟩;rw [HX.out] at hw;obtain ⟨ra,rc,rfl,o2⟩:=hw;clear o2;rw [show jg 3=.iface 269 (.agg #[]) from rfl];have b2:=bst b1 n2;have r2:=hid (ae r1.out n2 l1);have l2:=ltl l1 n2.size;obtain ⟨⟨d0,d1,d2,d3⟩,e0,e1,e2,e3⟩:=ig r2.out;have b3:=b2.alloc (by omega) (Obj.cells #[VI x2,VU x3,.slice ra rs.length rc] 296);clear b1 r1 l1 n2;go_wp2_with fail;exact bodyPost_ret (v:=.tuple #[VU 0,.iface 269 (.agg #[])]) (by simp [results,Tryz.results209,go_sem]) rfl ⟨rfl,b3⟩
theorem uZ (sv:Value) (mode:Int) (sum mxr:Bool) (satp kind va:Int) (w:World) (hs0:0<=satp) (hs1:satp<=18446744073709551615) (hon:onM mode satp=false):
 Calls Tryz.prog 209 #[sv,kg mode sum mxr satp,VI kind,VU va] w fun e w'=>
  e=.returned (.tuple #[VU va,jg 1])∧Bw w w':=by
 have HTR:Hid (∀w,Calls Tryz.prog 173 #[.agg #[VI mode,.bool sum,.bool mxr,VU satp]] w fun e w'=>e=.returned (.bool false)∧Bw w w'):=fun w=>by have:=no mode sum mxr satp w hs0 hs1;rw [hon] at this;exact this
 clear hon;unfold kg;obtain ⟨v0,Ev0,b1,_,_⟩:=al1 w #[VI mode,.bool sum,.bool mxr,VU satp] 205;rw [show jg 1=.nilIface from rfl];go_enter Tryz.func209,Tryz.ntmps209;go_wp2_with fail;rw [Ev0.out];clear Ev0;refine (HTR.out v0).mono ?_;rintro e v1 ⟨rfl,n1⟩;have b2:=bst b1 n1;go_wp2_with fail;exact bodyPost_ret (v:=.tuple #[VU va,.nilIface]) (by simp [results,Tryz.results209,go_sem]) rfl ⟨rfl,b2⟩
def mX (zs:List Int) (mode:Int) (sum mxr:Bool) (satp kind va:Int):Int × Int:=
 if onM mode satp=false then (va,1) else qH (aB zs satp va) mode sum mxr kind va
theorem ve (sv:Value) (zs:List Int) (mode:Int) (sum mxr:Bool) (satp kind va:Int) (w:World) (hB:SrcAt w sv zs) (hv0:0<=va) (hv1:va<=18446744073709551615) (hs0:0<=satp) (hs1:satp<=18446744073709551615):
 Calls Tryz.prog 209 #[sv,kg mode sum mxr satp,VI kind,VU va] w fun e w'=>
  e=.returned (.tuple #[VU (mX zs mode sum mxr satp kind va).1,jg (mX zs mode sum mxr satp kind va).2])∧Bw w w':=by
 unfold mX;cases hon:onM mode satp
 ·rw [if_pos rfl];exact uZ sv mode sum mxr satp kind va w hs0 hs1 hon
 ·rw [if_neg (by simp)];exact wQ sv zs mode sum mxr satp kind va w hB hv0 hv1 hs0 hs1 hon
theorem zG (r:Int × Int × Int × List aT) (mode:Int) (sum mxr:Bool) (kind va:Int) (h:r.1=1∨r.1=2∨r.1=3):
 jx r mode sum mxr kind va=((if (qH r mode sum mxr kind va).2=1 then 0 else if (qH r mode sum mxr kind va).2=2 then bW kind else aV kind),(qH r mode sum mxr kind va).1):=by
 unfold jx qH dh;rcases h with h | h | h <;> rw [h]
 ·cases jH r.2.2.1 kind mode sum mxr <;> simp
 ·simp
 ·simp
theorem Bh (r:Int × Int × Int × List aT) (mode:Int) (sum mxr:Bool) (kind va:Int) (h:r.1=1∨r.1=2∨r.1=3):
 (qH r mode sum mxr kind va).2=1∨(qH r mode sum mxr kind va).2=2∨(qH r mode sum mxr kind va).2=3:=by
 unfold qH;rcases h with h | h | h <;> rw [h]
 ·cases jH r.2.2.1 kind mode sum mxr <;> simp
 ·simp
 ·simp
end
def po (c t:Int):PanicEntry:={ v:=.iface 76 (.agg #[VI c,VU t]),recovered:=false }
theorem FO {O X:Nat->Prop} {m:MP} {ov:Value} {h:HartM} {ol:List (Nat × Int)} (w:World) (k:MW w O X m ov h ol):
 Calls Tryz.prog 144 #[PT m.b 0] w fun e w'=>e=.returned (tj h)∧Bw w w':=by
 obtain ⟨v1,Ev1,F⟩:=ax1 w #[VI 0,.bool false,.bool false,VU 0] 205;have hb:=k.lt;have c9:=gX k.blk 9 (v:=VI h.mode) rfl;have c10:=gX k.blk 10 (v:=.bool h.sum) rfl;have c11:=gX k.blk 11 (v:=.bool h.mxr) rfl;have c12:=gX k.blk 12 (v:=VU h.satp) rfl;unfold tj;clear k;generalize m.b=b at *;go_enter Tryz.func144,Tryz.ntmps144;go_upto_region 1 with fail;rw [Ev1.out];clear Ev1;obtain ⟨h1,hz,n1⟩:=F;replace c9:=Below.cell2 n1 c9 hb;replace c10:=Below.cell2 n1 c10 hb;replace c11:=Below.cell2 n1 c11 hb;replace c12:=Below.cell2 n1 c12 hb;have k0:=gX h1 0 (v:=VI 0) rfl;have k1:=gX h1 1 (v:=.bool false) rfl;have k2:=gX h1 2 (v:=.bool false) rfl;have k3:=gX h1 3 (v:=VU 0) rfl;have f0:=ie h1 0;have f1:=ie h1 1;have f2:=ie h1 2;have f3:=ie h1 3;have b2:w.heap.size<v1.heap.size:=by omega
 have hb1:b<v1.heap.size:=by omega
 clear h1 hz;refine jG 17 (by kernel_rfl) (by kernel_rfl) ?_;simp only [List.take_succ_cons,List.take_zero,List.drop_succ_cons,List.drop_zero];repeat still_step
 refine wpStill_nil ?_;go_wp2_with fail;exact bodyPost_ret (v:=.agg #[VI h.mode,.bool h.sum,.bool h.mxr,VU h.satp]) (by simp [results,Tryz.results144,go_sem,k0,k1,k2,k3]) rfl ⟨rfl,eD (eD (eD (eD n1.drew (by omega) _ _) (by omega) _ _) (by omega) _ _) (by omega) _ _⟩
def FP (plain:Bool) (pick:Int) (O X:Nat->Prop) (m:MP) (PA:World->RunM->Prop) (ov:Value) (ol:List (Nat × Int)) (r:RunM) (kind va size:Int) (w:World) (e:Ending) (w':World):Prop:=
 e=(if (aw plain pick r.h kind va).1.1=0 then .returned (.agg #[VI kind,VU va,VU (aw plain pick r.h kind va).1.2,VU size]) else .panicked [po (aw plain pick r.h kind va).1.1 va])∧
 MW w' O X m ov (bC plain pick r kind va).h ol∧PA w' (bC plain pick r kind va)∧Kp X w w'
theorem oU {plain:Bool} {pick:Int} {h0:HartM} {O X:Nat->Prop} {PI:World->Prop} {PA:World->RunM->Prop} {m:MP} (hp:PathOk m plain pick h0 X PI PA) (hpk:0<=pick∧pick<=255) {ov:Value} {ol:List (Nat × Int)} (r:RunM) (kind va size:Int) (w:World)
 (k:MW w O X m ov r.h ol) (hA:PA w r) (hr:ROk r) (hc:SameC 2 r h0) (hk0:0<=kind) (hk2:kind<=2) (hv:inU va):
 Calls Tryz.prog 113 #[PT m.b 0,VI kind,VU va,VU size] w fun e w'=>FP plain pick O X m PA ov ol r kind va size w e w':=by
 obtain ⟨v1,Ev1,F⟩:=ax1 w #[VI 0,VU 0,VU 0,VU 0] 221;have HK:Hid _:=k;have HA:Hid _:=hA;have HP:Hid _:=hp;have HR:Hid _:=hr;have HC:Hid _:=hc;have HSh:Hid (cY (aw plain pick r.h kind va).2 m.gi m.gd m.gp=cY r.h.k m.gi m.gd m.gp):=(yf hr.h plain hpk ⟨hk0,hk2⟩).set _ _ _;have hb:=k.lt;obtain ⟨hv0,hv1⟩:=hv;clear k hA hp hr hc;obtain ⟨b,hbm⟩:∃b,m.b=b:=⟨_,rfl⟩;have HBm:Hid _:=hbm;rw [hbm] at hb;rw [hbm];clear hbm;go_enter Tryz.func113,Tryz.ntmps113;go_upto_region 1 with fail;rw [Ev1.out];clear Ev1;obtain ⟨h1,hz,n1⟩:=F;have H1:Hid _:=h1;have K1:=hid (HK.out.low n1);have c29:v1.cell? (AD b 29)=some (.iface m.pd m.px):=by rw [<-HBm.out];exact gX K1.out.blk 29 rfl
 have hb1:b<v1.heap.size:=by omega
 have hbk:v1.heap[b]?=some (.cells (iW r.h m.gm ov m.gi m.gd m.gp m.pv) 103 (0,0)):=by rw [<-HBm.out];exact K1.out.blk
 have CT:∀u:Has b (.cells (iW r.h m.gm ov m.gi m.gd m.gp m.pv) 103 (0,0)),u.w.cell? (AD b 29)=some (.iface m.pd m.px):=fun u=>gX u.h 29 rfl;have ne:Nonempty (Has b (.cells (iW r.h m.gm ov m.gi m.gd m.gp m.pv) 103 (0,0))):=⟨⟨v1,hbk⟩⟩;have HBk:Hid _:=hbk;clear h1 hz c29 hbk;generalize iW r.h m.gm ov m.gi m.gd m.gp m.pv=A at CT ne HBk;refine ip (fun w'=>∃u:Has b (.cells A 103 (0,0)),w'=u.w) 21 ?_;refine FZ (fuel:=7) ⟨⟨v1.drew,HBk.out⟩,rfl⟩ [0,1,2,3,4,5,6,7,8,9,10,12,13,14,15] ?_;simp only [lJ,List.getElem?_toArray,List.getElem?_cons_zero,List.getElem?_cons_succ];repeat (go_big_quiet_step (fail))
 refine wpQuiet_nil ?_;have D1:=bdr v1;refine fY 11 23 rfl (f:=144) (args:=#[PT b 0]) ?_;rw [<-HBm.out];refine (FO v1.drew (K1.out.low D1)).mono ?_;rintro e v2 ⟨rfl,n2'⟩;rw [HBm.out];have n2:=bst D1 n2';have K2:=hid (K1.out.low n2);have n12:=bst n1 n2;have HB2:=hid (gZ HBk n2);refine .inl ⟨_,rfl,fun _=>⟨⟨v2,HB2.out⟩,rfl⟩,?_⟩
 go_frame
 have H2:=gZ H1 n2;have A2:=HP.out.keep HA.out (fun i hi=>(HK.out.xo i hi).2) (Kp.of_below (fun _=>False) n12) (fun _ _ h=>h);obtain ⟨fn,rv,hm,hen,hcall⟩:=HP.out.phys v2 r _ kind va A2 K2.out.cells (fun u hu=>DA (K2.out.keep hu)) HC.out HR.out hk0 hk2 ⟨hv0,hv1⟩;rw [HBm.out] at hcall;have HM:Hid _:=hcall;clear hcall A2 n2';refine fY 16 28 rfl (f:=fn) (args:=#[rv,.iface 172 (PT b 18),tj r.h,VI kind,VU va]) ?_ (he:=by go_simp);refine Calls.mono HM.out ?_;rintro e v3 ⟨pa,code,rfl,hcode,hans,hA3,hk3⟩;have K3:=hid ((K2.out.keep hk3).withK HSh.out);have A3:Hid _:=hA3;have nx:¬X w.heap.size:=fun h=>by have:=(HK.out.xo _ h).2;omega
 have H3:=Kp.hid H2 hk3 nx;have KP:=hid ((Kp.of_below X n12).trans hk3);have l3:=(hpl H3.out);have q1:=EP;have q2:=EQ;have q3:=ER;have HB3:=hid (Kp.hid HB2 hk3 (by rw [<-HBm.out];exact HK.out.xb));refine .inl ⟨_,rfl,fun _=>⟨⟨v3,HB3.out⟩,rfl⟩,?_⟩
 go_frame
 refine FZ (fuel:=1) ⟨⟨v3,HB3.out⟩,rfl⟩ [17,18,19,20] ?_;simp only [lJ,List.getElem?_toArray,List.getElem?_cons_zero,List.getElem?_cons_succ];repeat (go_big_quiet_step (fail))
 refine wpQuiet_nil ?_;refine F0 21 10 (jg code) rfl (fun _=>⟨⟨v3,HB3.out⟩,rfl⟩) ?_
 go_frame
 refine dQ ?_;clear hA3 hk3 HM n2 n12 H2 K2 K1 hm HB2 HB3 D1;have HT:=hid hans;clear hans CT ne HBk;rcases hcode with rfl | rfl | rfl
 ·rw [show jg 1=.nilIface from rfl];have k0:=gX H3.out 0 (v:=VI 0) rfl;have k1:=gX H3.out 1 (v:=VU 0) rfl;have k2:=gX H3.out 2 (v:=VU 0) rfl;have k3:=gX H3.out 3 (v:=VU 0) rfl;have f0:=ie H3.out 0;have f1:=ie H3.out 1;have f2:=ie H3.out 2;have f3:=ie H3.out 3;go_wp2_with fail;have g4:=gb4 v3 w.heap.size (VI kind) (VU va) (VU pa) (VU size);refine bodyPost_ret (v:=.agg #[VI kind,VU va,VU pa,VU size]) (by simp [results,Tryz.results113,go_sem,k0,k1,k2,k3]) rfl ⟨?_,HK.out.box K3.out g4 nle,HP.out.box A3.out (fun i hi=>(K3.out.xo i hi).2) g4 nx,KP.out.box g4 nle⟩;rw [HT.out];rfl
 ·rw [show jg 2=.iface 268 (.agg #[]) from rfl];have HCo:=hid (ul 2 kind v3 (by omega));go_wp2_with fail;refine Calls.mono HCo.out ?_;rintro e u ⟨rfl,hu⟩;rw [hu];clear hu u;go_wp2_with fail;refine ⟨rfl,?_,K3.out,A3.out,KP.out⟩;have ht:=congrArg Prod.fst HT.out;simp only at ht;rw [ht];exact (if_neg (Bm kind)).symm
 ·rw [show jg 3=.iface 269 (.agg #[]) from rfl];have HCo:=hid (ul 3 kind v3 (by omega));go_wp2_with fail;refine Calls.mono HCo.out ?_;rintro e u ⟨rfl,hu⟩;rw [hu];clear hu u;go_wp2_with fail;refine ⟨rfl,?_,K3.out,A3.out,KP.out⟩;have ht:=congrArg Prod.fst HT.out;simp only at ht;rw [ht];exact (if_neg (kK kind)).symm
theorem DJ (x:Int) (w:World) (h0:0<=x) (h1:x<=18446744073709551615):
 Calls Tryz.prog 189 #[VU x] w fun e w'=>e=.returned (VU (jU x))∧w'=w:=by
 go_enter Tryz.func189,Tryz.ntmps189;go_wp2_with (go_at_call 197;refine (xg x _ h0 h1).mono ?_;rintro e w' ⟨rfl,rfl⟩);go_ret;exact ⟨rfl,rfl⟩
theorem oQ (w:World) (x y:Obj):Bw w ((w.alloc x).alloc y):=((Below.refl w.heap.size w).alloc nle x).alloc (by simp) y
theorem qA (w:World) (A:Array Value) (T:TypeId) (B:Array Value) (U:TypeId) (k:Nat):∃v2,((w.alloc (Obj.cells A T)).alloc (Obj.cells B U)).drewN k=v2∧Hid (v2.heap[w.heap.size]?=some (.cells A T (0,0)))∧Hid (v2.heap[w.heap.size+1]?=some (.cells B U (0,0)))∧Bw w v2∧v2.heap.size=w.heap.size+2:=by
 refine ⟨_,rfl,?_,?_,below_drewN (oQ _ _ _) k,?_⟩
 ·show ((w.alloc (Obj.cells A T)).alloc (Obj.cells B U)).heap[w.heap.size]?=_;rw [F7 _ _ (by simp)];exact F6 w _
 ·have:=F6 (w.alloc (Obj.cells A T)) (Obj.cells B U);simp only [World.size_alloc] at this;exact this
 ·show ((w.alloc (Obj.cells A T)).alloc (Obj.cells B U)).heap.size=_;simp
theorem mR (x:Int) (w:World):(method 414 135 (VU x) "loop.example/s0051/impl.goodAt").run Tryz.prog w=.ok (204,VU x) w:=by kernel_rfl
theorem mS (x:Int) (w:World):(method 414 138 (VU x) "loop.example/s0051/impl.goodAt").run Tryz.prog w=.ok (205,VU x) w:=by kernel_rfl
def yX (z0:Nat):Prop:=∀(lv tg asd pt tm:Int) (gl:Bool) (w:World),Calls Tryz.prog z0 #[.agg #[.bool false,VI lv,VU tg,VU asd,.bool gl,VU pt]] w fun e w'=>e=.returned (.tuple #[jJ dZ,.bool false])∧Bw w w'
theorem AO:yX 95∧yX 97:=by
 refine ⟨?_,?_⟩;have mL:Hid True:=trivial
 rotate_left
 have mP:Hid True:=trivial
 rotate_left
 all_goals
  intro lv tg asd pt tm gl w;first
   | (replace mL:=mL;go_enter Tryz.func95,Tryz.ntmps95)
   | (replace mP:=mP;go_enter Tryz.func97,Tryz.ntmps97)
  go_wp2;go_quiet (fail);go_wp2_with fail;first
   | (replace mL:=mL;exact bodyPost_ret (v:=.tuple #[jJ dZ,.bool false]) (by simp [results,Tryz.results95,go_sem,jJ,dZ]) rfl ⟨rfl,nj (below_drewN (oQ _ _ _) nq) (by omega) _ _ _ _ _ _⟩)
   | (replace mP:=mP;exact bodyPost_ret (v:=.tuple #[jJ dZ,.bool false]) (by simp [results,Tryz.results97,go_sem,jJ,dZ]) rfl ⟨rfl,nj (below_drewN (oQ _ _ _) nq) (by omega) _ _ _ _ _ _⟩)
def yY (z0:Nat):Prop:=∀(lv tg asd pt tm:Int) (gl:Bool) (w:World) (HKL:Hid (∀w,Calls Tryz.prog 121 #[VI lv] w fun e w'=>e=.returned (.bool false)∧w'=w)),Calls Tryz.prog z0 #[.agg #[.bool true,VI lv,VU tg,VU asd,.bool gl,VU pt]] w fun e w'=>e=.returned (.tuple #[jJ dZ,.bool false])∧Bw w w'
theorem AQ:yY 95∧yY 97:=by
 refine ⟨?_,?_⟩;have mL:Hid True:=trivial
 rotate_left
 have mP:Hid True:=trivial
 rotate_left
 all_goals
  intro lv tg asd pt tm gl w HKL;first
   | (replace mL:=mL;go_enter Tryz.func95,Tryz.ntmps95)
   | (replace mP:=mP;go_enter Tryz.func97,Tryz.ntmps97)
  go_wp2;go_quiet ((go_at_call 121;exact Calls.quiet_of_same (HKL.out _)));go_wp2_with fail;first
   | (replace mL:=mL;exact bodyPost_ret (v:=.tuple #[jJ dZ,.bool false]) (by simp [results,Tryz.results95,go_sem,jJ,dZ]) rfl ⟨rfl,nj (below_drewN (oQ _ _ _) nq) (by omega) _ _ _ _ _ _⟩)
   | (replace mP:=mP;exact bodyPost_ret (v:=.tuple #[jJ dZ,.bool false]) (by simp [results,Tryz.results97,go_sem,jJ,dZ]) rfl ⟨rfl,nj (below_drewN (oQ _ _ _) nq) (by omega) _ _ _ _ _ _⟩)
def yZ (z0:Nat):Prop:=∀(lv tg asd pt tm:Int) (gl:Bool) (w:World) (HKL:Hid (∀w,Calls Tryz.prog 121 #[VI lv] w fun e w'=>e=.returned (.bool true)∧w'=w)) (HTM:Hid (∀w,Calls Tryz.prog 122 #[VI lv] w fun e w'=>e=.returned (VU tm)∧w'=w)) (h:¬(tg<=tm)),Calls Tryz.prog z0 #[.agg #[.bool true,VI lv,VU tg,VU asd,.bool gl,VU pt]] w fun e w'=>e=.returned (.tuple #[jJ dZ,.bool false])∧Bw w w'
theorem AR:yZ 95∧yZ 97:=by
 refine ⟨?_,?_⟩;have mL:Hid True:=trivial
 rotate_left
 have mP:Hid True:=trivial
 rotate_left
 all_goals
  intro lv tg asd pt tm gl w HKL HTM h;first
   | (replace mL:=mL;go_enter Tryz.func95,Tryz.ntmps95)
   | (replace mP:=mP;go_enter Tryz.func97,Tryz.ntmps97)
  go_wp2;go_quiet (first
   | (go_at_call 121;exact Calls.quiet_of_same (HKL.out _))
   | (go_at_call 122;exact Calls.quiet_of_same (HTM.out _)))
  go_wp2_with fail;first
   | (replace mL:=mL;exact bodyPost_ret (v:=.tuple #[jJ dZ,.bool false]) (by simp [results,Tryz.results95,go_sem,jJ,dZ]) rfl ⟨rfl,nj (below_drewN (oQ _ _ _) nq) (by omega) _ _ _ _ _ _⟩)
   | (replace mP:=mP;exact bodyPost_ret (v:=.tuple #[jJ dZ,.bool false]) (by simp [results,Tryz.results97,go_sem,jJ,dZ]) rfl ⟨rfl,nj (below_drewN (oQ _ _ _) nq) (by omega) _ _ _ _ _ _⟩)
def za (z0:Nat):Prop:=∀(lv tg asd pt tm:Int) (gl:Bool) (w:World) (HKL:Hid (∀w,Calls Tryz.prog 121 #[VI lv] w fun e w'=>e=.returned (.bool true)∧w'=w)) (HTM:Hid (∀w,Calls Tryz.prog 122 #[VI lv] w fun e w'=>e=.returned (VU tm)∧w'=w)) (h:tg<=tm) (h2:¬(asd<=65535)),Calls Tryz.prog z0 #[.agg #[.bool true,VI lv,VU tg,VU asd,.bool gl,VU pt]] w fun e w'=>e=.returned (.tuple #[jJ dZ,.bool false])∧Bw w w'
theorem AS:za 95∧za 97:=by
 refine ⟨?_,?_⟩;have mL:Hid True:=trivial
 rotate_left
 have mP:Hid True:=trivial
 rotate_left
 all_goals
  intro lv tg asd pt tm gl w HKL HTM h h2;first
   | (replace mL:=mL;go_enter Tryz.func95,Tryz.ntmps95)
   | (replace mP:=mP;go_enter Tryz.func97,Tryz.ntmps97)
  go_wp2;go_quiet (first
   | (go_at_call 121;exact Calls.quiet_of_same (HKL.out _))
   | (go_at_call 122;exact Calls.quiet_of_same (HTM.out _)))
  go_wp2_with fail;first
   | (replace mL:=mL;exact bodyPost_ret (v:=.tuple #[jJ dZ,.bool false]) (by simp [results,Tryz.results95,go_sem,jJ,dZ]) rfl ⟨rfl,nj (below_drewN (oQ _ _ _) nq) (by omega) _ _ _ _ _ _⟩)
   | (replace mP:=mP;exact bodyPost_ret (v:=.tuple #[jJ dZ,.bool false]) (by simp [results,Tryz.results97,go_sem,jJ,dZ]) rfl ⟨rfl,nj (below_drewN (oQ _ _ _) nq) (by omega) _ _ _ _ _ _⟩)
def zd (z0:Nat):Prop:=∀(lv tg asd pt tm:Int) (gl g5:Bool) (w:World) (HKL:Hid (∀w,Calls Tryz.prog 121 #[VI lv] w fun e w'=>e=.returned (.bool true)∧w'=w)) (HTM:Hid (∀w,Calls Tryz.prog 122 #[VI lv] w fun e w'=>e=.returned (VU tm)∧w'=w)) (h:tg<=tm) (h2:asd<=65535) (HB:Hid (∀w,Calls Tryz.prog 123 #[VU pt,VU 32] w fun e w'=>e=.returned (.bool g5)∧w'=w)) (hne:(gl == g5)=false),Calls Tryz.prog z0 #[.agg #[.bool true,VI lv,VU tg,VU asd,.bool gl,VU pt]] w fun e w'=>e=.returned (.tuple #[jJ dZ,.bool false])∧Bw w w'
theorem AT:zd 95∧zd 97:=by
 refine ⟨?_,?_⟩;have mL:Hid True:=trivial
 rotate_left
 have mP:Hid True:=trivial
 rotate_left
 all_goals
  intro lv tg asd pt tm gl g5 w HKL HTM h h2 HB hne;have hne2:(gl != g5)=true:=by simp [bne,hne]
  first
   | (replace mL:=mL;have hm:=mR pt)
   | (replace mP:=mP;have hm:=mS pt)
  first
   | (replace mL:=mL;go_enter Tryz.func95,Tryz.ntmps95)
   | (replace mP:=mP;go_enter Tryz.func97,Tryz.ntmps97)
  go_wp2;go_quiet (first
   | (go_at_call 121;exact Calls.quiet_of_same (HKL.out _))
   | (go_at_call 122;exact Calls.quiet_of_same (HTM.out _)))
  first
   | (replace mL:=mL;obtain ⟨v2,e2,P1,P2,B1,S1⟩:=qA w #[.bool true,VI lv,VU tg,VU asd,.bool gl,VU pt] 153 #[VI 0,VU 0,VU 0,.bool false,.bool false,VU 0] 193 nq)
   | (replace mP:=mP;obtain ⟨v2,e2,P1,P2,B1,S1⟩:=qA w #[.bool true,VI lv,VU tg,VU asd,.bool gl,VU pt] 153 #[VI 0,VU 0,VU 0,.bool false,.bool false,VU 0] 198 nq)
  rw [e2];clear e2;obtain ⟨⟨x0,x1,x2,x3,x4,x5⟩,_⟩:=ms P1.out;obtain ⟨⟨y0,y1,y2,y3,y4,y5⟩,z0,z1,z2,z3,z4,z5⟩:=ms P2.out;have ne1:v2.heap.size≠w.heap.size:=by omega
  have ne2:v2.heap.size≠w.heap.size+1:=by omega
  have ne3:w.heap.size<v2.heap.size:=by omega
  have ne4:w.heap.size+1<v2.heap.size:=by omega
  clear HKL HTM;go_wp2;go_quiet ((go_at_call 123;exact Calls.quiet_of_same (HB.out _)));go_wp2_with fail;first
   | (replace mL:=mL;exact bodyPost_ret (v:=.tuple #[jJ dZ,.bool false]) (by simp [results,Tryz.results95,go_sem,jJ,dZ,y0,y1,y2,y3,y4,y5]) rfl ⟨rfl,nj (below_drewN B1 _) (by omega) _ _ _ _ _ _⟩)
   | (replace mP:=mP;exact bodyPost_ret (v:=.tuple #[jJ dZ,.bool false]) (by simp [results,Tryz.results97,go_sem,jJ,dZ,y0,y1,y2,y3,y4,y5]) rfl ⟨rfl,nj (below_drewN B1 _) (by omega) _ _ _ _ _ _⟩)
def ze (z0:Nat) (z1:Nat):Prop:=∀(lv tg asd pt tm:Int) (gl:Bool) (w:World) (HKL:Hid (∀w,Calls Tryz.prog 121 #[VI lv] w fun e w'=>e=.returned (.bool true)∧w'=w)) (HTM:Hid (∀w,Calls Tryz.prog 122 #[VI lv] w fun e w'=>e=.returned (VU tm)∧w'=w)) (h:tg<=tm) (h2:asd<=65535) (HB:Hid (∀w,Calls Tryz.prog 123 #[VU pt,VU 32] w fun e w'=>e=.returned (.bool gl)∧w'=w)) (HGD:Hid (∀w,Calls Tryz.prog z0 #[VU pt,VI lv] w fun e w'=>e=.returned (.bool false)∧w'=w)),Calls Tryz.prog z1 #[.agg #[.bool true,VI lv,VU tg,VU asd,.bool gl,VU pt]] w fun e w'=>e=.returned (.tuple #[jJ dZ,.bool false])∧Bw w w'
theorem AU:ze 204 95∧ze 205 97:=by
 refine ⟨?_,?_⟩;have mL:Hid True:=trivial
 rotate_left
 have mP:Hid True:=trivial
 rotate_left
 all_goals
  intro lv tg asd pt tm gl w HKL HTM h h2 HB HGD;have hne2:(gl != gl)=false:=by simp
  first
   | (replace mL:=mL;have hm:=mR pt)
   | (replace mP:=mP;have hm:=mS pt)
  first
   | (replace mL:=mL;go_enter Tryz.func95,Tryz.ntmps95)
   | (replace mP:=mP;go_enter Tryz.func97,Tryz.ntmps97)
  go_wp2;go_quiet (first
   | (go_at_call 121;exact Calls.quiet_of_same (HKL.out _))
   | (go_at_call 122;exact Calls.quiet_of_same (HTM.out _)))
  first
   | (replace mL:=mL;obtain ⟨v2,e2,P1,P2,B1,S1⟩:=qA w #[.bool true,VI lv,VU tg,VU asd,.bool gl,VU pt] 153 #[VI 0,VU 0,VU 0,.bool false,.bool false,VU 0] 193 nq)
   | (replace mP:=mP;obtain ⟨v2,e2,P1,P2,B1,S1⟩:=qA w #[.bool true,VI lv,VU tg,VU asd,.bool gl,VU pt] 153 #[VI 0,VU 0,VU 0,.bool false,.bool false,VU 0] 198 nq)
  rw [e2];clear e2;obtain ⟨⟨x0,x1,x2,x3,x4,x5⟩,_⟩:=ms P1.out;obtain ⟨⟨y0,y1,y2,y3,y4,y5⟩,z0,z1,z2,z3,z4,z5⟩:=ms P2.out;have ne1:v2.heap.size≠w.heap.size:=by omega
  have ne2:v2.heap.size≠w.heap.size+1:=by omega
  have ne3:w.heap.size<v2.heap.size:=by omega
  have ne4:w.heap.size+1<v2.heap.size:=by omega
  clear HKL HTM;go_wp2_with fail;first
   | (replace mL:=mL;go_quiet (first
          | (go_at_call 123;exact Calls.quiet_of_same (HB.out _))
          | (go_at_call 204;exact Calls.quiet_of_same (HGD.out _))))
   | (replace mP:=mP;go_quiet (first
          | (go_at_call 123;exact Calls.quiet_of_same (HB.out _))
          | (go_at_call 205;exact Calls.quiet_of_same (HGD.out _))))
  go_wp2_with fail;first
   | (replace mL:=mL;exact bodyPost_ret (v:=.tuple #[jJ dZ,.bool false]) (by simp [results,Tryz.results95,go_sem,jJ,dZ,y0,y1,y2,y3,y4,y5]) rfl ⟨rfl,nj (below_drewN B1 _) (by omega) _ _ _ _ _ _⟩)
   | (replace mP:=mP;exact bodyPost_ret (v:=.tuple #[jJ dZ,.bool false]) (by simp [results,Tryz.results97,go_sem,jJ,dZ,y0,y1,y2,y3,y4,y5]) rfl ⟨rfl,nj (below_drewN B1 _) (by omega) _ _ _ _ _ _⟩)
def wy (z0:Nat) (z1:Nat):Prop:=∀(lv tg asd pt tm:Int) (gl:Bool) (w:World) (HKL:Hid (∀w,Calls Tryz.prog 121 #[VI lv] w fun e w'=>e=.returned (.bool true)∧w'=w)) (HTM:Hid (∀w,Calls Tryz.prog 122 #[VI lv] w fun e w'=>e=.returned (VU tm)∧w'=w)) (h:tg<=tm) (h2:asd<=65535) (HB:Hid (∀w,Calls Tryz.prog 123 #[VU pt,VU 32] w fun e w'=>e=.returned (.bool gl)∧w'=w)) (HGD:Hid (∀w,Calls Tryz.prog z0 #[VU pt,VI lv] w fun e w'=>e=.returned (.bool true)∧w'=w)),Calls Tryz.prog z1 #[.agg #[.bool true,VI lv,VU tg,VU asd,.bool gl,VU pt]] w fun e w'=>e=.returned (.tuple #[jJ ⟨true,lv,tg,asd,gl,pt⟩,.bool true])∧Bw w w'
theorem zf:wy 204 95∧wy 205 97:=by
 refine ⟨?_,?_⟩;have mL:Hid True:=trivial
 rotate_left
 have mP:Hid True:=trivial
 rotate_left
 all_goals
  intro lv tg asd pt tm gl w HKL HTM h h2 HB HGD;have hne2:(gl != gl)=false:=by simp
  first
   | (replace mL:=mL;have hm:=mR pt)
   | (replace mP:=mP;have hm:=mS pt)
  first
   | (replace mL:=mL;go_enter Tryz.func95,Tryz.ntmps95)
   | (replace mP:=mP;go_enter Tryz.func97,Tryz.ntmps97)
  go_wp2;go_quiet (first
   | (go_at_call 121;exact Calls.quiet_of_same (HKL.out _))
   | (go_at_call 122;exact Calls.quiet_of_same (HTM.out _)))
  first
   | (replace mL:=mL;obtain ⟨v2,e2,P1,P2,B1,S1⟩:=qA w #[.bool true,VI lv,VU tg,VU asd,.bool gl,VU pt] 153 #[VI 0,VU 0,VU 0,.bool false,.bool false,VU 0] 193 nq)
   | (replace mP:=mP;obtain ⟨v2,e2,P1,P2,B1,S1⟩:=qA w #[.bool true,VI lv,VU tg,VU asd,.bool gl,VU pt] 153 #[VI 0,VU 0,VU 0,.bool false,.bool false,VU 0] 198 nq)
  rw [e2];clear e2;obtain ⟨⟨x0,x1,x2,x3,x4,x5⟩,_⟩:=ms P1.out;obtain ⟨⟨y0,y1,y2,y3,y4,y5⟩,z0,z1,z2,z3,z4,z5⟩:=ms P2.out;have ne1:v2.heap.size≠w.heap.size:=by omega
  have ne2:v2.heap.size≠w.heap.size+1:=by omega
  have ne3:w.heap.size<v2.heap.size:=by omega
  have ne4:w.heap.size+1<v2.heap.size:=by omega
  clear HKL HTM;go_wp2_with fail;first
   | (replace mL:=mL;go_quiet (first
          | (go_at_call 123;exact Calls.quiet_of_same (HB.out _))
          | (go_at_call 204;exact Calls.quiet_of_same (HGD.out _))))
   | (replace mP:=mP;go_quiet (first
          | (go_at_call 123;exact Calls.quiet_of_same (HB.out _))
          | (go_at_call 205;exact Calls.quiet_of_same (HGD.out _))))
  go_wp2_with fail;first
   | (replace mL:=mL;exact bodyPost_ret (v:=.tuple #[jJ ⟨true,lv,tg,asd,gl,pt⟩,.bool true]) (by simp [results,Tryz.results95,go_sem,jJ,y0,y1,y2,y3,y4,y5,ne4]) rfl ⟨rfl,(nj (below_drewN B1 nq) (by omega) _ _ _ _ _ _).alloc (by simp;omega) _⟩)
   | (replace mP:=mP;exact bodyPost_ret (v:=.tuple #[jJ ⟨true,lv,tg,asd,gl,pt⟩,.bool true]) (by simp [results,Tryz.results97,go_sem,jJ,y0,y1,y2,y3,y4,y5,ne4]) rfl ⟨rfl,(nj (below_drewN B1 nq) (by omega) _ _ _ _ _ _).alloc (by simp;omega) _⟩)
def rO (z0:Nat) (z1:Bool):Prop:=∀(x:EntM) (w:World) (hx:bO x),Calls Tryz.prog z0 #[qI x] w fun e w'=>e=.returned (.tuple #[jJ (if iB x z1=true then x else dZ),.bool (iB x z1)])∧Bw w w'
theorem te:rO 95 false∧rO 97 true:=by
 refine ⟨?_,?_⟩;have mL:Hid True:=trivial
 rotate_left
 have mP:Hid True:=trivial
 rotate_left
 all_goals
  intro x w hx;obtain ⟨v,lv,tg,asd,gl,pt⟩:=x;obtain ⟨⟨a1,a2⟩,⟨b1,b2⟩,⟨c1,c2⟩,d1,d2⟩:=hx;simp only at a1 a2 b1 b2 c1 c2 d1 d2;unfold qI;simp only;cases v
  ·first
    | (replace mL:=mL;rw [show iB ⟨false,lv,tg,asd,gl,pt⟩ false=false by simp [iB]])
    | (replace mP:=mP;rw [show iB ⟨false,lv,tg,asd,gl,pt⟩ true=false by simp [iB]])
   first
    | (replace mL:=mL;exact AO.1 lv tg asd pt 0 gl w)
    | (replace mP:=mP;exact AO.2 lv tg asd pt 0 gl w)
  by_cases h0:¬(0<=lv∧lv<=2)
  ·first
    | (replace mL:=mL;rw [show iB ⟨true,lv,tg,asd,gl,pt⟩ false=false by simp [iB];omega])
    | (replace mP:=mP;rw [show iB ⟨true,lv,tg,asd,gl,pt⟩ true=false by simp [iB];omega])
   first
    | (replace mL:=mL;exact AQ.1 lv tg asd pt 0 gl w (fun w=>by
         have:=jQ lv w
         rw [show decide (0<=lv∧lv<=2)=false by simpa using h0] at this
         exact this))
    | (replace mP:=mP;exact AQ.2 lv tg asd pt 0 gl w (fun w=>by
         have:=jQ lv w
         rw [show decide (0<=lv∧lv<=2)=false by simpa using h0] at this
         exact this))
  have h0':0<=lv∧lv<=2:=Decidable.not_not.1 h0;have HKL:Hid (∀w,Calls Tryz.prog 121 #[VI lv] w fun e w'=>e=.returned (.bool true)∧w'=w):=fun w=>by
   have:=jQ lv w;rw [show decide (0<=lv∧lv<=2)=true by simpa using h0'] at this;exact this
  obtain ⟨tm,htm⟩:∃tm,pL lv-1=tm:=⟨_,rfl⟩;have HTM:Hid (∀w,Calls Tryz.prog 122 #[VI lv] w fun e w'=>e=.returned (VU tm)∧w'=w):=fun w=>by
   have:=oG lv w (by omega);rw [htm] at this;exact this
  by_cases h1:¬(tg<=tm)
  ·first
    | (replace mL:=mL;rw [show iB ⟨true,lv,tg,asd,gl,pt⟩ false=false by simp [iB];omega])
    | (replace mP:=mP;rw [show iB ⟨true,lv,tg,asd,gl,pt⟩ true=false by simp [iB];omega])
   first
    | (replace mL:=mL;exact AR.1 lv tg asd pt tm gl w HKL HTM h1)
    | (replace mP:=mP;exact AR.2 lv tg asd pt tm gl w HKL HTM h1)
  have h1':tg<=tm:=Decidable.not_not.1 h1;by_cases h2:¬(asd<=65535)
  ·first
    | (replace mL:=mL;rw [show iB ⟨true,lv,tg,asd,gl,pt⟩ false=false by simp [iB];omega])
    | (replace mP:=mP;rw [show iB ⟨true,lv,tg,asd,gl,pt⟩ true=false by simp [iB];omega])
   first
    | (replace mL:=mL;exact AS.1 lv tg asd pt tm gl w HKL HTM h1' h2)
    | (replace mP:=mP;exact AS.2 lv tg asd pt tm gl w HKL HTM h1' h2)
  have h2':asd<=65535:=Decidable.not_not.1 h2;first
   | (replace mL:=mL;have hgood:iB ⟨true,lv,tg,asd,gl,pt⟩ false=((gl == aS pt 32) && (aq pt lv == 2)):=by
        simp only [iB,eu]
        simp [h0'.1,h0'.2,h2',show tg<pL lv by omega])
   | (replace mP:=mP;have hgood:iB ⟨true,lv,tg,asd,gl,pt⟩ true=((gl == aS pt 32) && (aq pt lv == 1)):=by
        simp only [iB,eu]
        simp [h0'.1,h0'.2,h2',show tg<pL lv by omega])
  rw [hgood];obtain ⟨g5,hg5⟩:∃g5,aS pt 32=g5:=⟨_,rfl⟩;first
   | (replace mL:=mL;obtain ⟨gd,hgd⟩:∃gd,(aq pt lv == 2)=gd:=⟨_,rfl⟩)
   | (replace mP:=mP;obtain ⟨gd,hgd⟩:∃gd,(aq pt lv == 1)=gd:=⟨_,rfl⟩)
  have HB:Hid (∀w,Calls Tryz.prog 123 #[VU pt,VU 32] w fun e w'=>e=.returned (.bool g5)∧w'=w):=fun w=>by
   have:=jS pt 32 w;rw [jW 5 pt 32 rfl (by omega) d1 d2,hg5] at this;exact this
  first
   | (replace mL:=mL;have HGD:Hid (∀w,Calls Tryz.prog 204 #[VU pt,VI lv] w fun e w'=>e=.returned (.bool gd)∧w'=w):=fun w=>by
        have:=zX pt lv w d1 d2
        rw [hgd] at this
        exact this)
   | (replace mP:=mP;have HGD:Hid (∀w,Calls Tryz.prog 205 #[VU pt,VI lv] w fun e w'=>e=.returned (.bool gd)∧w'=w):=fun w=>by
        have:=zY pt lv w d1 d2
        rw [hgd] at this
        exact this)
  rw [hg5,hgd];cases hq:(gl == g5)
  ·first
    | (replace mL:=mL;exact AT.1 lv tg asd pt tm gl g5 w HKL HTM h1' h2' HB hq)
    | (replace mP:=mP;exact AT.2 lv tg asd pt tm gl g5 w HKL HTM h1' h2' HB hq)
  ·have hq':gl=g5:=by simpa using hq
   subst hq';cases gd
   ·first
     | (replace mL:=mL;exact AU.1 lv tg asd pt tm gl w HKL HTM h1' h2' HB HGD)
     | (replace mP:=mP;exact AU.2 lv tg asd pt tm gl w HKL HTM h1' h2' HB HGD)
   ·first
     | (replace mL:=mL;exact zf.1 lv tg asd pt tm gl w HKL HTM h1' h2' HB HGD)
     | (replace mP:=mP;exact zf.2 lv tg asd pt tm gl w HKL HTM h1' h2' HB HGD)
theorem sw (b o:Nat) (sets tag:Int) (w:World) (hs:sets=1∨sets=2∨sets=4∨sets=8) (c0:w.cell? (AD b o)=some (VI sets)) (ht:0<=tag) (ht1:tag<=18446744073709551615):
 Calls Tryz.prog 96 #[PT b o,VU tag] w fun e w'=>e=.returned (VI (tag%sets))∧w'=w:=by
 rcases hs with rfl | rfl | rfl | rfl;all_goals
  go_enter Tryz.func96,Tryz.ntmps96;go_wp2;go_ret;exact ⟨jc (by omega),rfl⟩
theorem sy (b o:Nat) (sets tag:Int) (w:World) (hs:sets=1∨sets=2∨sets=4∨sets=8) (c0:w.cell? (AD b o)=some (VI sets)) (ht:0<=tag) (ht1:tag<=18446744073709551615):
 Calls Tryz.prog 98 #[PT b o,VU tag] w fun e w'=>e=.returned (VI (tag%sets))∧w'=w:=by
 rcases hs with rfl | rfl | rfl | rfl;all_goals
  go_enter Tryz.func98,Tryz.ntmps98;go_wp2;go_ret;exact ⟨jc (by omega),rfl⟩
end Go.Proofs.YtjdmhibnhpdjaaaGreat
