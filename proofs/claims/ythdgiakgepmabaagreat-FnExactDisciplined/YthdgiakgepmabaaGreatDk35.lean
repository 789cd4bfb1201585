import Derived.Test.YthdgiakgepmabaaGreatDk12
namespace Go.Proofs.YthdgiakgepmabaaGreat
open Go.RowKit
set_option linter.unusedVariables false
set_option maxHeartbeats 6400000
set_option maxRecDepth 20000
theorem DW {P:Program} {ops:Array Oper} {Q:Exit->Act->World->Prop} {F:World->Prop} {c:Nat} {fuel:Nat} {listed L:Array Bool} {a:Act} {w:World} (i1 i2 i3 j:Nat) {o1 o2 o3 oj:Oper} (d1 d2 d3 dj:Tmp) (r1 r2 r3:Value) {Z:Array Value} {T:TypeId} {f1 f2:FuncId} {args1 args2:Array Value}
 (e1:ops[i1]?=some o1) (e2:ops[i2]?=some o2) (e3:ops[i3]?=some o3) (ej:ops[j]?=some oj) (hL:(((listed.setIfInBounds i1 true).setIfInBounds i2 true).setIfInBounds i3 true).setIfInBounds j true=L)
 (hF:∀u,Bw w u->F u) (c1:∀u,Calls P f1 args1 u fun e v=>e=.returned r1∧Bw u v) (c2:∀u,Calls P f2 args2 u fun e v=>e=.returned r2∧Bw u v)
 (h:∀p v,w.heap.size<=p->v.heap[p]?=some (.cells Z T (0,0))->Bw w v->aV P ops Q F c fuel L ((((a.put (some d1) r1).put (some d2) r2).put (some d3) r3).put (some dj) (PT p 0)) v)
 (hfl:flB ops L j [i1,i2,i3] listed=true:=by kernel_rfl)
 (dd:(o1.dst == some d1 && o2.dst == some d2 && o3.dst == some d3 && oj.dst == some dj && d1 != dj && d2 != dj && d3 != dj && o1.guard.isNone && o2.guard.isNone && o3.guard.isNone && oj.guard.isNone)=true:=by kernel_rfl)
 (x1:∀u,(execOp a.eval o1).run P u=.ok (.enter f1 args1) u:=by intro u;kernel_rfl) (x1':∀p u,(execOp (a.put (some dj) p).eval o1).run P u=.ok (.enter f1 args1) u:=by intro p u;kernel_rfl)
 (x2:∀u,(execOp (a.put (some d1) r1).eval o2).run P u=.ok (.enter f2 args2) u:=by intro u;kernel_rfl) (x2':∀p u,(execOp ((a.put (some d1) r1).put (some dj) p).eval o2).run P u=.ok (.enter f2 args2) u:=by intro p u;kernel_rfl)
 (x3:∀u,(execOp ((a.put (some d1) r1).put (some d2) r2).eval o3).run P u=.ok (.value r3) u:=by intro u;kernel_rfl) (x3':∀p u,(execOp (((a.put (some d1) r1).put (some d2) r2).put (some dj) p).eval o3).run P u=.ok (.value r3) u:=by intro p u;kernel_rfl)
 (xj:∀b u,(execOp b oj).run P u=.ok (.value (PT u.heap.size 0)) (u.alloc (.cells Z T)):=by intro b u;kernel_rfl):aV P ops Q F c (fuel+4) listed a w:=by
 simp only [Bool.and_eq_true,beq_iff_eq,bne_iff_ne,Option.isNone_iff_eq_none] at dd;obtain ⟨⟨⟨⟨⟨⟨⟨⟨⟨⟨t1,t2⟩,t3⟩,tj⟩,n1⟩,n2⟩,n3⟩,g1⟩,g2⟩,g3⟩,gj⟩:=dd;have AL:∀u,Bw w u->w.heap.size<=u.heap.size∧Bw w (u.alloc (.cells Z T))∧(u.alloc (.cells Z T)).heap[u.heap.size]?=some (.cells Z T (0,0)):=fun u hu=>⟨hu.size,bst hu (bF u Z T).2.2,(bF u Z T).1⟩;have S3:∀p v,w.heap.size<=p->v.heap[p]?=some (.cells Z T (0,0))->Bw w v->uF P ops Q F (fun a w=>aV P ops Q F c fuel L a w) [i3] (((a.put (some d1) r1).put (some d2) r2).put (some dj) (PT p 0)) v:=by
  intro p v hp hz hb;refine il i3 d3 _ t3 e3 g3 (x3' _ _) ⟨hF v hb,?_⟩;show aV P ops Q F c fuel L _ _;rw [jx (Ne.symm n3)];exact h p v hp hz hb
 have S2:∀p v,w.heap.size<=p->v.heap[p]?=some (.cells Z T (0,0))->Bw w v->uF P ops Q F (fun a w=>aV P ops Q F c fuel L a w) [i2,i3] ((a.put (some d1) r1).put (some dj) (PT p 0)) v:=by
  intro p v hp hz hb;refine iZ i2 d2 t2 e2 g2 (x2' _ _) ((c2 v).mono ?_);rintro e u ⟨rfl,n⟩;refine ⟨r2,rfl,hF u (bst hb n),?_⟩;rw [jx (Ne.symm n2)];exact S3 p u hp (ae hz n (hpl hz)) (bst hb n)
 have S1:∀p v,w.heap.size<=p->v.heap[p]?=some (.cells Z T (0,0))->Bw w v->uF P ops Q F (fun a w=>aV P ops Q F c fuel L a w) [i1,i2,i3] (a.put (some dj) (PT p 0)) v:=by
  intro p v hp hz hb;refine iZ i1 d1 t1 e1 g1 (x1' _ _) ((c1 v).mono ?_);rintro e u ⟨rfl,n⟩;refine ⟨r1,rfl,hF u (bst hb n),?_⟩;rw [jx (Ne.symm n1)];exact S2 p u hp (ae hz n (hpl hz)) (bst hb n)
 have hr:=Below.refl w.heap.size w;refine uG (fuel:=fuel) j [i1,i2,i3] _ _ _ hfl ⟨?_,?_⟩
 ·refine iZ i1 d1 t1 e1 g1 (x1 _) ((c1 w).mono ?_);rintro e u1 ⟨rfl,b1⟩;refine ⟨r1,rfl,hF _ b1,?_,?_⟩
  ·refine iZ i2 d2 t2 e2 g2 (x2 _) ((c2 u1).mono ?_);rintro e u ⟨rfl,b⟩;have b2:=bst b1 b;refine ⟨r2,rfl,hF u b2,?_,?_⟩
   ·refine il i3 d3 _ t3 e3 g3 (x3 _) ⟨hF u b2,?_⟩;obtain ⟨l,q1,q3⟩:=AL u b2;exact il j dj _ tj ej gj (xj _ _) ⟨hF _ q1,h _ _ l q3 q1⟩
   ·obtain ⟨l,q1,q3⟩:=AL u b2;exact il j dj _ tj ej gj (xj _ _) ⟨hF _ q1,S3 _ _ l q3 q1⟩
  ·obtain ⟨l,q1,q3⟩:=AL _ b1;exact il j dj _ tj ej gj (xj _ _) ⟨hF _ q1,S2 _ _ l q3 q1⟩
 ·obtain ⟨l,q1,q3⟩:=AL w hr;exact il j dj _ tj ej gj (xj _ _) ⟨hF _ q1,S1 _ _ l q3 q1⟩
end Go.Proofs.YthdgiakgepmabaaGreat
