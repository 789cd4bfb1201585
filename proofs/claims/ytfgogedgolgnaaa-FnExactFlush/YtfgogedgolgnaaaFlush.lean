import Derived.Test.YtfgogedgolgnaaaRows
import Derived.ProofKit
import Derived.ShutString
import Derived.ChangeOld
import Derived.Below
import Derived.Test.YtfgogedgolgnaaaEk17
namespace Go.Proofs.Ytfgogedgolgnaaa.fnExactFlush
open Go.ChangeShapes Go.WideShapes Go.ChangeAt Go.RowKit Go.Joins
set_option linter.unusedVariables false
theorem own:ownKnob Try.prog.godebug=none:=by kernel_rfl
theorem laidOut:laidOutB Try.prog=true:=by kernel_rfl
theorem fN:Try.prog.cellsOf 47=4:=by kernel_rfl
set_option maxRecDepth 100000 in
theorem lifted (os:Os) (started:os.Started) (H:Type) (enc:TypeId × Value→H):
 ReturnsInHanded {} Try.checked os 6 .any (Rows.fnExactFlushSpec.pre6 enc Try.prog Try.f6 Rows.fnExactFlushRow.domain false) (Rows.fnExactFlushSpec.post enc Try.prog Try.f6 false true false false):=by
 refine returnsInHanded_of_change (C:=Try.checked) own started (by kernel_rfl) Try.func6
  (ChangeSpec.witness6 (enc:=enc) (C:=Try.checked) false ⟨#[],#[.agg #[.int .i64 0,.int .i64 0,.slice none 0 0],.agg #[.bool false,.int .u64 0,.bool false,.int .u64 0]],[]⟩ 8 (by kernel_rfl) (by kernel_rfl) (by kernel_rfl) (by kernel_rfl)) ?_
 intro W base args ds gs before hval0 hW hcnd _;have hval:∀(j:Nat) t v,Try.f6.params[j]?=some t→args[j]?=some v→Value.okWide Try.prog W .any base t v:=hval0;have hW':=hW;obtain ⟨p,q,hA0,hV,rfl,hfz,hnd⟩:=hW;have hA:DataW.TrodAll enc Try.prog W 0 (fun _=>true) true Try.f6.params.toList args.toList ds p:=hA0;rw [Try.params6] at hA hval;obtain ⟨v0,vs0,d0,ds0,p0,q0,hargs,rfl,rfl,h0,r0⟩:=trodAll_cons hA;obtain ⟨v1,vs1,d1,ds1,p1,q1,rfl,rfl,rfl,h1,r1⟩:=trodAll_cons r0;obtain ⟨rfl,rfl,rfl⟩:=trodAll_nil r1;obtain rfl:args=#[v0,v1]:=by cases args;simp_all
 obtain ⟨rfl,rfl⟩:=trodVars_none hV;have k0:=h0;have lt0:∀x∈p0,x.block<W.heap.size:=by obtain ⟨m,hm⟩:=k0;exact DataW.trod_lt m _ _ _ hm
 obtain ⟨sets0,ways0,a0,cap0,es0,rfl,hr0,he0,hs0,hw0,hlc0,hcm0⟩:=cP (hval 0 24 v0 rfl rfl) h0;have k1:=h1;have lt1:∀x∈p1,x.block<W.heap.size:=by obtain ⟨m,hm⟩:=k1;exact DataW.trod_lt m _ _ _ hm
 obtain ⟨hv1,fva1,ha1,fa1,rfl,wf1,wg1⟩:∃hv fva ha fa,v1=.agg #[.bool hv,.int .u64 fva,.bool ha,.int .u64 fa]∧(Lit.int .u64 fva).wf=true∧(Lit.int .u64 fa).wf=true:=by
  obtain ⟨c0,c1,c2,c3,y0,y1,y2,y3,m,rfl,_,_,e0,e1,e2,e3⟩:=open_agg4 Try.underlying47 (by kernel_rfl) fN (hval 1 47 v1 rfl rfl) h1;obtain ⟨a,f0,_⟩:=DataW.trod_bool Try.underlying4 e0;obtain ⟨b,f1,_,wb⟩:=DataW.trod_int Try.underlying33 e1;obtain ⟨c,f2,_⟩:=DataW.trod_bool Try.underlying4 e2;obtain ⟨d,f3,_,wd⟩:=DataW.trod_int Try.underlying33 e3;simp at f0 f1 f2 f3;exact ⟨a,b,c,d,by rw [f0,f1,f2,f3],wb,wd⟩
 clear hA0 hval0;refine (eK sets0 ways0 a0 cap0 es0 hv1 fva1 ha1 fa1 W hr0 he0 hs0 hw0 hlc0 hcm0 (bounds_u64 wf1) (bounds_u64 wg1)).mono fun e W' ⟨he,bel⟩=>?_;subst he;exact ⟨_,rfl,_,_,_,[],_,[],hW',trodAll_mk1 (shut_bool Try.underlying4 _),(trodAll_cons_mk (Below.trod laidOut (by kernel_rfl) (of_decide_eq_true (by kernel_rfl)) k0 bel lt0) (trodAll_cons_mk (Below.trod laidOut (by kernel_rfl) (of_decide_eq_true (by kernel_rfl)) k1 bel lt1) trodAll_mk0)),rfl,bel.frame _,fun h=>by cases h⟩
theorem over:Rows.fnExactFlushRow.holds Try.pinned (OpenSpec.ofChange Rows.fnExactFlushSpec):=
 OpenClaim.holds_of_wide 6 Try.f6 rfl rfl rfl rfl rfl rfl rfl ⟨rfl,rfl,rfl,rfl,rfl⟩ rfl rfl rfl rfl rfl (by kernel_rfl) Try.func6 (by kernel_rfl)
  (of_decide_eq_true (by kernel_rfl)) (by unfold Func.isWrapper;first | (rw [if_pos (by decide+kernel)];kernel_rfl) | (rw [if_neg (by decide+kernel)];exact ⟨rfl,rfl⟩))
  (fun os started H enc _=>lifted os started H enc)
theorem proved:Rows.FnExactFlushSaid:=over
#print axioms proved
end Go.Proofs.Ytfgogedgolgnaaa.fnExactFlush
namespace Go.Proofs.Ytfgogedgolgnaaa
theorem fnExactFlush_holds:Rows.FnExactFlushSaid:=fnExactFlush.proved
end Go.Proofs.Ytfgogedgolgnaaa
