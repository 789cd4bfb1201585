import Derived.Test.YtfgogedgolgnaaaGreatRows
import Derived.ProofKit
import Derived.ShutString
import Derived.ChangeOld
import Derived.Below
import Derived.Test.YtfgogedgolgnaaaGreatZk23
namespace Go.Proofs.YtfgogedgolgnaaaGreat.fnExactTlbTranslate
open Go.ChangeShapes Go.WideShapes Go.ChangeAt Go.RowKit Go.Joins
set_option linter.unusedVariables false
theorem own:ownKnob Tryz.prog.godebug=none:=by kernel_rfl
theorem iI:laidOutB Tryz.prog=true:=by kernel_rfl
theorem mn:Tryz.prog.cellsOf 25=4:=by kernel_rfl
set_option maxRecDepth 100000 in
theorem mo (os:Os) (started:os.Started) (H:Type) (enc:TypeId × Value→H):
 ReturnsInHanded {} Tryz.checked os 3 .any (Rows.fnExactTlbTranslateSpec.pre6 enc Tryz.prog Tryz.f3 Rows.fnExactTlbTranslateRow.domain false) (Rows.fnExactTlbTranslateSpec.post enc Tryz.prog Tryz.f3 false true false false):=by
 refine returnsInHanded_of_change (C:=Tryz.checked) own started (by kernel_rfl) Tryz.func3
  (ChangeSpec.witness6 (enc:=enc) (C:=Tryz.checked) false ⟨#[],#[.slice none 0 0,.agg #[.int .i64 0,.bool false,.bool false,.int .u64 0],.agg #[.int .i64 0,.int .i64 0,.slice none 0 0,.int .i64 0,.int .i64 0,.slice none 0 0,.int .i64 0,.int .i64 0,.slice none 0 0],.int .i64 0,.int .u64 0,.int .i64 0],[]⟩ 8 (by kernel_rfl) (by kernel_rfl) (by kernel_rfl) (by kernel_rfl)) ?_
 intro W base args ds gs before hval0 hW hcnd _;have hval:∀(j:Nat) t v,Tryz.f3.params[j]?=some t→args[j]?=some v→Value.okWide Tryz.prog W .any base t v:=hval0;have hW':=hW;obtain ⟨p,q,hA0,hV,rfl,hfz,hnd⟩:=hW;have hA:DataW.TrodAll enc Tryz.prog W 0 (fun _=>true) true Tryz.f3.params.toList args.toList ds p:=hA0;rw [Tryz.params3] at hA hval;obtain ⟨v0,vs0,d0,ds0,p0,q0,hargs,rfl,rfl,h0,r0⟩:=trodAll_cons hA;obtain ⟨v1,vs1,d1,ds1,p1,q1,rfl,rfl,rfl,h1,r1⟩:=trodAll_cons r0;obtain ⟨v2,vs2,d2,ds2,p2,q2,rfl,rfl,rfl,h2,r2⟩:=trodAll_cons r1;obtain ⟨v3,vs3,d3,ds3,p3,q3,rfl,rfl,rfl,h3,r3⟩:=trodAll_cons r2;obtain ⟨v4,vs4,d4,ds4,p4,q4,rfl,rfl,rfl,h4,r4⟩:=trodAll_cons r3;obtain ⟨v5,vs5,d5,ds5,p5,q5,rfl,rfl,rfl,h5,r5⟩:=trodAll_cons r4;obtain ⟨rfl,rfl,rfl⟩:=trodAll_nil r5;obtain rfl:args=#[v0,v1,v2,v3,v4,v5]:=by cases args;simp_all
 obtain ⟨rfl,rfl⟩:=trodVars_none hV;have k0:=h0;have lt0:∀x∈p0,x.block<W.heap.size:=by obtain ⟨m,hm⟩:=k0;exact DataW.trod_lt m _ _ _ hm
 obtain ⟨a0,len0,cap0,rfl⟩:=okWide_slice Tryz.underlying22 (hval 0 22 v0 rfl rfl);obtain ⟨z0,zb0,zl0,zm0⟩:∃zs,Byt W a0 len0 zs∧len0≤cap0∧cap0≤9223372036854775807:=by
  obtain ⟨fuel,hf⟩:=h0;rcases open_ints Tryz.underlying22 Tryz.underlying5 (by kernel_rfl) hf with ⟨hcs,_⟩ | ⟨x,l,c,zs,hcs,_,hl,hm,hz,_,hcell,hwz⟩
  ·simp [Value.cells] at hcs;obtain ⟨rfl,rfl,rfl⟩:=hcs;exact ⟨_,Byt.of_row (.inl ⟨rfl,rfl,rfl,rfl⟩)⟩
  ·simp [Value.cells] at hcs;obtain ⟨rfl,rfl,rfl⟩:=hcs;exact ⟨_,Byt.of_row (.inr ⟨_,rfl,hl,hm,by simpa using hz,hcell,hwz⟩)⟩
 have k1:=h1;have lt1:∀x∈p1,x.block<W.heap.size:=by obtain ⟨m,hm⟩:=k1;exact DataW.trod_lt m _ _ _ hm
 obtain ⟨mode,sum,mxr,satp,rfl,wc1⟩:∃mode sum mxr satp,v1=.agg #[.int .i64 mode,.bool sum,.bool mxr,.int .u64 satp]∧(Lit.int .u64 satp).wf=true:=by
  obtain ⟨c0,c1,c2,c3,y0,y1,y2,y3,m,rfl,_,_,e0,e1,e2,e3⟩:=open_agg4 Tryz.underlying25 (by kernel_rfl) mn (hval 1 25 v1 rfl rfl) h1;obtain ⟨a,f0,_,_⟩:=DataW.trod_int Tryz.underlying2 e0;obtain ⟨b,f1,_⟩:=DataW.trod_bool Tryz.underlying4 e1;obtain ⟨c,f2,_⟩:=DataW.trod_bool Tryz.underlying4 e2;obtain ⟨d,f3,_,wd⟩:=DataW.trod_int Tryz.underlying23 e3;simp at f0 f1 f2 f3;exact ⟨a,b,c,d,by rw [f0,f1,f2,f3],wd⟩
 have k2:=h2;have lt2:∀x∈p2,x.block<W.heap.size:=by obtain ⟨m,hm⟩:=k2;exact DataW.trod_lt m _ _ _ hm
 obtain ⟨k,ka1,kc1,ka2,kc2,ka3,kc3,rfl,t1,t2,t3⟩:=iW (hval 2 30 v2 rfl rfl) h2;obtain ⟨a3,rfl,rfl,rfl,w3⟩:=open_int Tryz.underlying2 (hval 3 2 v3 rfl rfl) h3;obtain ⟨a4,rfl,rfl,rfl,w4⟩:=open_int Tryz.underlying23 (hval 4 23 v4 rfl rfl) h4;obtain ⟨a5,rfl,rfl,rfl,w5⟩:=open_int Tryz.underlying2 (hval 5 2 v5 rfl rfl) h5;clear hA0 hval0;refine (jY a0 len0 cap0 z0 mode sum mxr satp k ka1 kc1 ka2 kc2 ka3 kc3 a3 a4 a5 W zb0 t1 t2 t3 (bounds_u64 wc1) (bounds_u64 w4) (by omega)).mono fun e W' ⟨he,bel⟩=>?_;subst he;exact ⟨_,rfl,_,_,_,[],_,[],hW',trodAll_mk1 (shut_bool Tryz.underlying4 _),(trodAll_cons_mk (Below.trod iI (by kernel_rfl) (of_decide_eq_true (by kernel_rfl)) k0 bel lt0) (trodAll_cons_mk (Below.trod iI (by kernel_rfl) (of_decide_eq_true (by kernel_rfl)) k1 bel lt1) (trodAll_cons_mk (Below.trod iI (by kernel_rfl) (of_decide_eq_true (by kernel_rfl)) k2 bel lt2) (trodAll_cons_mk (shut_int Tryz.underlying2 w3) (trodAll_cons_mk (shut_int Tryz.underlying23 w4) (trodAll_cons_mk (shut_int Tryz.underlying2 w5) trodAll_mk0)))))),rfl,bel.frame _,fun h=>by cases h⟩
theorem mQ:Rows.fnExactTlbTranslateRow.holds Tryz.pinned (OpenSpec.ofChange Rows.fnExactTlbTranslateSpec):=
 OpenClaim.holds_of_wide 3 Tryz.f3 rfl rfl rfl rfl rfl rfl rfl ⟨rfl,rfl,rfl,rfl,rfl⟩ rfl rfl rfl rfl rfl (by kernel_rfl) Tryz.func3 (by kernel_rfl)
  (of_decide_eq_true (by kernel_rfl)) (by unfold Func.isWrapper;first | (rw [if_pos (by decide+kernel)];kernel_rfl) | (rw [if_neg (by decide+kernel)];exact ⟨rfl,rfl⟩))
  (fun os started H enc _=>mo os started H enc)
theorem proved:Rows.FnExactTlbTranslateSaid:=mQ
#print axioms proved
end Go.Proofs.YtfgogedgolgnaaaGreat.fnExactTlbTranslate
namespace Go.Proofs.YtfgogedgolgnaaaGreat
theorem fnExactTlbTranslate_holds:Rows.FnExactTlbTranslateSaid:=fnExactTlbTranslate.proved
end Go.Proofs.YtfgogedgolgnaaaGreat
