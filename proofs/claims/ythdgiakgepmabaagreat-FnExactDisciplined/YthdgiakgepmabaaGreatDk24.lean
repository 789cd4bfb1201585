import Derived.Test.YthdgiakgepmabaaGreatDk23
namespace Go.Proofs.YthdgiakgepmabaaGreat
open Go.RowKit
set_option linter.unusedVariables false
set_option maxHeartbeats 6400000
set_option maxRecDepth 20000
section
attribute [local go_sem ↓] Go.wp_at_zero Go.wp_at_succ
theorem yF (x:EX) (H:ExecH x) (hcc:PlC x.plain):sH 6 x:=by
 obtain ⟨w,v,hb,a,b,c,p,al,cl,plain,pick,r,P,q,s,word,imm,jump,xa,xb,xc,W,pc⟩:=x;obtain ⟨hE,hok,hreg,hpk,h0,hll,hs,hwd,hpa,hpb,hpc,him,hju,hxa,hxb,hxc,hW,hpcc⟩:=H;intro Q X HX0 HQ K hK C
 intros
 dsimp only at *;simp only [eg,df,eM,Tryz.f70,Option.getD] at hK |-;obtain ⟨wd,rfl⟩:∃wd:Nat,W=wd:=⟨W.toNat,by have h1:=(kE (c:Int) (by omega)).1;rw [hW];omega⟩;have HXu:Hid (inU xa):=by show inU _;rw [hxa];exact hok.h.regs _
 have HE:Hid (ExecIn w v hb p al cl plain pick r):=hE;have HQp:=exq HQ.out;have hok':ROk (aB r):=pJ hok;have hWb:1<=(wd:Int)∧(wd:Int)<=8:=by rw [hW];exact kE _ (by omega)
 have hEb:inU (IntKind.u64.wrap (xb+imm)):=fe (xb+imm);have HPt:Hid (∀u,RunIn u p al cl (aB r)->Calls Tryz.prog 95 #[.agg (aG p al cl plain pick (aB r)),VI 2,VU (IntKind.u64.wrap (xb+imm)),VI (wd:Nat)] u fun e w'=>(∃p' al' cl' ga n c,e=.returned (.tuple #[.agg (aG p' al' cl' plain pick (aw plain pick (aB r) 2 (IntKind.u64.wrap (xb+imm)) (wd:Nat)).1),.slice ga n c])∧RunIn w' p' al' cl' (aw plain pick (aB r) 2 (IntKind.u64.wrap (xb+imm)) (wd:Nat)).1∧From u.heap.size p p'∧FromL u.heap.size al al'∧((aw plain pick (aB r) 2 (IntKind.u64.wrap (xb+imm)) (wd:Nat)).1.cause=0->n=(aw plain pick (aB r) 2 (IntKind.u64.wrap (xb+imm)) (wd:Nat)).2.length∧n<=2∧∃g,ga=some (AD g 0)∧RowC w' ga n 3 (dx (aw plain pick (aB r) 2 (IntKind.u64.wrap (xb+imm)) (wd:Nat)).2)))∧Bw u w'):=fun u hu=>lG plain hcc p al cl pick (aB r) 2 (IntKind.u64.wrap (xb+imm)) (wd:Nat) u hu hok' h0 hpk (by omega) hEb (by omega) hll;have HX:Hid (eT plain pick r 6 P q s word=if (aw plain pick (aB r) 2 (IntKind.u64.wrap (xb+imm)) wd).1.cause=0 then cT (aw plain pick (aB r) 2 (IntKind.u64.wrap (xb+imm)) wd) (bM xa wd) else (aw plain pick (aB r) 2 (IntKind.u64.wrap (xb+imm)) wd).1):=by
  show _=_;unfold eT doM;rw [if_neg (by simp [bH])]
  iterate 5 rw [if_neg (by decide)]
  rw [if_pos rfl];rw [hpa.1,hpb.1,hpc.1,<-hW,him,mG,hxb,hxa];rfl
 have HYk:Hid _:=ic plain (kind:=2) (w:=(wd:Nat)) hpk (by omega) hEb (by omega) hok';have HYl:Hid _:=kc plain pick 2 (IntKind.u64.wrap (xb+imm)) (wd:Nat) (aB r);have HYi:Hid ((aw plain pick (aB r) 2 (IntKind.u64.wrap (xb+imm)) (wd:Nat)).1.cause=0->∀p∈(aw plain pick (aB r) 2 (IntKind.u64.wrap (xb+imm)) (wd:Nat)).2,fD (aw plain pick (aB r) 2 (IntKind.u64.wrap (xb+imm)) (wd:Nat)).1.h.mem.length p.2.2 p.2.1=true):=ka;have hX:=HX0.out;rw [hX] at HX;clear HX0;generalize aw plain pick (aB r) 2 (IntKind.u64.wrap (xb+imm)) (wd:Nat)=Y at HPt HX HYk HYl HYi;have ha8:=hpa.2;obtain ⟨hWb1,hWb8⟩:=hWb;clear hX hE hok hok' hEb hpa hpb hpc him hju hxa hxb hxc hW hpcc h0 hll;have hRs:=bP p al cl plain pick (aB r);have HLr:Hid (∀u:World,u.heap[w.heap.size]?=some (.cells (aG p al cl plain pick (aB r)) 54 (0,0))->(Instr.loadAt 54 (PT w.heap.size 0)).run Tryz.prog u=.ok (.agg (aG p al cl plain pick (aB r))) u):=fun u hu=>aW (P:=Tryz.prog) (T:=54) hu Tryz.underlying54 rfl (by rw [hRs];exact dq);have HRv:Hid (v.heap[w.heap.size]?=some (.cells (aG p al cl plain pick (aB r)) 54 (0,0))):=HE.out.run;generalize aG p al cl plain pick (aB r)=D at HPt hRs HLr HRv;have HLd:Hid _:=HLr.out v HRv.out;clear HLr;go_upto_region 34 with fail;go_wp2_with ((with_reducible refine bj ?_ HLd.out ?_);(exact rfl));refine (HPt.out v HE.out.runIn).mono ?_;rintro e v1 ⟨⟨p',al',cl',ga,n,cp,rfl,hI,hF0,hL0,hC⟩,n1⟩;clear HPt HLd HRv hRs;have HC:Hid _:=hC;have HF:Hid _:=hF0;have HL:Hid _:=hL0;have hR1:=bP p' al' cl' plain pick Y.1;have HR1o:Hid _:=dM p' al' cl' plain pick Y.1;obtain ⟨E,hEE⟩:∃E,aG p' al' cl' plain pick Y.1=E:=⟨_,rfl⟩;have HEE:Hid (aG p' al' cl' plain pick Y.1=E):=hEE;rw [hEE] at hR1 HR1o |-;clear hEE hC hF0 hL0;have a1:=bF v1 eS 54;have HSt:Hid _:=aR (P:=Tryz.prog) (T:=54) (V:=E) a1.1 (by rw [hR1];exact dq) (by rw [hR1,aS]) HR1o.out;have HT:Hid _:=aI (V:=E) a1.1 (by rw [hR1,aS]);have n2:=aK (Nat.le_refl v1.heap.size) E.toList 0 _ a1.2.2;have s2:v1.heap.size<((v1.alloc (Obj.cells eS 54)).setCells v1.heap.size 0 E.toList).heap.size:=by rw [cF];have:=a1.2.1;omega
 clear a1;go_upto_region 35 with ((with_reducible refine az ?_ ?_ HSt.out ?_);(exact rfl);(exact rfl));generalize (v1.alloc (Obj.cells eS 54)).setCells v1.heap.size 0 E.toList=vT at HT n2 s2 |-;clear HSt;have nT:=bst n1 n2;have HIT:Hid (RunIn vT p' al' cl' Y.1):=hI.keep n2;have HK6:Hid _:=ae HE.out.res nT (hpl HE.out.res);have hv1:v.heap.size<=v1.heap.size:=n1.size;have hwv:w.heap.size+1<v.heap.size:=(hpl HE.out.res);have HLo:Hid ((∀q,some q∈be p'->q.block<v1.heap.size)∧∀q,al'=some q->q.block<v1.heap.size):=⟨hI.h.low,hI.low⟩;generalize hvb:v1.heap.size=vb at HT s2 hv1 HLo |-;have c23:E[23]?=some (VI Y.1.cause):=by rw [<-HEE.out];rfl
 have k23:=ab HT.out 23 c23;have HCv:Hid (Y.1.cause=0->n=Y.2.length∧n<=2∧∃g,ga=some (AD g 0)∧RowC vT ga n 3 (dx Y.2)):=fun h=>by
  obtain ⟨h1,h2,g,h3,h4⟩:=HC.out h;exact ⟨h1,h2,g,h3,h4.keep n2⟩
 clear HC hI n1 n2 hvb c23;have HLt:Hid (∀u:World,u.heap[vb]?=some (.cells E 54 (0,0))->(Instr.loadAt 54 (PT vb 0)).run Tryz.prog u=.ok (.agg E) u):=fun u hu=>aW (P:=Tryz.prog) (T:=54) hu Tryz.underlying54 rfl (by rw [hR1];exact dq);by_cases h0:¬Y.1.cause=0
 ·have HXe:Hid (X=Y.1):=by show _=_;rw [HX.out,if_neg h0]
  obtain ⟨u2,HSr,HR⟩:=lU HE.out HIT.out HF.out HL.out nT HQ.out HXe.out;rw [HEE.out] at HSr;have HLd:Hid _:=HLt.out vT HT.out;generalize Y.1.cause=cs at k23 h0;go_upto_region 37 with fail;go_wp2_with (first
   | ((with_reducible refine bj ?_ HLd.out ?_);(exact rfl))
   | ((with_reducible refine az ?_ ?_ HSr.out ?_);(exact rfl);(exact rfl)))
  exact HR.out _ rfl rfl
 ·replace h0:Y.1.cause=0:=Decidable.not_not.1 h0;have HXe:Hid (X=cT Y (bM xa wd)):=by show _=_;rw [HX.out,if_pos h0]
  obtain ⟨hn,hn2,g,rfl,hrow⟩:=HCv.out h0;have HRow:Hid _:=hrow;obtain ⟨mb,mo,ham,hmlt,hmcell⟩:∃b off,p'.am=some (AD b off)∧b<vT.heap.size∧∀i,i<Y.1.h.mem.length->vT.cell? ⟨b,off+i,none⟩=some (.int .u8 (Y.1.h.mem[i]?.getD 0)):=by
   rcases HIT.out.h.mem.2.2 with h | h
   ·have:=iy HYk.out.1.h.v.size;omega
   ·exact h
  have HB:Hid (Byt vT (some (AD mb mo)) Y.1.h.mem.length Y.1.h.mem):=by
   have:=HIT.out.h.mem;rw [ham] at this;exact this
  have hml:Y.1.h.mem.length<=4096:=(iy HYk.out.1.h.v.size).2.2;obtain ⟨hmc1,hmc2⟩:=HIT.out.h.memc;have c0:E[0]?=some (.slice (some (AD mb mo)) Y.1.h.mem.length p'.cm):=by rw [<-HEE.out];show some (Value.slice p'.am _ _)=_;rw [ham]
  have k0:=ab HT.out 0 c0;have HLm:Hid (∀u:World,u.heap[vb]?=some (.cells E 54 (0,0))->(Instr.loadAt 22 (PT vb 0)).run Tryz.prog u=.ok (.slice (some (AD mb mo)) Y.1.h.mem.length p'.cm) u):=fun u hu=>by
   have h1:=ab hu 0 c0;go_simp
  have HIi:Hid _:=HYi.out h0;have Ham:Hid (p'.am=some (AD mb mo)):=ham;clear hrow ham hmlt hmcell hn;generalize hmL:Y.1.h.mem.length=ml at *;have HmL:Hid (Y.1.h.mem.length=ml):=hmL;clear hmL;rw [h0] at k23;have Hmb:Hid (mb<vT.heap.size):=by
   have:=HIT.out.h.low _ (show some ((AD mb mo):Addr)∈be p' by rw [<-Ham.out];simp [be]);exact this
  have HSet:Hid (∀u,Bw vT u->Calls Tryz.prog 97 #[.slice (some (AD mb mo)) ml p'.cm,SL g n cp,VI (wd:Nat),VU xa] u fun e w'=>(∃b o cp,e=.returned (.slice (some (AD b o)) ml cp)∧Byt w' (some (AD b o)) ml (iN Y.1.h.mem Y.2 (bM xa wd))∧(ml<=cp∧cp<=9223372036854775807)∧b<w'.heap.size∧((b=mb∧o=mo)∨u.heap.size<=b))∧Bw u w'):=fun u hu=>tS mb mo ml p'.cm g n cp wd xa Y.1.h.mem Y.2 u (HB.out.keep hu) (ltl Hmb.out hu.size) (by omega) hmc1 hmc2 (RowC.keep HRow.out hu) (HCv.out h0).1.symm hn2 HYk.out.2 HIi.out HYl.out (by omega) HXu.out;go_upto_region 36 with fail;go_wp2_with fail;have n0:Bw vT vT:=brf;refine (HSet.out vT n0).mono ?_;rintro e v2 ⟨⟨b2,o2,cp2,rfl,hB2,hcp2,hb2,hor2⟩,n2'⟩;have n2:Bw vT v2:=bst n0 n2';have J2:=ae HT.out n2 s2;have kk0:=ab J2 0 c0;have kf0:=ap J2 0;have HB2:Hid _:=hB2;have HJ2:Hid _:=J2;have hvb2:vb<v2.heap.size:=ltl s2 n2.size;clear hB2 J2;go_upto_region 37 with fail;have HJ3:Hid ((v2.setCell (AD vb 0) (.slice (some (AD b2 o2)) ml cp2)).heap[vb]?=some (.cells (E.setIfInBounds 0 (.slice (some (AD b2 o2)) ml cp2)) 54 (0,0))):=cf HJ2.out 0 _;have g3:=au (ao v2 (some vb)) 0 (Value.slice (some (AD b2 o2)) ml cp2);have n3:Bw v (v2.setCell (AD vb 0) (.slice (some (AD b2 o2)) ml cp2)):=cH (bst nT n2) hv1 0 _;generalize v2.setCell (AD vb 0) (.slice (some (AD b2 o2)) ml cp2)=v3 at HJ3 g3 n3 |-;clear kk0 kf0 k0 k23;have hne2:b2≠vb:=by
   rcases hor2 with ⟨h,_⟩ | h
   ·subst h;have:=HLo.out.1 _ (by rw [<-Ham.out];simp [be]);simp only at this;omega
   ·have h':=n0.size;omega
  have hB3:Byt v3 (some (AD b2 o2)) ml (iN Y.1.h.mem Y.2 (bM xa wd)):=Byt.gb' HB2.out g3 (fun q hq=>by cases hq;exact hne2);have hml3:=hB3.1;have hI3:RunIn v3 ⟨some (AD b2 o2),cp2,p'.ar,p'.cr,p'.a1,p'.c1,p'.a2,p'.c2,p'.a3,p'.c3⟩ al' cl' (cT Y (bM xa wd)):=
   tT (HIT.out.keep n2) g3 (fun q hq=>Nat.ne_of_lt (HLo.out.1 q hq)) (fun q hq=>Nat.ne_of_lt (HLo.out.2 q hq)) (by rw [HmL.out];exact hB3) (by rw [HmL.out];exact hml3) (by rw [HmL.out];exact hcp2) (ltl hb2 g3.size)
  have hF3:From v.heap.size p ⟨some (AD b2 o2),cp2,p'.ar,p'.cr,p'.a1,p'.c1,p'.a2,p'.c2,p'.a3,p'.c3⟩:=wn HF.out Ham.out hor2 (by have h':=n0.size;have h2:=nT.size;omega);have HE2:Hid (E.setIfInBounds 0 (.slice (some (AD b2 o2)) ml cp2)=aG ⟨some (AD b2 o2),cp2,p'.ar,p'.cr,p'.a1,p'.c1,p'.a2,p'.c2,p'.a3,p'.c3⟩ al' cl' plain pick (cT Y (bM xa wd))):=by
   show _=_;rw [<-HEE.out,cT,wo (by rw [HmL.out];exact hml3),HmL.out]
  have HI3:Hid _:=hI3;have HF3:Hid _:=hF3;have HB3:Hid _:=hB3;clear hI3 hF3 hB3 hml3 g3;rw [HE2.out] at HJ3;obtain ⟨u2,HSr,HR⟩:=lU HE.out HI3.out HF3.out HL.out n3 HQ.out HXe.out;have HLd:=vw HJ3.out;generalize aG (⟨some (AD b2 o2),cp2,p'.ar,p'.cr,p'.a1,p'.c1,p'.a2,p'.c2,p'.a3,p'.c3⟩:PtrM) al' cl' plain pick (cT Y (bM xa wd))=E2 at HSr HLd;go_wp2_with (first
   | ((with_reducible refine bj ?_ HLd.out ?_);(exact rfl))
   | ((with_reducible refine az ?_ ?_ HSr.out ?_);(exact rfl);(exact rfl)))
  exact HR.out _ rfl rfl
end
section
attribute [local go_sem ↓] Go.wp_at_zero Go.wp_at_succ
theorem BE (x:EX) (H:ExecH x) (hcc:PlC x.plain):sH 7 x:=by
 obtain ⟨w,v,hb,a,b,c,p,al,cl,plain,pick,r,P,q,s,word,imm,jump,xa,xb,xc,W,pc⟩:=x;obtain ⟨hE,hok,hreg,hpk,h0,hll,hs,hwd,hpa,hpb,hpc,him,hju,hxa,hxb,hxc,hW,hpcc⟩:=H;intro Q X HX0 HQ K hK C
 intros
 dsimp only at *;simp only [eg,df,eM,Tryz.f70,Option.getD] at hK |-;have HE:Hid (ExecIn w v hb p al cl plain pick r):=hE;have HQp:=exq HQ.out;have hok':ROk (aB r):=pJ hok;have hWb:1<=W∧W<=8:=by rw [hW];exact kE _ (by omega)
 have hEb:inU (IntKind.u64.wrap (xb+imm)):=fe (xb+imm);have HPt:Hid (∀u,RunIn u p al cl (aB r)->Calls Tryz.prog 95 #[.agg (aG p al cl plain pick (aB r)),VI 2,VU (IntKind.u64.wrap (xb+imm)),VI 8] u fun e w'=>(∃p' al' cl' ga n c,e=.returned (.tuple #[.agg (aG p' al' cl' plain pick (aw plain pick (aB r) 2 (IntKind.u64.wrap (xb+imm)) 8).1),.slice ga n c])∧RunIn w' p' al' cl' (aw plain pick (aB r) 2 (IntKind.u64.wrap (xb+imm)) 8).1∧From u.heap.size p p'∧FromL u.heap.size al al'∧((aw plain pick (aB r) 2 (IntKind.u64.wrap (xb+imm)) 8).1.cause=0->n=(aw plain pick (aB r) 2 (IntKind.u64.wrap (xb+imm)) 8).2.length∧n<=2∧∃g,ga=some (AD g 0)∧RowC w' ga n 3 (dx (aw plain pick (aB r) 2 (IntKind.u64.wrap (xb+imm)) 8).2)))∧Bw u w'):=fun u hu=>lG plain hcc p al cl pick (aB r) 2 (IntKind.u64.wrap (xb+imm)) 8 u hu hok' h0 hpk (by omega) hEb (by omega) hll;have HX:Hid (eT plain pick r 7 P q s word=if (aw plain pick (aB r) 2 (IntKind.u64.wrap (xb+imm)) 8).1.cause=0 then bW (cT (aw plain pick (aB r) 2 (IntKind.u64.wrap (xb+imm)) 8) (bM (IntKind.u64.wrap (iS (aw plain pick (aB r) 2 (IntKind.u64.wrap (xb+imm)) 8).1.h.mem (aw plain pick (aB r) 2 (IntKind.u64.wrap (xb+imm)) 8).2+xc)) 8)) (a:Int) (iS (aw plain pick (aB r) 2 (IntKind.u64.wrap (xb+imm)) 8).1.h.mem (aw plain pick (aB r) 2 (IntKind.u64.wrap (xb+imm)) 8).2) else (aw plain pick (aB r) 2 (IntKind.u64.wrap (xb+imm)) 8).1):=by
  show _=_;unfold eT doM;rw [if_neg (by simp [bH])]
  iterate 6 rw [if_neg (by decide)]
  rw [if_pos rfl];rw [hpa.1,hpb.1,hpc.1,him,mG,hxb,hxc];rfl
 have HYk:Hid _:=ic plain (kind:=2) (w:=8) hpk (by omega) hEb (by omega) hok';have HYl:Hid _:=kc plain pick 2 (IntKind.u64.wrap (xb+imm)) 8 (aB r);have HYi:Hid ((aw plain pick (aB r) 2 (IntKind.u64.wrap (xb+imm)) 8).1.cause=0->∀p∈(aw plain pick (aB r) 2 (IntKind.u64.wrap (xb+imm)) 8).2,fD (aw plain pick (aB r) 2 (IntKind.u64.wrap (xb+imm)) 8).1.h.mem.length p.2.2 p.2.1=true):=ka;have hX:=HX0.out;rw [hX] at HX;clear HX0;generalize aw plain pick (aB r) 2 (IntKind.u64.wrap (xb+imm)) 8=Y at HPt HX HYk HYl HYi;have ha8:=hpa.2;obtain ⟨hWb1,hWb8⟩:=hWb;clear hX hE hok hok' hEb hpa hpb hpc him hju hxa hxb hxc hW hpcc h0 hll;have hRs:=bP p al cl plain pick (aB r);have HLr:Hid (∀u:World,u.heap[w.heap.size]?=some (.cells (aG p al cl plain pick (aB r)) 54 (0,0))->(Instr.loadAt 54 (PT w.heap.size 0)).run Tryz.prog u=.ok (.agg (aG p al cl plain pick (aB r))) u):=fun u hu=>aW (P:=Tryz.prog) (T:=54) hu Tryz.underlying54 rfl (by rw [hRs];exact dq);have HRv:Hid (v.heap[w.heap.size]?=some (.cells (aG p al cl plain pick (aB r)) 54 (0,0))):=HE.out.run;generalize aG p al cl plain pick (aB r)=D at HPt hRs HLr HRv;have HLd:Hid _:=HLr.out v HRv.out;clear HLr;go_upto_region 39 with fail;go_wp2_with ((with_reducible refine bj ?_ HLd.out ?_);(exact rfl));refine (HPt.out v HE.out.runIn).mono ?_;rintro e v1 ⟨⟨p',al',cl',ga,n,cp,rfl,hI,hF0,hL0,hC⟩,n1⟩;clear HPt HLd HRv hRs;have HC:Hid _:=hC;have HF:Hid _:=hF0;have HL:Hid _:=hL0;have hR1:=bP p' al' cl' plain pick Y.1;have HR1o:Hid _:=dM p' al' cl' plain pick Y.1;obtain ⟨E,hEE⟩:∃E,aG p' al' cl' plain pick Y.1=E:=⟨_,rfl⟩;have HEE:Hid (aG p' al' cl' plain pick Y.1=E):=hEE;rw [hEE] at hR1 HR1o |-;clear hEE hC hF0 hL0;have a1:=bF v1 eS 54;have HSt:Hid _:=aR (P:=Tryz.prog) (T:=54) (V:=E) a1.1 (by rw [hR1];exact dq) (by rw [hR1,aS]) HR1o.out;have HT:Hid _:=aI (V:=E) a1.1 (by rw [hR1,aS]);have n2:=aK (Nat.le_refl v1.heap.size) E.toList 0 _ a1.2.2;have s2:v1.heap.size<((v1.alloc (Obj.cells eS 54)).setCells v1.heap.size 0 E.toList).heap.size:=by rw [cF];have:=a1.2.1;omega
 clear a1;go_upto_region 40 with ((with_reducible refine az ?_ ?_ HSt.out ?_);(exact rfl);(exact rfl));generalize (v1.alloc (Obj.cells eS 54)).setCells v1.heap.size 0 E.toList=vT at HT n2 s2 |-;clear HSt;have nT:=bst n1 n2;have HIT:Hid (RunIn vT p' al' cl' Y.1):=hI.keep n2;have HK6:Hid _:=ae HE.out.res nT (hpl HE.out.res);have hv1:v.heap.size<=v1.heap.size:=n1.size;have hwv:w.heap.size+1<v.heap.size:=(hpl HE.out.res);have HLo:Hid ((∀q,some q∈be p'->q.block<v1.heap.size)∧∀q,al'=some q->q.block<v1.heap.size):=⟨hI.h.low,hI.low⟩;generalize hvb:v1.heap.size=vb at HT s2 hv1 HLo |-;have c23:E[23]?=some (VI Y.1.cause):=by rw [<-HEE.out];rfl
 have k23:=ab HT.out 23 c23;have HCv:Hid (Y.1.cause=0->n=Y.2.length∧n<=2∧∃g,ga=some (AD g 0)∧RowC vT ga n 3 (dx Y.2)):=fun h=>by
  obtain ⟨h1,h2,g,h3,h4⟩:=HC.out h;exact ⟨h1,h2,g,h3,h4.keep n2⟩
 clear HC hI n1 n2 hvb c23;have HLt:Hid (∀u:World,u.heap[vb]?=some (.cells E 54 (0,0))->(Instr.loadAt 54 (PT vb 0)).run Tryz.prog u=.ok (.agg E) u):=fun u hu=>aW (P:=Tryz.prog) (T:=54) hu Tryz.underlying54 rfl (by rw [hR1];exact dq);by_cases h0:¬Y.1.cause=0
 ·have HXe:Hid (X=Y.1):=by show _=_;rw [HX.out,if_neg h0]
  obtain ⟨u2,HSr,HR⟩:=lU HE.out HIT.out HF.out HL.out nT HQ.out HXe.out;rw [HEE.out] at HSr;have HLd:Hid _:=HLt.out vT HT.out;generalize Y.1.cause=cs at k23 h0;go_upto_region 41 with fail;go_wp2_with (first
   | ((with_reducible refine bj ?_ HLd.out ?_);(exact rfl))
   | ((with_reducible refine az ?_ ?_ HSr.out ?_);(exact rfl);(exact rfl)))
  exact HR.out _ rfl rfl
 ·replace h0:Y.1.cause=0:=Decidable.not_not.1 h0;obtain ⟨G,hG⟩:∃G,iS Y.1.h.mem Y.2=G:=⟨_,rfl⟩;have HXe:Hid (X=bW (cT Y (bM (IntKind.u64.wrap (G+xc)) 8)) (a:Int) G):=by show _=_;rw [HX.out,if_pos h0,hG]
  obtain ⟨hn,hn2,g,rfl,hrow⟩:=HCv.out h0;have HRow:Hid _:=hrow;obtain ⟨mb,mo,ham,hmlt,hmcell⟩:∃b off,p'.am=some (AD b off)∧b<vT.heap.size∧∀i,i<Y.1.h.mem.length->vT.cell? ⟨b,off+i,none⟩=some (.int .u8 (Y.1.h.mem[i]?.getD 0)):=by
   rcases HIT.out.h.mem.2.2 with h | h
   ·have:=iy HYk.out.1.h.v.size;omega
   ·exact h
  have HB:Hid (Byt vT (some (AD mb mo)) Y.1.h.mem.length Y.1.h.mem):=by
   have:=HIT.out.h.mem;rw [ham] at this;exact this
  have hml:Y.1.h.mem.length<=4096:=(iy HYk.out.1.h.v.size).2.2;obtain ⟨hmc1,hmc2⟩:=HIT.out.h.memc;have c0:E[0]?=some (.slice (some (AD mb mo)) Y.1.h.mem.length p'.cm):=by rw [<-HEE.out];show some (Value.slice p'.am _ _)=_;rw [ham]
  have k0:=ab HT.out 0 c0;have HLm:Hid (∀u:World,u.heap[vb]?=some (.cells E 54 (0,0))->(Instr.loadAt 22 (PT vb 0)).run Tryz.prog u=.ok (.slice (some (AD mb mo)) Y.1.h.mem.length p'.cm) u):=fun u hu=>by
   have h1:=ab hu 0 c0;go_simp
  have HIi:Hid _:=HYi.out h0;have Ham:Hid (p'.am=some (AD mb mo)):=ham;clear hrow ham hmlt hmcell hn;generalize hmL:Y.1.h.mem.length=ml at *;have HmL:Hid (Y.1.h.mem.length=ml):=hmL;clear hmL;rw [h0] at k23;have Hmb:Hid (mb<vT.heap.size):=by
   have:=HIT.out.h.low _ (show some ((AD mb mo):Addr)∈be p' by rw [<-Ham.out];simp [be]);exact this
  have HXu:Hid (inU (IntKind.u64.wrap (G+xc))):=fe (G+xc);have HGet:Hid (∀u,Bw vT u->Calls Tryz.prog 96 #[.slice (some (AD mb mo)) ml p'.cm,SL g n cp] u fun e w'=>e=.returned (VU G)∧Bw u w'):=fun u hu=>by rw [<-hG];exact tR mb mo ml p'.cm g n cp Y.1.h.mem Y.2 u (HB.out.keep hu) (by omega) hmc1 hmc2 (RowC.keep HRow.out hu) (HCv.out h0).1.symm hn2 HYk.out.2 HIi.out (by rw [HYl.out];omega)
  have HSet:Hid (∀u,Bw vT u->Calls Tryz.prog 97 #[.slice (some (AD mb mo)) ml p'.cm,SL g n cp,VI 8,VU (IntKind.u64.wrap (G+xc))] u fun e w'=>(∃b o cp,e=.returned (.slice (some (AD b o)) ml cp)∧Byt w' (some (AD b o)) ml (iN Y.1.h.mem Y.2 (bM (IntKind.u64.wrap (G+xc)) 8))∧(ml<=cp∧cp<=9223372036854775807)∧b<w'.heap.size∧((b=mb∧o=mo)∨u.heap.size<=b))∧Bw u w'):=fun u hu=>tS mb mo ml p'.cm g n cp 8 (IntKind.u64.wrap (G+xc)) Y.1.h.mem Y.2 u (HB.out.keep hu) (ltl Hmb.out hu.size) (by omega) hmc1 hmc2 (RowC.keep HRow.out hu) (HCv.out h0).1.symm hn2 HYk.out.2 HIi.out HYl.out (by omega) HXu.out;clear hG;go_upto_region 42 with fail;go_wp2_with fail;refine (HGet.out vT brf).mono ?_;rintro e vG ⟨rfl,n0⟩;have kg0:=ab (ae HT.out n0 s2) 0 c0;have hvg:vb<vG.heap.size:=ltl s2 n0.size;go_upto_region 43 with fail;go_wp2_with fail;clear kg0;refine (HSet.out vG n0).mono ?_;rintro e v2 ⟨⟨b2,o2,cp2,rfl,hB2,hcp2,hb2,hor2⟩,n2'⟩;have n2:Bw vT v2:=bst n0 n2';have J2:=ae HT.out n2 s2;have kk0:=ab J2 0 c0;have kf0:=ap J2 0;have HB2:Hid _:=hB2;have HJ2:Hid _:=J2;have hvb2:vb<v2.heap.size:=ltl s2 n2.size;clear hB2 J2;go_upto_region 44 with fail;have HJ3:Hid ((v2.setCell (AD vb 0) (.slice (some (AD b2 o2)) ml cp2)).heap[vb]?=some (.cells (E.setIfInBounds 0 (.slice (some (AD b2 o2)) ml cp2)) 54 (0,0))):=cf HJ2.out 0 _;have g3:=au (ao v2 (some vb)) 0 (Value.slice (some (AD b2 o2)) ml cp2);have n3:Bw v (v2.setCell (AD vb 0) (.slice (some (AD b2 o2)) ml cp2)):=cH (bst nT n2) hv1 0 _;generalize v2.setCell (AD vb 0) (.slice (some (AD b2 o2)) ml cp2)=v3 at HJ3 g3 n3 |-;clear kk0 kf0 k0 k23;have hne2:b2≠vb:=by
   rcases hor2 with ⟨h,_⟩ | h
   ·subst h;have:=HLo.out.1 _ (by rw [<-Ham.out];simp [be]);simp only at this;omega
   ·have h':=n0.size;omega
  have hB3:Byt v3 (some (AD b2 o2)) ml (iN Y.1.h.mem Y.2 (bM (IntKind.u64.wrap (G+xc)) 8)):=Byt.gb' HB2.out g3 (fun q hq=>by cases hq;exact hne2);have hml3:=hB3.1;have hI3:RunIn v3 ⟨some (AD b2 o2),cp2,p'.ar,p'.cr,p'.a1,p'.c1,p'.a2,p'.c2,p'.a3,p'.c3⟩ al' cl' (cT Y (bM (IntKind.u64.wrap (G+xc)) 8)):=
   tT (HIT.out.keep n2) g3 (fun q hq=>Nat.ne_of_lt (HLo.out.1 q hq)) (fun q hq=>Nat.ne_of_lt (HLo.out.2 q hq)) (by rw [HmL.out];exact hB3) (by rw [HmL.out];exact hml3) (by rw [HmL.out];exact hcp2) (ltl hb2 g3.size)
  have hF3:From v.heap.size p ⟨some (AD b2 o2),cp2,p'.ar,p'.cr,p'.a1,p'.c1,p'.a2,p'.c2,p'.a3,p'.c3⟩:=wn HF.out Ham.out hor2 (by have h':=n0.size;have h2:=nT.size;omega);have HE2:Hid (E.setIfInBounds 0 (.slice (some (AD b2 o2)) ml cp2)=aG ⟨some (AD b2 o2),cp2,p'.ar,p'.cr,p'.a1,p'.c1,p'.a2,p'.c2,p'.a3,p'.c3⟩ al' cl' plain pick (cT Y (bM (IntKind.u64.wrap (G+xc)) 8))):=by
   show _=_;rw [<-HEE.out,cT,wo (by rw [HmL.out];exact hml3),HmL.out]
  have HI3:Hid _:=hI3;have HF3:Hid _:=hF3;have HB3:Hid _:=hB3;clear hI3 hF3 hB3 hml3 g3;rw [HE2.out] at HJ3;have hr8:Y.1.h.regs.length=8:=HYk.out.1.h.v.regs;have HSR:Hid (∀u,RunIn u (⟨some (AD b2 o2),cp2,p'.ar,p'.cr,p'.a1,p'.c1,p'.a2,p'.c2,p'.a3,p'.c3⟩:PtrM) al' cl' (cT Y (bM (IntKind.u64.wrap (G+xc)) 8))->Calls Tryz.prog 94 #[.agg (aG (⟨some (AD b2 o2),cp2,p'.ar,p'.cr,p'.a1,p'.c1,p'.a2,p'.c2,p'.a3,p'.c3⟩:PtrM) al' cl' plain pick (cT Y (bM (IntKind.u64.wrap (G+xc)) 8))),VI (a:Nat),VU G] u fun e w'=>(∃p2,e=.returned (.agg (aG p2 al' cl' plain pick (bW (cT Y (bM (IntKind.u64.wrap (G+xc)) 8)) a G)))∧RunIn w' p2 al' cl' (bW (cT Y (bM (IntKind.u64.wrap (G+xc)) 8)) a G)∧From u.heap.size (⟨some (AD b2 o2),cp2,p'.ar,p'.cr,p'.a1,p'.c1,p'.a2,p'.c2,p'.a3,p'.c3⟩:PtrM) p2)∧Bw u w'):=fun u hu=>iX (⟨some (AD b2 o2),cp2,p'.ar,p'.cr,p'.a1,p'.c1,p'.a2,p'.c2,p'.a3,p'.c3⟩:PtrM) al' cl' plain pick (cT Y (bM (IntKind.u64.wrap (G+xc)) 8)) a G u hu (by omega) (by show (a:Int).toNat<Y.1.h.regs.length;omega) (by show Y.1.h.regs.length<=_;omega);have hR3:=bP (⟨some (AD b2 o2),cp2,p'.ar,p'.cr,p'.a1,p'.c1,p'.a2,p'.c2,p'.a3,p'.c3⟩:PtrM) al' cl' plain pick (cT Y (bM (IntKind.u64.wrap (G+xc)) 8));generalize aG (⟨some (AD b2 o2),cp2,p'.ar,p'.cr,p'.a1,p'.c1,p'.a2,p'.c2,p'.a3,p'.c3⟩:PtrM) al' cl' plain pick (cT Y (bM (IntKind.u64.wrap (G+xc)) 8))=E3 at HJ3 HSR hR3;have HLd:Hid _:=aW (P:=Tryz.prog) (T:=54) HJ3.out Tryz.underlying54 rfl (by rw [hR3];exact dq);go_wp2_with ((with_reducible refine bj ?_ HLd.out ?_);(exact rfl));refine (HSR.out v3 HI3.out).mono ?_;rintro e v4 ⟨⟨p2,rfl,hI4,hF4'⟩,n4'⟩;have n4:Bw v v4:=bst n3 n4';have hF4:From v.heap.size p p2:=nl HF3.out hF4' (by have:=n3.size;omega);obtain ⟨u2,HSr,HR⟩:=lU HE.out hI4 hF4 HL.out n4 HQ.out HXe.out;generalize aG p2 al' cl' plain pick (bW (cT Y (bM (IntKind.u64.wrap (G+xc)) 8)) (a:Int) G)=E2 at HSr |-;go_wp2_with ((with_reducible refine az ?_ ?_ HSr.out ?_);(exact rfl);(exact rfl));exact HR.out _ rfl rfl
end
section
attribute [local go_sem ↓] Go.wp_at_zero Go.wp_at_succ
theorem xD (x:EX) (H:ExecH x) (hmo:x.r.h.mode≠0):sH 10 x:=by
 obtain ⟨w,v,hb,a,b,c,p,al,cl,plain,pick,r,P,q,s,word,imm,jump,xa,xb,xc,W,pc⟩:=x;obtain ⟨hE,hok,hreg,hpk,h0,hll,hs,hwd,hpa,hpb,hpc,him,hju,hxa,hxb,hxc,hW,hpcc⟩:=H;intro Q X HX HQ K hK C
 intros
 dsimp only at *;simp only [eg,df,eM,Tryz.f70,Option.getD] at hK |-;have k3:=ab hE.hart 3 (show (ak p r.h)[3]?=some (VI r.h.mode) from rfl);have hbv:=(hpl hE.hart);have HE:=hid hE;have HXu:inU xa:=by rw [hxa];exact hok.h.regs _
 have hX:X=bA (aB r) ⟨r.h.mem,r.h.regs,(aB r).h.pc,r.h.mode,bJ xa 1,bJ xa 2,r.h.satp,r.h.tvec,r.h.epc,r.h.emode,r.h.cause,r.h.tval,r.h.k⟩:=by
  rw [<-HX.out];unfold eT doM;rw [if_neg (by simp [bH,bA,dL,hmo])]
  iterate 9 rw [if_neg (by decide)]
  rw [if_pos rfl,hpa.1,hxa];rfl
 obtain ⟨b0,hb0⟩:∃b0,bJ xa 1=b0:=⟨_,rfl⟩;obtain ⟨b1,hb1⟩:∃b1,bJ xa 2=b1:=⟨_,rfl⟩;rw [hb0,hb1] at hX;have HB0:Hid _:=hb0;have HB1:Hid _:=hb1;have HX2:Hid _:=hX;generalize r.h.mode=mo at k3 hmo;clear hb0 hb1 hX HX hE hok hpa hpb hpc him hju hxa hxb hxc hW hpcc h0 hll hs hwd hpk;go_upto_region 54 with fail;go_wp2_with fail;refine (bV xa 0 1 v HXu.1 HXu.2 (by omega) (by omega) rfl).mono ?_;rintro e v' ⟨rfl,nq,rfl⟩;have F1:Hid _:=(FSq.of HE.out).step (below_drewN brf nq);clear k3 hbv HE;rw [HB0.out];generalize v.drewN nq=v1 at F1 |-;have c4:=ab F1.out.run 4 (show (aG p al cl plain pick (aB r))[4]?=some _ from rfl);have f4:=ap F1.out.run 4;have hav:=(hpl F1.out.run);go_upto_region 55 with fail;clear c4 f4 hav;have F2:Hid _:=F1.out.set 4 (.bool b0);generalize v1.setCell (AD w.heap.size 4) (.bool b0)=v2 at F2 |-;go_wp2_with fail;refine (bV xa 1 2 v2 HXu.1 HXu.2 (by omega) (by omega) rfl).mono ?_;rintro e v' ⟨rfl,nq2,rfl⟩;have F3:Hid _:=F2.out.step (below_drewN brf nq2);rw [HB1.out];generalize v2.drewN nq2=v3 at F3 |-;have c5:=ab F3.out.run 5 (show ((aG p al cl plain pick (aB r)).setIfInBounds 4 (.bool b0))[5]?=some _ from rfl);have f5:=ap F3.out.run 5;have hav:=(hpl F3.out.run);go_upto_region 56 with fail;clear c5 f5 hav;obtain ⟨E,u2,HLd,HSr,HR⟩:=(F3.out.set 5 (.bool b1)).fin HQ.out (by rw [HX2.out];rfl) (by rw [HX2.out];rfl) (by rw [HX2.out];rfl) (by rw [HX2.out];rfl) (by rw [HX2.out];rfl);generalize v3.setCell (AD w.heap.size 5) (.bool b1)=v4 at HLd HSr |-;go_wp2_with (first
  | ((with_reducible refine bj ?_ HLd.out ?_);(exact rfl))
  | ((with_reducible refine az ?_ ?_ HSr.out ?_);(exact rfl);(exact rfl)))
 exact HR.out _ rfl rfl
end
section
attribute [local go_sem ↓] Go.wp_at_zero Go.wp_at_succ
theorem FK (x:Int):decide (x≠0)=(x != 0):=by by_cases h:x=0 <;> simp [h]
theorem Ec (p q:PtrM) (al:Option Addr) (cl:Nat) (plain:Bool) (pick:Int) (r:RunM) (k:KM):jG (aG p al cl plain pick r) 12 (kA q k).toList=aG (pK p q.a1 q.c1 q.a2 q.c2 q.a3 q.c3) al cl plain pick (bA r (withK r.h k)):=by
 simp [jG,aG,kA,pK,withK,bA]
def Gp:Prop:=∀x:EX,ExecH x->x.plain=false->x.r.h.mode≠0->sH 11 x
def PlF (plain:Bool):Prop:=plain=true∨Gp
theorem qi (x:EX) (H:ExecH x) (hpl:x.plain=true) (hmo:x.r.h.mode≠0):sH 11 x:=by
 obtain ⟨w,v,hb,a,b,c,p,al,cl,plain,pick,r,P,q,s,word,imm,jump,xa,xb,xc,W,pc⟩:=x;obtain ⟨hE,hok,hreg,hpk,h0,hll,hs,hwd,hpa,hpb,hpc,him,hju,hxa,hxb,hxc,hW,hpcc⟩:=H;dsimp only at hpl;subst hpl;intro Q X HX0 HQ K hK C
 intros
 dsimp only at *;simp only [eg,df,eM,Tryz.f70,Option.getD] at hK |-;have HE:Hid (ExecIn w v hb p al cl true pick r):=hE;have HQp:=exq HQ.out;have HX:Hid (eT true pick r 11 P q s word=(⟨(aB r).h,(aB r).cause,(aB r).tval,(aB r).looks,true,(⟨(a:Int) != 0,xa,(b:Int) != 0,xb%65536⟩:FenceM)⟩:RunM)):=by
  show _=_;unfold eT doM;rw [if_neg (by simp [bH,bA,dL,hmo])]
  iterate 10 rw [if_neg (by decide)]
  rw [if_pos rfl,hpa.1,hpb.1,hxa,hxb];simp only [jQ,FK];rfl
 have hX:=HX0.out;have HX':Hid (X=(⟨(aB r).h,(aB r).cause,(aB r).tval,(aB r).looks,true,(⟨(a:Int) != 0,xa,(b:Int) != 0,xb%65536⟩:FenceM)⟩:RunM)):=by show _=_;rw [<-hX];exact HX.out
 clear HX0;have HXu:Hid (inU xa):=by show inU _;rw [hxa];exact hok.h.regs _
 have hxb':inU xb:=by rw [hxb];exact hok.h.regs _
 obtain ⟨hxb1,hxb2⟩:=hxb';have HKo:Hid (kOk r.h.k):=hok.h.ks;have k3:=ab HE.out.hart 3 (show (ak p r.h)[3]?=some (VI r.h.mode) from rfl);have hbv:hb<v.heap.size:=(hpl HE.out.hart);obtain ⟨mo,hme⟩:∃mo,r.h.mode=mo:=⟨_,rfl⟩;rw [hme] at k3 hmo;clear hme;clear hX HX hE hok hpa hpb hpc him hju hxa hxb hxc hW hpcc h0 hll;have c26:=ab HE.out.run 26 (show (aG p al cl true pick (aB r))[26]?=some _ from rfl);have f26:=ap HE.out.run 26;have hav:w.heap.size<v.heap.size:=(hpl HE.out.run);go_upto_region 59 with fail;clear c26 f26;have H1:=cf HE.out.run 26 (.bool true);have q1:=au (ao v (some w.heap.size)) 26 (Value.bool true);have HS2:Hid _:=fq (P:=Tryz.prog) (T:=52) H1 (o:=27) (V:=#[.bool ((a:Int) != 0),VU xa,.bool ((b:Int) != 0),VU (xb%65536)]) (by kernel_rfl) (by rw [Array.size_setIfInBounds,bP];show 27+4<=31;omega) (by simp [Value.oneCell']);have H2:=dn w.heap.size [.bool ((a:Int) != 0),VU xa,.bool ((b:Int) != 0),VU (xb%65536)] 27 _ _ _ _ H1 (by rw [Array.size_setIfInBounds,bP];show 27+4<=31;omega);have g2:=aH w.heap.size [.bool ((a:Int) != 0),VU xa,.bool ((b:Int) != 0),VU (xb%65536)] 27 v _ q1;have n2:=aK (Nat.le_refl w.heap.size) [.bool ((a:Int) != 0),VU xa,.bool ((b:Int) != 0),VU (xb%65536)] 27 _ (cH HE.out.below nle 26 (.bool true));have HI2:Hid _:=HE.out.runIn.gb g2 (fun q hq=>by have:=HE.out.ptrs q hq;omega) (fun q hq=>by have:=HE.out.looks q hq;omega);have HK2:Hid _:=aA HE.out.res g2 (show w.heap.size+1≠w.heap.size by omega);have HH2:Hid _:=aA HE.out.hart g2 (by have:=HE.out.hb;omega);have hav2:w.heap.size<((v.setCell (AD w.heap.size 26) (.bool true)).setCells w.heap.size 27 [.bool ((a:Int) != 0),VU xa,.bool ((b:Int) != 0),VU (xb%65536)]).heap.size:=ltl hav g2.size;have hbv2:hb<((v.setCell (AD w.heap.size 26) (.bool true)).setCells w.heap.size 27 [.bool ((a:Int) != 0),VU xa,.bool ((b:Int) != 0),VU (xb%65536)]).heap.size:=ltl hbv g2.size;have HD:Hid (jG ((aG p al cl true pick (aB r)).setIfInBounds 26 (.bool true)) 27 [.bool ((a:Int) != 0),VU xa,.bool ((b:Int) != 0),VU (xb%65536)]=aG p al cl true pick (⟨(aB r).h,(aB r).cause,(aB r).tval,(aB r).looks,true,(⟨(a:Int) != 0,xa,(b:Int) != 0,xb%65536⟩:FenceM)⟩:RunM)):=by
  show _=_;simp [jG,aG]
 rw [HD.out] at H2;have HR2:Hid _:=H2;clear H1 H2 q1 g2 k3;go_upto_region 60 with ((with_reducible refine az ?_ ?_ HS2.out ?_);(exact rfl);(exact rfl));generalize (v.setCell (AD w.heap.size 26) (.bool true)).setCells w.heap.size 27 [.bool ((a:Int) != 0),VU xa,.bool ((b:Int) != 0),VU (xb%65536)]=v2 at HR2 HI2 HK2 HH2 n2 hav2 hbv2 |-;clear HS2 HD hav hbv;have c21:=ab HR2.out 21 (show (aG p al cl true pick (⟨(aB r).h,(aB r).cause,(aB r).tval,(aB r).looks,true,(⟨(a:Int) != 0,xa,(b:Int) != 0,xb%65536⟩:FenceM)⟩:RunM))[21]?=some (.bool true) from rfl);have hI2:RunIn v2 p al cl (⟨(aB r).h,(aB r).cause,(aB r).tval,(aB r).looks,true,(⟨(a:Int) != 0,xa,(b:Int) != 0,xb%65536⟩:FenceM)⟩:RunM):=by
  have k:=HI2.out;exact ⟨⟨k.h.mem,k.h.memc,k.h.regs,k.h.regc,k.h.rega,k.h.ks,k.h.low⟩,k.looks,k.lookc,k.looka,k.lookl,k.low⟩
 have HFn:Hid _:=BH (plain:=true) (pick:=pick) HE.out hI2 n2 (aG p al cl true pick (⟨(aB r).h,(aB r).cause,(aB r).tval,(aB r).looks,true,(⟨(a:Int) != 0,xa,(b:Int) != 0,xb%65536⟩:FenceM)⟩:RunM)).toList;have hR2:=bP p al cl true pick (⟨(aB r).h,(aB r).cause,(aB r).tval,(aB r).looks,true,(⟨(a:Int) != 0,xa,(b:Int) != 0,xb%65536⟩:FenceM)⟩:RunM);have HR2o:Hid _:=dM p al cl true pick (⟨(aB r).h,(aB r).cause,(aB r).tval,(aB r).looks,true,(⟨(a:Int) != 0,xa,(b:Int) != 0,xb%65536⟩:FenceM)⟩:RunM);have HRE:Hid _:=HR2.out;have HKE:Hid _:=HK2.out;generalize aG p al cl true pick (⟨(aB r).h,(aB r).cause,(aB r).tval,(aB r).looks,true,(⟨(a:Int) != 0,xa,(b:Int) != 0,xb%65536⟩:FenceM)⟩:RunM)=E at HRE HFn hR2 HR2o;go_upto_region 62 with fail;have K6:Hid _:=HKE.out;have HLd:Hid _:=aW (P:=Tryz.prog) (T:=54) HRE.out Tryz.underlying54 rfl (by rw [hR2];exact dq);have HSr:Hid _:=aR (P:=Tryz.prog) (T:=54) (V:=E) K6.out (by rw [hR2];exact dq) (by rw [hR2,aS]) HR2o.out;have e1:=aI (V:=E) K6.out (by rw [hR2,aS]);go_wp2_with (first
  | ((with_reducible refine bj ?_ HLd.out ?_);(exact rfl))
  | ((with_reducible refine az ?_ ?_ HSr.out ?_);(exact rfl);(exact rfl)))
 rw [<-HQ.out];refine dE (b:=w.heap.size+1) Tryz.results70 rfl (bC (P:=Tryz.prog) e1 Tryz.underlying54 rfl (by rw [hR2];exact dq)) rfl ?_;rw [HX'.out];exact HFn.out
end
section
attribute [local go_sem ↓] Go.wp_at_zero Go.wp_at_succ
theorem zx {plain:Bool} (hcc:PlC plain) (hcf:PlF plain) (p:PtrM) (al:Option Addr) (cl:Nat) (pick:Int) (r:RunM) (op P q s word:Int) (w:World) (hr:RunIn w p al cl r) (hk:ROk r) (hpk:0<=pick∧pick<=255) (h0:r.cause=0) (hll:r.looks.length<=6)
 (hop:0<=op∧op<=255) (hp:0<=P∧P<=255) (hq:0<=q∧q<=255) (hs:0<=s∧s<=255) (hwd:inU word):
  Calls Tryz.prog 70 #[.agg (aG p al cl plain pick r),VI op,VI P,VI q,VI s,VU word] w (fG w p al cl plain pick (eT plain pick r op P q s word)):=by
 have hmo:=hk.h.v.mode;refine uK p al cl plain pick r op P q s word w hr hk hk.h.v.regs hop hp hq hs _ ?_;intro v hb a b c imm jump xa xb xc W pc hE hpa hpb hpc him hju hxa hxb hxc hW hpcc;have H:ExecH ⟨w,v,hb,a,b,c,p,al,cl,plain,pick,r,P,q,s,word,imm,jump,xa,xb,xc,W,pc⟩:=⟨hE,hk,hk.h.v.regs,hpk,h0,hll,hs,hwd,hpa,hpb,hpc,him,hju,hxa,hxb,hxc,hW,hpcc⟩
 suffices h:sH op ⟨w,v,hb,a,b,c,p,al,cl,plain,pick,r,P,q,s,word,imm,jump,xa,xb,xc,W,pc⟩ from h _ _ rfl rfl
 by_cases hbig:15<=op
 ·exact fk _ H _ (.inr (.inr (.inr (.inr (.inr (.inr (.inr (.inr ⟨hbig,hop.2⟩))))))))
 have hcs:op=0∨op=1∨op=2∨op=3∨op=4∨op=5∨op=6∨op=7∨op=8∨op=9∨op=10∨op=11∨op=12∨op=13∨op=14:=by omega
 rcases hcs with rfl | rfl | rfl | rfl | rfl | rfl | rfl | rfl | rfl | rfl | rfl | rfl | rfl | rfl | rfl
 iterate 4
  exact fk _ H _ (by simp)
 ·exact Eo _ H
 ·exact yT _ H hcc
 ·exact yF _ H hcc
 ·exact BE _ H hcc
 ·exact pZ _ H _ (by simp [Classical.em])
 ·by_cases hm:r.h.mode=0
  ·exact fk _ H _ (by simp [hm])
  ·exact Ce _ H hm
 ·by_cases hm:r.h.mode=0
  ·exact fk _ H _ (by simp [hm])
  ·exact xD _ H hm
 ·by_cases hm:r.h.mode=0
  ·exact fk _ H _ (by simp [hm])
  ·cases plain
   ·exact (hcf.resolve_left (by decide)) _ H rfl hm
   ·exact qi _ H rfl hm
 ·by_cases hm:r.h.mode=2
  ·exact pZ _ H _ (by simp [hm])
  ·exact fk _ H _ (by simp [hm])
 ·by_cases hm:r.h.mode=2
  ·by_cases hc2:2<c
   ·exact fk _ H _ (by simp [hm,hc2])
   ·exact pZ _ H _ (by simp [hm];omega)
  ·exact fk _ H _ (by simp [hm])
 ·exact fk _ H _ (by simp)
end
end Go.Proofs.YthdgiakgepmabaaGreat
