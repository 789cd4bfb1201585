import Derived.Test.YtgnnmgfgfihljaaGreatPk24
namespace Go.Proofs.YtgnnmgfgfihljaaGreat
open Go.RowKit
set_option linter.unusedVariables false
set_option maxHeartbeats 6400000
set_option maxRecDepth 20000
def jO (kind:Int):List bI->List Value
 | []=>[]
 | p::ps=>.int .i64 kind::.int .u64 p.1::.int .u64 p.2.2::.int .u64 p.2.1::jO kind ps
def zA (plain:Bool) (pick:Int) (O X:Nat->Prop) (m:MP) (PA:World->RunM->Prop) (ov:Value) (ol:List (Nat × Int)) (T:RunM × List bI) (kind:Int) (w:World) (e:Ending) (w':World):Prop:=
 ((T.1.cause=0∧∃g,e=.returned (.slice (some ⟨g,0,none⟩) T.2.length T.2.length)∧w.heap.size<=g∧w'.heap[g]?=some (.cells (jO kind T.2).toArray 236 (0,0)))∨(T.1.cause≠0∧e=.panicked [jz T.1.cause T.1.tval]))∧
 MW w' O X m ov T.1.h ol∧PA w' T.1∧Kp X w w'
theorem xB (va size:Int) (h:size<=64-va%64):co va size=[(va,size,0)]:=by
 unfold co;rw [if_neg (by omega)]
theorem AK (va size:Int) (h:64-va%64<size):co va size=[(va,64-va%64,0),((va+(64-va%64))%18446744073709551616,size-(64-va%64),0)]:=by
 unfold co;rw [if_pos h]
theorem fN (plain:Bool) (pick kind:Int) (r:RunM) (p:bI) (ps:List bI) (h:(be plain pick r.h kind p.1).1.1≠0):aj plain pick kind r (p::ps)=(bP (bw plain pick r kind p.1) (be plain pick r.h kind p.1).1.1 p.1,p::ps):=by
 rw [aj,if_neg h]
theorem eD (plain:Bool) (pick kind:Int) (r:RunM) (p:bI) (ps:List bI) (h:(be plain pick r.h kind p.1).1.1=0):aj plain pick kind r (p::ps)=((aj plain pick kind (bw plain pick r kind p.1) ps).1,(p.1,p.2.1,(be plain pick r.h kind p.1).1.2)::(aj plain pick kind (bw plain pick r kind p.1) ps).2):=by
 rw [aj,if_pos h]
theorem SameC.look {h0:HartM} {r:RunM} (hc:SameC r.h h0) (plain:Bool) (pick kind va:Int):SameC (bw plain pick r kind va).h h0:=⟨hc.mem,hc.mode,hc.sum,hc.mxr,hc.satp⟩
theorem pz {plain:Bool} {pick:Int} {h0:HartM} {O X:Nat->Prop} {PI:World->Prop} {PA:World->RunM->Prop} {m:MP} (hp:PathOk m plain pick h0 X PI PA) (hpk:0<=pick∧pick<=255) {ov:Value} {ol:List (Nat × Int)} (r:RunM) (kind va size:Int) (w:World)
 (k:MW w O X m ov r.h ol) (hA:PA w r) (hr:ROk r) (hc:SameC r.h h0) (h0c:r.cause=0) (hk0:0<=kind) (hk2:kind<=2) (hv:inU va) (hs:1<=size∧size<=8):
 Calls Tryz.prog 100 #[.pointer (some ⟨m.b,0,none⟩),.int .i64 kind,.int .u64 va,.int .u64 size] w fun e w'=>zA plain pick O X m PA ov ol (aj plain pick kind r (co va size)) kind w e w':=by
 have HK:Hid _:=k;have HA:Hid _:=hA;have HP:Hid _:=hp;have HR:Hid _:=hr;have HC:Hid _:=hc;have H0:Hid _:=h0c;obtain ⟨hv0,hv1⟩:=hv;obtain ⟨hs1,hs2⟩:=hs;clear k hA hp hr hc h0c;obtain ⟨lf,hlf⟩:∃lf:Int,64-va%64=lf:=⟨_,rfl⟩;have hl1:1<=lf:=by omega
 have hl2:lf<=64:=by omega
 have HL:Hid _:=hlf;have hw1:IntKind.u64.wrap (64-va%64)=lf:=by rw [IntKind.wrap_u64];omega
 clear hlf;by_cases hle:size<=lf
 ·rw [xB va size (by rw [HL.out];exact hle)];go_enter Tryz.func100,Tryz.ntmps100;go_wp2_with fail;refine (jq HP.out hpk r kind va size w HK.out HA.out HR.out HC.out hk0 hk2 ⟨hv0,hv1⟩).mono ?_;rintro e v1 ⟨he,k1,a1,n1⟩;by_cases hz:(be plain pick r.h kind va).1.1=0
  ·rw [if_pos hz] at he;subst he;have HZ:Hid _:=hz;have K1:Hid _:=k1;have A1:Hid _:=a1;have N1:Hid _:=n1;clear hz k1 a1 n1;have F:=bL v1 #[.int .i64 kind,.int .u64 va,.int .u64 (be plain pick r.h kind va).1.2,.int .u64 size] 236;go_wp2_with fail;obtain ⟨f1,_,f3⟩:=F;have sz:=N1.out.size;go_ret;have hT:aj plain pick kind r [(va,size,0)]=(bw plain pick r kind va,[(va,size,(be plain pick r.h kind va).1.2)]):=by
    rw [eD _ _ _ _ _ _ HZ.out];rfl
   rw [hT];exact ⟨.inl ⟨H0.out,v1.heap.size,rfl,sz,f1⟩,K1.out.low f3,HP.out.keep A1.out (fun i hi=>(K1.out.xo i hi).2) (Kp.of_below (fun _=>False) f3) (fun _ _ h=>h),N1.out.trans (Kp.of_below X f3)⟩
  ·rw [if_neg hz] at he;subst he;have HZ:Hid _:=hz;clear hz;go_wp2_with fail;refine ⟨rfl,?_⟩;rw [fN _ _ _ _ _ _ HZ.out];exact ⟨.inr ⟨HZ.out,rfl⟩,k1,HP.out.congr _ _ _ a1 rfl rfl rfl rfl,n1⟩
 ·have hlt:lf<size:=by omega
  have hw2:IntKind.u64.wrap (size-lf)=size-lf:=by rw [IntKind.wrap_u64];omega
  obtain ⟨va2,hva2⟩:∃va2:Int,(va+lf)%18446744073709551616=va2:=⟨_,rfl⟩;have hw3:IntKind.u64.wrap (va+lf)=va2:=by rw [IntKind.wrap_u64];exact hva2
  have hu2:inU va2:=by rw [<-hva2];unfold inU;omega
  have hdd:decide (size<=lf)=false:=decide_eq_false (by omega);rw [AK va size (by rw [HL.out];exact hlt),HL.out,hva2];clear hva2 hle;go_enter Tryz.func100,Tryz.ntmps100;go_wp2_with fail;refine (jq HP.out hpk r kind va lf w HK.out HA.out HR.out HC.out hk0 hk2 ⟨hv0,hv1⟩).mono ?_;rintro e v1 ⟨he,k1,a1,n1⟩;by_cases hz:(be plain pick r.h kind va).1.1=0
  ·rw [if_pos hz] at he;subst he;have HZ:Hid _:=hz;have K1:Hid _:=k1;have A1:Hid _:=a1;have N1:Hid _:=n1;have R1:Hid (ROk (bw plain pick r kind va)):=iJ HR.out plain hpk ⟨hk0,hk2⟩ ⟨hv0,hv1⟩;have C1:Hid (SameC (bw plain pick r kind va).h h0):=SameC.look HC.out plain pick kind va;have H01:Hid ((bw plain pick r kind va).cause=0):=H0;clear hz k1 a1 n1;obtain ⟨pa,hpa⟩:∃pa,(be plain pick r.h kind va).1.2=pa:=⟨_,rfl⟩;have HPa:Hid _:=hpa;rw [hpa];clear hpa;obtain ⟨R2,hR2⟩:∃R2,bw plain pick r kind va=R2:=⟨_,rfl⟩;have HR2:Hid _:=hR2;rw [hR2] at K1 A1 R1 C1 H01;clear hR2;go_upto_region 5 with fail;have F:=bL v1 #[.int .i64 kind,.int .u64 va,.int .u64 pa,.int .u64 lf] 236;generalize v1.alloc (Obj.cells #[.int .i64 kind,.int .u64 va,.int .u64 pa,.int .u64 lf] 236)=v2 at F |-;obtain ⟨f1,f3,f2⟩:=F;have HF1:Hid _:=f1;have CT0:∀u:Has v1.heap.size (.cells #[.int .i64 kind,.int .u64 va,.int .u64 pa,.int .u64 lf] 236 (0,0)),u.w.cell? ⟨v1.heap.size,0,none⟩=some (.int .i64 kind):=fun u=>aa u.h 0 rfl;have CT1:∀u:Has v1.heap.size (.cells #[.int .i64 kind,.int .u64 va,.int .u64 pa,.int .u64 lf] 236 (0,0)),u.w.cell? ⟨v1.heap.size,1,none⟩=some (.int .u64 va):=fun u=>aa u.h 1 rfl;have CT2:∀u:Has v1.heap.size (.cells #[.int .i64 kind,.int .u64 va,.int .u64 pa,.int .u64 lf] 236 (0,0)),u.w.cell? ⟨v1.heap.size,2,none⟩=some (.int .u64 pa):=fun u=>aa u.h 2 rfl;have CT3:∀u:Has v1.heap.size (.cells #[.int .i64 kind,.int .u64 va,.int .u64 pa,.int .u64 lf] 236 (0,0)),u.w.cell? ⟨v1.heap.size,3,none⟩=some (.int .u64 lf):=fun u=>aa u.h 3 rfl;have ne:Nonempty (Has v1.heap.size (.cells #[.int .i64 kind,.int .u64 va,.int .u64 pa,.int .u64 lf] 236 (0,0))):=⟨⟨v2,f1⟩⟩;have D2:=bdr v2;have n2:=bst f2 D2;clear f1;refine aO (fun w'=>∃u:Has v1.heap.size (.cells #[.int .i64 kind,.int .u64 va,.int .u64 pa,.int .u64 lf] 236 (0,0)),w'=u.w) 11 (by kernel_rfl) ?_;refine cW (by kernel_rfl) (fuel:=3) ⟨⟨v2.drew,HF1.out⟩,rfl⟩ (cG fun _ _ _ _ e h=>⟨e ▸ h.1,h.2⟩) [0,1,2,3,4,5,6,7,8] _ _ (by kernel_rfl) ?_;simp only [fI,List.getElem?_toArray,List.getElem?_cons_zero,List.getElem?_cons_succ];repeat (go_big_quiet_step (fail))
   refine wpQuiet_nil ?_;refine ck 9 37 (by kernel_rfl) rfl (by kernel_rfl) (by kernel_rfl) (f:=135) (args:=#[.pointer (some ⟨m.b,0,none⟩),.int .i64 kind,.int .u64 va2,.int .u64 (size-lf)]) (by kernel_rfl) ?_;refine (jq HP.out hpk R2 kind va2 (size-lf) v2.drew (K1.out.low n2) (HP.out.keep A1.out (fun i hi=>(K1.out.xo i hi).2) (Kp.of_below (fun _=>False) n2) (fun _ _ h=>h)) R1.out C1.out hk0 hk2 hu2).mono ?_;rintro e v3 ⟨he,k3,a3,n3⟩;have nx:¬X v1.heap.size:=fun h=>by have:=(K1.out.xo _ h).2;omega
   have HF3:=Kp.hid (show Hid (v2.drew.heap[v1.heap.size]?=some (.cells #[.int .i64 kind,.int .u64 va,.int .u64 pa,.int .u64 lf] 236 (0,0))) from HF1) n3 nx;have N3:Hid (Kp X w v3):=(N1.out.trans (Kp.of_below X n2)).trans n3;by_cases hz:(be plain pick R2.h kind va2).1.1=0
   ·rw [if_pos hz] at he;subst he;have HZ2:Hid _:=hz;have K3:Hid _:=k3;have A3:Hid _:=a3;clear hz k3 a3;obtain ⟨pa2,hpa⟩:∃pa2,(be plain pick R2.h kind va2).1.2=pa2:=⟨_,rfl⟩;have HPa2:Hid _:=hpa;rw [hpa];clear hpa;refine .inl ⟨_,rfl,fun _=>⟨⟨v3,HF3.out⟩,rfl⟩,?_⟩;have F:=bL v3 #[.int .i64 kind,.int .u64 va,.int .u64 pa,.int .u64 lf,.int .i64 kind,.int .u64 va2,.int .u64 pa2,.int .u64 (size-lf)] 236;obtain ⟨g1,g2,g3⟩:=F;have HF4:=ab HF3 g3;simp only [aPt,sTa,sCs,sCz];refine eH 10 38 (.slice (some ⟨v3.heap.size,0,none⟩) 2 2) (w':=v3.alloc (Obj.cells #[.int .i64 kind,.int .u64 va,.int .u64 pa,.int .u64 lf,.int .i64 kind,.int .u64 va2,.int .u64 pa2,.int .u64 (size-lf)] 236)) (by kernel_rfl) rfl (by kernel_rfl) (by kernel_rfl) (by go_simp) (fun _=>⟨⟨_,HF4.out⟩,rfl⟩) ?_;simp only [aPt,sTa,sCs,sCz];refine eH 11 8 (.slice (some ⟨v3.heap.size,0,none⟩) 2 2) (by kernel_rfl) rfl (by kernel_rfl) (by kernel_rfl) (by kernel_rfl) (fun _=>⟨⟨_,HF4.out⟩,rfl⟩) ?_;simp only [aPt,sTa,sCs,sCz];refine cf (by kernel_rfl) ?_ _;clear CT0 CT1 CT2 CT3 ne;generalize v3.alloc (Obj.cells #[.int .i64 kind,.int .u64 va,.int .u64 pa,.int .u64 lf,.int .i64 kind,.int .u64 va2,.int .u64 pa2,.int .u64 (size-lf)] 236)=v4 at g1 g2 g3 HF4 |-;have HG1:Hid _:=g1;have HG3:Hid _:=g3;clear g1 g2 g3;go_wp2_with fail;go_ret;have hT:aj plain pick kind r [(va,lf,0),(va2,size-lf,0)]=(bw plain pick R2 kind va2,[(va,lf,pa),(va2,size-lf,pa2)]):=by
     rw [eD _ _ _ _ _ _ HZ.out,HR2.out,eD _ _ _ _ _ _ HZ2.out,HPa.out,HPa2.out];rfl
    rw [hT];have sz:=N3.out.size;exact ⟨.inl ⟨H01.out,v3.heap.size,rfl,sz,HG1.out⟩,K3.out.low HG3.out,HP.out.keep A3.out (fun i hi=>(K3.out.xo i hi).2) (Kp.of_below (fun _=>False) HG3.out) (fun _ _ h=>h),N3.out.trans (Kp.of_below X HG3.out)⟩
   ·rw [if_neg hz] at he;subst he;refine .inr ⟨_,rfl,rfl,?_⟩;rw [eD _ _ _ _ _ _ HZ.out,HR2.out,fN _ _ _ _ _ _ hz];exact ⟨.inr ⟨hz,rfl⟩,k3,HP.out.congr _ _ _ a3 rfl rfl rfl rfl,N3.out⟩
  ·rw [if_neg hz] at he;subst he;have HZ:Hid _:=hz;clear hz;go_wp2_with fail;refine ⟨rfl,?_⟩;rw [fN _ _ _ _ _ _ HZ.out];exact ⟨.inr ⟨HZ.out,rfl⟩,k1,HP.out.congr _ _ _ a1 rfl rfl rfl rfl,n1⟩
theorem qC {O X:Nat->Prop} {m:MP} {ov:Value} {h:HartM} {ol:List (Nat × Int)} (kind va pa size:Int) (w:World) (k:MW w O X m ov h ol) (hp:inU pa) (hs:inU size):
 Calls Tryz.prog 133 #[.pointer (some ⟨m.b,0,none⟩),.agg #[.int .i64 kind,.int .u64 va,.int .u64 pa,.int .u64 size]] w fun e w'=>
  e=(if fw h.mem.length pa size=true then .returned (.tuple #[]) else .panicked [jz (bE kind) va])∧Below w.heap.size w w':=by
 have F:=bL w #[.int .i64 kind,.int .u64 va,.int .u64 pa,.int .u64 size] 236;have hb:=k.lt;have c18:=aa k.blk 18 (v:=.slice (some ⟨m.gm,0,none⟩) h.mem.length h.mem.length) rfl;have HL:Hid (h.mem.length<=1048576):=by have:=k.len;show _<=_;omega
 obtain ⟨hp0,hp1⟩:=hp;obtain ⟨hs0,hs1⟩:=hs;clear k;generalize m.b=b at *;generalize m.gm=gm at *;generalize h.mem.length=n at *;obtain ⟨tb,htb⟩:∃tb,fw n pa size=tb:=⟨_,rfl⟩;have HTb:Hid _:=htb;rw [htb];clear htb;go_enter Tryz.func133,Tryz.ntmps133;go_upto_region 1 with fail;generalize w.alloc (Obj.cells #[.int .i64 kind,.int .u64 va,.int .u64 pa,.int .u64 size] 236)=v1 at F |-;obtain ⟨h1,hz,n1⟩:=F;have H1:Hid _:=h1;have hb1:b<v1.heap.size:=by omega
 have hw1:w.heap.size<v1.heap.size:=by omega
 have C18:=aA (Below.cell2 n1 c18 hb) hb1;have C2:=aA (aa h1 2 (v:=.int .u64 pa) rfl) hw1;have C3:=aA (aa h1 3 (v:=.int .u64 size) rfl) hw1;have HH:Hid (∀u:Lies v1,Calls Tryz.prog 114 #[.slice (some ⟨gm,0,none⟩) n n,.int .u64 pa,.int .u64 size] u.w fun e w'=>e=.returned (.bool tb)∧w'=u.w):=fun u=>by
  have:=xy (some ⟨gm,0,none⟩) n n pa size u.w HL.out hp0 hp1 hs0 hs1;rw [HTb.out] at this;exact this
 have ne:=cM v1;clear h1 hz c18;refine bM (by kernel_rfl) (by kernel_rfl) ?_;repeat (go_big_quiet_step ((go_at_call 114;exact iI _ (HH.out _))))
 refine wpQuiet_nil ?_;rintro _ ⟨u,rfl⟩;have n2:=u.h;generalize u.w=v2 at n2 |-;have A2:=bst n1 n2;have H2:=ab H1 n2;clear C18 C2 C3 HH ne n2;cases tb
 ·go_upto_region 2 with fail;have hw2:w.heap.size<v2.heap.size:=(hpl H2.out);have C0:=aA (aa H2.out 0 (v:=.int .i64 kind) rfl) hw2;have C1:=aA (aa H2.out 1 (v:=.int .u64 va) rfl) hw2;have HH:Hid (∀u:Lies v2,Calls Tryz.prog 167 #[.int .i64 kind] u.w fun e w'=>e=.returned (.int .i64 (bE kind))∧w'=u.w):=fun u=>jW kind u.w;have ne:=cM v2;refine jA 7 (by kernel_rfl) (by kernel_rfl) ?_;simp only [List.take_succ_cons,List.take_zero,List.drop_succ_cons,List.drop_zero];repeat (go_big_quiet_step ((go_at_call 167;exact iI _ (HH.out _))))
  refine wpQuiet_nil ?_;rintro _ ⟨u,rfl⟩;have n3:=u.h;generalize u.w=v3 at n3 |-;have A3:=bst A2 n3;go_wp2_with fail;exact ⟨rfl,rfl,A3⟩
 ·go_wp2_with fail;go_end0;exact ⟨rfl,A2⟩
theorem AR (x s:Int) (h:0<=s) (h1:s<=64) (w:World):(binOp .shl 24 (.int .u64 x) (.int .i64 s)).run Tryz.prog w=.ok (.int .u64 (x*2^s.toNat%18446744073709551616)) w:=by
 simp [binOp,go_sem,IntKind.wrap_u64];try omega
theorem qD (kind:Int):∀(ps:List bI) (j:Nat) (p:bI),ps[j]?=some p->(jO kind ps)[j*4]?=some (.int .i64 kind)∧(jO kind ps)[j*4+1]?=some (.int .u64 p.1)∧(jO kind ps)[j*4+2]?=some (.int .u64 p.2.2)∧(jO kind ps)[j*4+3]?=some (.int .u64 p.2.1)
 | [],j,p,h=>by simp at h
 | q::ps,0,p,h=>by
  simp only [List.getElem?_cons_zero,Option.some.injEq] at h;subst h;exact ⟨rfl,rfl,rfl,rfl⟩
 | q::ps,j+1,p,h=>by
  have ih:=qD kind ps j p (by simpa using h);rw [show (j+1)*4=j*4+1+1+1+1 by omega];simp only [jO];rw [show j*4+1+1+1+1+1=(j*4+1)+1+1+1+1 by omega,show j*4+1+1+1+1+2=(j*4+2)+1+1+1+1 by omega,show j*4+1+1+1+1+3=(j*4+3)+1+1+1+1 by omega];simpa only [List.getElem?_cons_succ] using ih
theorem dO:∀(a b:List bI),bN (a++b)=bN a+bN b
 | [],b=>by simp [bN]
 | p::a,b=>by simp [bN,dO a b];omega
theorem ii {ps:List bI} {j:Nat} {p:bI} (h:ps[j]?=some p):ps.take (j+1)=ps.take j++[p]:=by
 obtain ⟨hj,rfl⟩:=List.getElem?_eq_some_iff.1 h;exact List.take_succ_eq_append_getElem hj
theorem qE {ps:List bI} (j:Nat):bN (ps.take j)<=bN ps:=by
 have:=dO (ps.take j) (ps.drop j);rw [List.take_append_drop] at this;omega
theorem lj {mem:List Int}:∀{ps:List bI},qS mem ps->dD ps->(bS mem ps).length=bN ps
 | [],_,_=>rfl
 | p::ps,hi,hk=>by
  have h1:=hi p (by simp);have h2:=hk p (by simp);simp only [fw,decide_eq_true_eq] at h1;have h3:=h2.2.2;unfold inU at h3;simp only [bS,bN,List.length_append];rw [lj (fun q hq=>hi q (by simp [hq])) (fun q hq=>hk q (by simp [hq]))];simp;omega
theorem Cel.of_blk {e:TypeId} {w:World} {g:Nat} {zs:List Int} (h:Blk e w g zs) (hz:BytM zs):Cel w g 0 zs.length zs:=Cel.of_byt (Blk.byt h hz)
theorem AJ (xs:List Int) (y:Int) (T:Nat) (hx:∀z∈xs,0<=z∧z<=255) (hl:xs.length=T) (hT:T<=7) (hy0:0<=y) (hy1:y<=255):
 bits .or .u64 (num xs) (IntKind.u64.wrap (y*2^(8*T)))=num (xs++[y]):=by
 have hb:=pV xs T hx (by omega);rw [zX,hl];have e:((2:Int)^(8*T))=256^T:=by
  rw [Int.pow_mul];rfl
 rw [IntKind.wrap_u64,e];have hP:(256:Int)^T<=72057594037927936∧1<=(256:Int)^T:=by
  rcases (show T=0∨T=1∨T=2∨T=3∨T=4∨T=5∨T=6∨T=7 by omega) with rfl | rfl | rfl | rfl | rfl | rfl | rfl | rfl <;> decide
 have hm:0<=y*256^T∧y*256^T<=255*72057594037927936:=⟨Int.mul_nonneg hy0 (by omega),Int.mul_le_mul hy1 hP.1 (by omega) (by omega)⟩;rw [Int.emod_eq_of_lt hm.1 (by omega)];exact ki (8*T) (256^T) (num xs) y (by rw [Int.pow_mul];rfl) hb.1 hb.2 hy0 (by omega) (by omega)
def ld (mem:List Int) (ps:List bI) (kind:Int):Ending:=
 match fm mem ps with
 | none=>.returned (.int .u64 (gL mem ps))
 | some v=>.panicked [jz (bE kind) v]
theorem wD {O X:Nat->Prop} {m:MP} {ov:Value} {h:HartM} {ol:List (Nat × Int)} (kind:Int) (ps:List bI) (g n:Nat) (w:World) (k:MW w O X m ov h ol) (hn:ps.length=n) (hg:w.heap[g]?=some (.cells (jO kind ps).toArray 236 (0,0))) (hok:dD ps) (hsz:bN ps<=8) (hn2:n<=2):
 Calls Tryz.prog 99 #[.pointer (some ⟨m.b,0,none⟩),.slice (some ⟨g,0,none⟩) n n] w fun e w'=>e=ld h.mem ps kind∧Below w.heap.size w w':=by
 have HK:Hid _:=k;have HG:Hid _:=hg;have HN:Hid _:=hn;have HOk:Hid _:=hok;have HSz:Hid _:=hsz;clear k hg hn hok hsz;go_enter Tryz.func99,Tryz.ntmps99;go_wp2_with fail;go_loopw [5,6,12] (fun vv sv iv wr=>∃j:Nat,j<=n∧vv=.int .u64 (num (bS h.mem (ps.take j)))∧sv=.int .i64 (8*(bN (ps.take j):Int))∧iv=.int .i64 j∧qS h.mem (ps.take j)∧Below w.heap.size w wr) (fun _ _ iv _=>n-(intOf iv).toNat)
 case atStart=>exact ⟨0,Nat.zero_le _,rfl,rfl,rfl,fun p hp=>by simp at hp,Below.refl _ _⟩
 case round=>
  rename World=>wa;obtain ⟨j,hj,rfl,rfl,rfl,hi,hb⟩:=hrel;have HI:Hid _:=hi;have HB:Hid _:=hb;clear hi hb;by_cases hjn:j<n
  ·obtain ⟨p,hp⟩:∃p,ps[j]?=some p:=⟨ps[j]'(by rw [HN.out];exact hjn),List.getElem?_eq_getElem _⟩;have HPj:Hid _:=hp;obtain ⟨c0,c1,c2,c3⟩:=qD kind ps j p hp;have HGr:Hid (wa.heap[g]?=some (.cells (jO kind ps).toArray 236 (0,0))):=ae HG.out HB.out (hpl HG.out);have d0:=aa HGr.out (j*4) (v:=.int .i64 kind) (by simpa using c0);have d1:=aa HGr.out (j*4+1) (v:=.int .u64 p.1) (by simpa using c1);have d2:=aa HGr.out (j*4+2) (v:=.int .u64 p.2.2) (by simpa using c2);have d3:=aa HGr.out (j*4+3) (v:=.int .u64 p.2.1) (by simpa using c3);have hpk:=HOk.out p (List.mem_of_getElem? hp);have HSj:Hid (bN (ps.take j)+p.2.1.toNat<=8):=by
    have:=qE (ps:=ps) (j+1);rw [ii hp,dO] at this;simp only [bN] at this;have:=HSz.out;show _<=_;omega
   have HKr:Hid (MW wa O X m ov h ol):=HK.out.low HB.out;clear c0 c1 c2 c3 hp;obtain ⟨va,size,pa⟩:=p;obtain ⟨hva,⟨hs1,hs2⟩,hpa0,hpa1⟩:=hpk;simp only at d0 d1 d2 d3 hs1 hs2 hpa0 hpa1 hva HSj;have F:=bL wa #[.int .i64 kind,.int .u64 va,.int .u64 pa,.int .u64 size] 236;go_wp2_with fail;generalize wa.alloc (Obj.cells #[.int .i64 kind,.int .u64 va,.int .u64 pa,.int .u64 size] 236)=v1 at F |-;obtain ⟨f1,f2,n1⟩:=F;have HF1:Hid _:=f1;clear f1 d0 d1 d2 d3;refine (qC kind va pa size v1 (HKr.out.low n1) ⟨hpa0,hpa1⟩ ⟨by omega,by omega⟩).mono ?_;rintro e v2 ⟨he,n2⟩;have B2:Hid (Below w.heap.size w v2):=bst (bst HB.out n1) n2;have HF2:=ab HF1 n2;have K2:Hid (MW v2 O X m ov h ol):=(HKr.out.low n1).low n2;cases hins:fw h.mem.length pa size
   ·rw [hins] at he;simp only [Bool.false_eq_true,if_false] at he;subst he;have HIn:Hid _:=hins;clear hins;go_wp2_with fail;refine ⟨rfl,?_,B2.out⟩;have e:ps=ps.take j++(va,size,pa)::ps.drop (j+1):=by
     obtain ⟨hjl,hjp⟩:=List.getElem?_eq_some_iff.1 HPj.out;rw [<-hjp,<-List.drop_eq_getElem_cons hjl,List.take_append_drop]
    unfold ld;rw [e,pD HI.out HIn.out]
   ·rw [hins] at he;simp only [if_true] at he;subst he;have HIn:Hid _:=hins;clear hins;obtain ⟨sn,hsn⟩:∃sn:Nat,size=sn:=⟨size.toNat,by omega⟩;obtain ⟨pn,hpn⟩:∃pn:Nat,pa=pn:=⟨pa.toNat,by omega⟩;subst hsn hpn;have hin2:=HIn.out;simp only [fw,decide_eq_true_eq] at hin2;have hml:=HK.out.len;rw [Int.toNat_natCast] at HSj;obtain ⟨S,hS⟩:∃S,bN (ps.take j)=S:=⟨_,rfl⟩;have HS:Hid _:=hS;rw [hS] at HSj |-;clear hS;obtain ⟨bs,hbs⟩:∃bs,bS h.mem (ps.take j)=bs:=⟨_,rfl⟩;have Hbs:Hid _:=hbs;have HbL:Hid (bs.length=S):=by
     show _=_;rw [<-hbs,lj HI.out (fun q hq=>HOk.out q (List.mem_of_mem_take hq)),HS.out]
    rw [hbs];clear hbs;have b3:=aa HF2.out 3 (v:=.int .u64 sn) rfl;have hSj:=HSj.out;go_wp2_with fail;go_loopw [5,6,21] (fun vv sv iv wr=>∃i:Nat,i<=sn∧vv=.int .u64 (num (bs++rK h.mem pn i))∧sv=.int .i64 (8*((S+i:Nat):Int))∧iv=.int .u64 i∧Below v2.heap.size v2 wr) (fun _ _ iv _=>sn-(intOf iv).toNat)
    case atStart=>exact ⟨0,Nat.zero_le _,by simp [rK],by simp,rfl,Below.refl _ _⟩
    case round=>
     obtain ⟨i,hi,rfl,rfl,rfl,hb⟩:=hrel;have HBi:Hid _:=hb;by_cases hil:i<sn
     ·have K3:Hid (MW wr O X m ov h ol):=K2.out.low HBi.out;have HF3:=ab HF2 HBi.out;obtain ⟨b,hbm⟩:∃b,m.b=b:=⟨_,rfl⟩;have hbl:=K3.out.lt;have c18:wr.cell? ⟨m.b,18,none⟩=some (.slice (some ⟨m.gm,0,none⟩) h.mem.length h.mem.length):=aa K3.out.blk 18 rfl;have hfl:=(hpl HF3.out);obtain ⟨y,hy⟩:∃y,h.mem[pn+i]?.getD 0=y:=⟨_,rfl⟩;have hyb:=HK.out.byt (pn+i);rw [hy] at hyb;have HY:Hid _:=hy;have hlt:pn+i<h.mem.length:=by omega
      have HPs:Hid _:=yJ h.mem pn i hlt;have HRd:Hid (∀u:Lies wr,Calls Tryz.prog 134 #[.slice (some ⟨m.gm,0,none⟩) h.mem.length h.mem.length,.int .u64 ((pn+i:Nat):Int)] u.w fun e w'=>e=.returned (.int .u64 y)∧w'=u.w):=fun u=>by
       have:=kz m.gm 0 h.mem.length h.mem.length (pn+i) h.mem u.w (Cel.of_blk (K3.out.low u.h).mem HK.out.byt) hlt (by omega);rw [HY.out] at this;exact this
      have C18:=aA c18 hbl;have CP:=aA (aa HF3.out 2 (v:=.int .u64 pn) rfl) hfl;have hsh:=AR y (8*((S+i:Nat):Int)) (by omega) (by omega);have hxs:∀z∈bs++rK h.mem pn i,0<=z∧z<=255:=by
       intro z hz;rcases List.mem_append.1 hz with hz | hz
       ·rw [<-Hbs.out] at hz;exact gP HK.out.byt _ z hz
       ·exact fG HK.out.byt z (List.mem_of_mem_drop (List.mem_of_mem_take hz))
      have HOr:Hid _:=AJ (bs++rK h.mem pn i) y (S+i) hxs (by rw [List.length_append,HbL.out,zW _ _ _ (by omega)]) (by omega) hyb.1 hyb.2;have hwr:IntKind.u64.wrap ((pn:Int)+(i:Int))=((pn+i:Nat):Int):=by rw [IntKind.wrap_u64];omega
      have ne:=cM wr;clear hxs c18 hbm hy hyb;generalize h.mem.length=ln at *;go_upto_region 9 with fail;refine bM (by kernel_rfl) (by kernel_rfl) ?_;repeat (go_big_quiet_step ((go_at_call 134;exact iI _ (HRd.out _))))
      rw [HOr.out];refine wpQuiet_nil ?_;rintro _ ⟨u,rfl⟩;have n3:=u.h;generalize u.w=v3 at n3 |-;have B3:Hid _:=bst HBi.out n3;clear C18 CP HRd ne hsh HOr;go_wp2_with fail;go_roundw
      case rel=>
       refine ⟨i+1,by omega,?_,?_,by go_num,B3.out⟩
       ·rw [HPs.out,HY.out,List.append_assoc]
       ·congr 1
      case measure=>simp [intOf];omega
     ·have hie:i=sn:=by omega
      subst hie;have B3:Hid _:=bst B2.out HBi.out;go_wp2_with fail;go_roundw
      case rel=>
       have e1:=ii HPj.out;refine ⟨j+1,by omega,?_,?_,by go_num,?_,B3.out⟩
       ·rw [e1,iZ,Hbs.out];simp [bS,rK]
       ·rw [e1,dO,HS.out];simp [bN]
       ·rw [e1];intro q hq;rcases List.mem_append.1 hq with hq | hq
        ·exact HI.out q hq
        ·rw [List.mem_singleton] at hq;subst hq;exact HIn.out
      case measure=>simp [intOf];omega
  ·have hje:j=n:=by omega
   subst hje;go_wp2_with fail;go_ret;refine ⟨?_,HB.out⟩;have e:ps.take j=ps:=List.take_of_length_le (by rw [HN.out];exact nle);have hI:=HI.out;rw [e] at hI |-;unfold ld;rw [mI hI];rfl
end Go.Proofs.YtgnnmgfgfihljaaGreat
