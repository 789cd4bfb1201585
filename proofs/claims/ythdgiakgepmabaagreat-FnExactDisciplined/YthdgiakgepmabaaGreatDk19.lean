import Derived.Test.YthdgiakgepmabaaGreatDk14
import Derived.Deep.AppendLies
namespace Go.Proofs.YthdgiakgepmabaaGreat
open Go.RowKit
set_option linter.unusedVariables false
set_option maxHeartbeats 6400000
set_option maxRecDepth 20000
def oU (kind:Int):List bw->List Value
 | []=>[]
 | p::ps=>.int .i64 kind::.int .u64 p.1::.int .u64 p.2.2::.int .u64 p.2.1::oU kind ps
def Dp (plain:Bool) (pick:Int) (O X:Nat->Prop) (m:MP) (PA:World->RunM->Prop) (ov:Value) (ol:List (Nat × Int)) (T:RunM × List bw) (kind:Int) (w:World) (e:Ending) (w':World):Prop:=
 ((T.1.cause=0∧∃g,e=.returned (SL g T.2.length T.2.length)∧w.heap.size<=g∧w'.heap[g]?=some (.cells (oU kind T.2).toArray 227 (0,0)))∨(T.1.cause≠0∧e=.panicked [lz T.1.cause T.1.tval]))∧
 MW w' O X m ov T.1.h ol∧PA w' T.1∧Kp X w w'
theorem Ao (va size:Int) (h:size<=64-va%64):cD va size=[(va,size,0)]:=by
 unfold cD;rw [if_neg (by omega)]
theorem Fb (va size:Int) (h:64-va%64<size):cD va size=[(va,64-va%64,0),((va+(64-va%64))%18446744073709551616,size-(64-va%64),0)]:=by
 unfold cD;rw [if_pos h]
theorem gM (plain:Bool) (pick kind:Int) (r:RunM) (p:bw) (ps:List bw) (h:(aT plain pick r.h kind p.1).1.1≠0):ag plain pick kind r (p::ps)=(bI (bf plain pick r kind p.1) (aT plain pick r.h kind p.1).1.1 p.1,p::ps):=by
 rw [ag,if_neg h]
theorem fp (plain:Bool) (pick kind:Int) (r:RunM) (p:bw) (ps:List bw) (h:(aT plain pick r.h kind p.1).1.1=0):ag plain pick kind r (p::ps)=((ag plain pick kind (bf plain pick r kind p.1) ps).1,(p.1,p.2.1,(aT plain pick r.h kind p.1).1.2)::(ag plain pick kind (bf plain pick r kind p.1) ps).2):=by
 rw [ag,if_pos h]
theorem SameC.look {c:Nat} {h0:HartM} {r:RunM} (hc:SameC c r h0) (plain:Bool) (pick kind va:Int):SameC (c+1) (bf plain pick r kind va) h0:=⟨hc.mem,hc.mode,hc.sum,hc.mxr,hc.satp,hc.nf,by simp [bf];exact hc.few⟩
theorem rf {plain:Bool} {pick:Int} {h0:HartM} {O X:Nat->Prop} {PI:World->Prop} {PA:World->RunM->Prop} {m:MP} (hp:PathOk m plain pick h0 X PI PA) (hpk:0<=pick∧pick<=255) {ov:Value} {ol:List (Nat × Int)} (r:RunM) (kind va size:Int) (w:World)
 (k:MW w O X m ov r.h ol) (hA:PA w r) (hr:ROk r) (hc:SameC 1 r h0) (h0c:r.cause=0) (hk0:0<=kind) (hk2:kind<=2) (hv:inU va) (hs:1<=size∧size<=8):
 Calls Tryz.prog 84 #[PT m.b 0,VI kind,VU va,VU size] w fun e w'=>Dp plain pick O X m PA ov ol (ag plain pick kind r (cD va size)) kind w e w':=by
 have HK:Hid _:=k;have HA:Hid _:=hA;have HP:Hid _:=hp;have HR:Hid _:=hr;have HC:Hid _:=hc;have H0:Hid _:=h0c;obtain ⟨hv0,hv1⟩:=hv;obtain ⟨hs1,hs2⟩:=hs;clear k hA hp hr hc h0c;obtain ⟨lf,hlf⟩:∃lf:Int,64-va%64=lf:=⟨_,rfl⟩;have hl1:1<=lf:=by omega
 have hl2:lf<=64:=by omega
 have HL:Hid _:=hlf;have hw1:IntKind.u64.wrap (64-va%64)=lf:=by rw [IntKind.wrap_u64];omega
 clear hlf;by_cases hle:size<=lf
 ·rw [Ao va size (by rw [HL.out];exact hle)];go_enter Tryz.func84,Tryz.ntmps84;go_wp2_with fail;refine (kY HP.out hpk r kind va size w HK.out HA.out HR.out HC.out.up hk0 hk2 ⟨hv0,hv1⟩).mono ?_;rintro e v1 ⟨he,k1,a1,n1⟩;by_cases hz:(aT plain pick r.h kind va).1.1=0
  ·rw [if_pos hz] at he;subst he;have HZ:Hid _:=hz;have K1:Hid _:=k1;have A1:Hid _:=a1;have N1:Hid _:=n1;clear hz k1 a1 n1;have F:=bF v1 #[VI kind,VU va,VU (aT plain pick r.h kind va).1.2,VU size] 227;go_wp2_with fail;obtain ⟨f1,_,f3⟩:=F;have sz:=N1.out.size;go_ret;have hT:ag plain pick kind r [(va,size,0)]=(bf plain pick r kind va,[(va,size,(aT plain pick r.h kind va).1.2)]):=by
    rw [fp _ _ _ _ _ _ HZ.out];rfl
   rw [hT];exact ⟨.inl ⟨H0.out,v1.heap.size,rfl,sz,f1⟩,K1.out.low f3,HP.out.keep A1.out (fun i hi=>(K1.out.xo i hi).2) (Kp.of_below (fun _=>False) f3) (fun _ _ h=>h),N1.out.trans (Kp.of_below X f3)⟩
  ·rw [if_neg hz] at he;subst he;have HZ:Hid _:=hz;clear hz;go_wp2_with fail;refine ⟨rfl,?_⟩;rw [gM _ _ _ _ _ _ HZ.out];exact ⟨.inr ⟨HZ.out,rfl⟩,k1,HP.out.congr _ _ _ a1 rfl rfl rfl rfl,n1⟩
 ·have hlt:lf<size:=by omega
  have hw2:IntKind.u64.wrap (size-lf)=size-lf:=by rw [IntKind.wrap_u64];omega
  obtain ⟨va2,hva2⟩:∃va2:Int,(va+lf)%18446744073709551616=va2:=⟨_,rfl⟩;have hw3:IntKind.u64.wrap (va+lf)=va2:=by rw [IntKind.wrap_u64];exact hva2
  have hu2:inU va2:=by rw [<-hva2];unfold inU;omega
  have hdd:=decide_eq_false (by omega);rw [Fb va size (by rw [HL.out];exact hlt),HL.out,hva2];clear hva2 hle;go_enter Tryz.func84,Tryz.ntmps84;go_wp2_with fail;refine (kY HP.out hpk r kind va lf w HK.out HA.out HR.out HC.out.up hk0 hk2 ⟨hv0,hv1⟩).mono ?_;rintro e v1 ⟨he,k1,a1,n1⟩;by_cases hz:(aT plain pick r.h kind va).1.1=0
  ·rw [if_pos hz] at he;subst he;have HZ:Hid _:=hz;have K1:Hid _:=k1;have A1:Hid _:=a1;have N1:Hid _:=n1;have R1:Hid (ROk (bf plain pick r kind va)):=jm HR.out plain hpk ⟨hk0,hk2⟩ ⟨hv0,hv1⟩;have C1:Hid (SameC 2 (bf plain pick r kind va) h0):=SameC.look HC.out plain pick kind va;have H01:Hid ((bf plain pick r kind va).cause=0):=H0;clear hz k1 a1 n1;obtain ⟨pa,hpa⟩:∃pa,(aT plain pick r.h kind va).1.2=pa:=⟨_,rfl⟩;have HPa:Hid _:=hpa;rw [hpa];clear hpa;obtain ⟨R2,hR2⟩:∃R2,bf plain pick r kind va=R2:=⟨_,rfl⟩;have HR2:Hid _:=hR2;rw [hR2] at K1 A1 R1 C1 H01;clear hR2;go_upto_region 5 with fail;obtain ⟨v2,Ev2,F⟩:=ax1 v1 #[VI kind,VU va,VU pa,VU lf] 227;rw [Ev2.out];clear Ev2;obtain ⟨f1,f3,f2⟩:=F;have HF1:Hid _:=f1;have CT0:=fun (u:Has v1.heap.size (.cells #[VI kind,VU va,VU pa,VU lf] 227 (0,0)))=>ab u.h 0 rfl;have CT1:=fun (u:Has v1.heap.size (.cells #[VI kind,VU va,VU pa,VU lf] 227 (0,0)))=>ab u.h 1 rfl;have CT2:=fun (u:Has v1.heap.size (.cells #[VI kind,VU va,VU pa,VU lf] 227 (0,0)))=>ab u.h 2 rfl;have CT3:=fun (u:Has v1.heap.size (.cells #[VI kind,VU va,VU pa,VU lf] 227 (0,0)))=>ab u.h 3 rfl;have ne:Nonempty (Has v1.heap.size (.cells #[VI kind,VU va,VU pa,VU lf] 227 (0,0))):=⟨⟨v2,f1⟩⟩;have D2:=bdr v2;have n2:=bst f2 D2;clear f1;refine ax (fun w'=>∃u:Has v1.heap.size (.cells #[VI kind,VU va,VU pa,VU lf] 227 (0,0)),w'=u.w) 11 ?_;refine eO (fuel:=3) ⟨⟨v2.drew,HF1.out⟩,rfl⟩ [0,1,2,3,4,5,6,7,8] ?_;simp only [gh,List.getElem?_toArray,List.getElem?_cons_zero,List.getElem?_cons_succ];repeat (go_big_quiet_step (fail))
   refine wpQuiet_nil ?_;refine ep 9 37 rfl ((kY HP.out hpk R2 kind va2 (size-lf) v2.drew (K1.out.low n2) (HP.out.keep A1.out (fun i hi=>(K1.out.xo i hi).2) (Kp.of_below (fun _=>False) n2) (fun _ _ h=>h)) R1.out C1.out hk0 hk2 hu2).mono ?_);rintro e v3 ⟨he,k3,a3,n3⟩;have nx:¬X v1.heap.size:=fun h=>by have:=(K1.out.xo _ h).2;omega
   have HF3:=Kp.hid (show Hid (v2.drew.heap[v1.heap.size]?=some (.cells #[VI kind,VU va,VU pa,VU lf] 227 (0,0))) from HF1) n3 nx;have N3:=hid ((N1.out.trans (Kp.of_below X n2)).trans n3);by_cases hz:(aT plain pick R2.h kind va2).1.1=0
   ·rw [if_pos hz] at he;subst he;have HZ2:Hid _:=hz;have K3:Hid _:=k3;have A3:Hid _:=a3;clear hz k3 a3;obtain ⟨pa2,hpa⟩:∃pa2,(aT plain pick R2.h kind va2).1.2=pa2:=⟨_,rfl⟩;have HPa2:Hid _:=hpa;rw [hpa];clear hpa;refine .inl ⟨_,rfl,fun _=>⟨⟨v3,HF3.out⟩,rfl⟩,?_⟩;have F:=bF v3 #[VI kind,VU va,VU pa,VU lf,VI kind,VU va2,VU pa2,VU (size-lf)] 227;obtain ⟨g1,g2,g3⟩:=F;have HF4:=ah HF3 g3
    go_frame
    refine iR 10 38 (SL v3.heap.size 2 2) (w':=v3.alloc (Obj.cells #[VI kind,VU va,VU pa,VU lf,VI kind,VU va2,VU pa2,VU (size-lf)] 227)) rfl (fun _=>⟨⟨_,HF4.out⟩,rfl⟩) ?_ (he:=by go_simp)
    go_frame
    refine iR 11 8 (SL v3.heap.size 2 2) rfl (fun _=>⟨⟨_,HF4.out⟩,rfl⟩) ?_
    go_frame
    refine dc ?_;clear CT0 CT1 CT2 CT3 ne;generalize v3.alloc (Obj.cells #[VI kind,VU va,VU pa,VU lf,VI kind,VU va2,VU pa2,VU (size-lf)] 227)=v4 at g1 g2 g3 HF4 |-;have HG1:Hid _:=g1;have HG3:Hid _:=g3;clear g1 g2 g3;go_wp2;go_ret;have hT:ag plain pick kind r [(va,lf,0),(va2,size-lf,0)]=(bf plain pick R2 kind va2,[(va,lf,pa),(va2,size-lf,pa2)]):=by
     rw [fp _ _ _ _ _ _ HZ.out,HR2.out,fp _ _ _ _ _ _ HZ2.out,HPa.out,HPa2.out];rfl
    rw [hT];have sz:=N3.out.size;exact ⟨.inl ⟨H01.out,v3.heap.size,rfl,sz,HG1.out⟩,K3.out.low HG3.out,HP.out.keep A3.out (fun i hi=>(K3.out.xo i hi).2) (Kp.of_below (fun _=>False) HG3.out) (fun _ _ h=>h),N3.out.trans (Kp.of_below X HG3.out)⟩
   ·rw [if_neg hz] at he;subst he;refine .inr ⟨_,rfl,rfl,?_⟩;rw [fp _ _ _ _ _ _ HZ.out,HR2.out,gM _ _ _ _ _ _ hz];exact ⟨.inr ⟨hz,rfl⟩,k3,HP.out.congr _ _ _ a3 rfl rfl rfl rfl,N3.out⟩
  ·rw [if_neg hz] at he;subst he;have HZ:Hid _:=hz;clear hz;go_wp2_with fail;refine ⟨rfl,?_⟩;rw [gM _ _ _ _ _ _ HZ.out];exact ⟨.inr ⟨HZ.out,rfl⟩,k1,HP.out.congr _ _ _ a1 rfl rfl rfl rfl,n1⟩
theorem sM {O X:Nat->Prop} {m:MP} {ov:Value} {h:HartM} {ol:List (Nat × Int)} (kind va pa size:Int) (w:World) (k:MW w O X m ov h ol) (hp:inU pa) (hs:inU size):
 Calls Tryz.prog 107 #[PT m.b 0,.agg #[VI kind,VU va,VU pa,VU size]] w fun e w'=>
  e=(if fD h.mem.length pa size=true then .returned (.tuple #[]) else .panicked [lz (bO kind) va])∧Bw w w':=by
 obtain ⟨v1,Ev1,F⟩:=ax1 w #[VI kind,VU va,VU pa,VU size] 227;have hb:=k.lt;have c18:=ab k.blk 18 (v:=SL m.gm h.mem.length h.mem.length) rfl;have HL:Hid (h.mem.length<=1048576):=by have:=k.len;show _<=_;omega
 obtain ⟨hp0,hp1⟩:=hp;obtain ⟨hs0,hs1⟩:=hs;clear k;generalize m.b=b at *;generalize m.gm=gm at *;generalize h.mem.length=n at *;obtain ⟨tb,htb⟩:∃tb,fD n pa size=tb:=⟨_,rfl⟩;have HTb:Hid _:=htb;rw [htb];clear htb;go_enter Tryz.func107,Tryz.ntmps107;go_upto_region 1 with fail;rw [Ev1.out];clear Ev1;obtain ⟨h1,hz,n1⟩:=F;have H1:Hid _:=h1;have hb1:b<v1.heap.size:=by omega
 have hw1:w.heap.size<v1.heap.size:=by omega
 have C18:=aM (Below.cell2 n1 c18 hb) hb1;have C2:=aM (ab h1 2 (v:=VU pa) rfl) hw1;have C3:=aM (ab h1 3 (v:=VU size) rfl) hw1;have HH:Hid (∀u:Lies v1,Calls Tryz.prog 75 #[SL gm n n,VU pa,VU size] u.w fun e w'=>e=.returned (.bool tb)∧w'=u.w):=fun u=>by
  have:=qZ (some (AD gm 0)) n n pa size u.w HL.out hp0 hp1 hs0 hs1;rw [HTb.out] at this;exact this
 have ne:=eF v1;clear h1 hz c18;refine cN (by kernel_rfl) (by kernel_rfl) ?_;repeat (go_big_quiet_step ((go_at_call 75;exact jZ _ (HH.out _))))
 refine wpQuiet_nil ?_;rintro _ ⟨u,rfl⟩;have n2:=u.h;generalize u.w=v2 at n2 |-;have A2:=bst n1 n2;have H2:=ah H1 n2;clear C18 C2 C3 HH ne n2;cases tb
 ·go_upto_region 2 with fail;have hw2:=(hpl H2.out);have C0:=aM (ab H2.out 0 (v:=VI kind) rfl) hw2;have C1:=aM (ab H2.out 1 (v:=VU va) rfl) hw2;have HH:=hid fun (u:Lies v2)=>lT kind u.w;have ne:=eF v2;refine lA 7 (by kernel_rfl) (by kernel_rfl) ?_;simp only [List.take_succ_cons,List.take_zero,List.drop_succ_cons,List.drop_zero];repeat (go_big_quiet_step ((go_at_call 130;exact jZ _ (HH.out _))))
  refine wpQuiet_nil ?_;rintro _ ⟨u,rfl⟩;have n3:=u.h;generalize u.w=v3 at n3 |-;have A3:=bst A2 n3;go_wp2_with fail;exact ⟨rfl,rfl,A3⟩
 ·go_wp2;go_end0;exact ⟨rfl,A2⟩
theorem Fu (x s:Int) (h:0<=s) (h1:s<=64) (w:World):(binOp .shl 33 (VU x) (VI s)).run Tryz.prog w=.ok (VU (x*2^s.toNat%18446744073709551616)) w:=by
 simp [binOp,go_sem,IntKind.wrap_u64];try omega
theorem sN (kind:Int):∀(ps:List bw) (j:Nat) (p:bw),ps[j]?=some p->(oU kind ps)[j*4]?=some (VI kind)∧(oU kind ps)[j*4+1]?=some (VU p.1)∧(oU kind ps)[j*4+2]?=some (VU p.2.2)∧(oU kind ps)[j*4+3]?=some (VU p.2.1)
 | [],j,p,h=>by simp at h
 | q::ps,0,p,h=>by
  simp only [List.getElem?_cons_zero,Option.some.injEq] at h;subst h;exact ⟨rfl,rfl,rfl,rfl⟩
 | q::ps,j+1,p,h=>by
  have ih:=sN kind ps j p (by simpa using h);rw [show (j+1)*4=j*4+1+1+1+1 by omega];simp only [oU];rw [show j*4+1+1+1+1+1=(j*4+1)+1+1+1+1 by omega,show j*4+1+1+1+1+2=(j*4+2)+1+1+1+1 by omega,show j*4+1+1+1+1+3=(j*4+3)+1+1+1+1 by omega];simpa only [List.getElem?_cons_succ] using ih
theorem er:∀(a b:List bw),bR (a++b)=bR a+bR b
 | [],b=>by simp [bR]
 | p::a,b=>by simp [bR,er a b];omega
theorem jA {ps:List bw} {j:Nat} {p:bw} (h:ps[j]?=some p):ps.take (j+1)=ps.take j++[p]:=by
 obtain ⟨hj,rfl⟩:=List.getElem?_eq_some_iff.1 h;exact List.take_succ_eq_append_getElem hj
theorem sO {ps:List bw} (j:Nat):bR (ps.take j)<=bR ps:=by
 have:=er (ps.take j) (ps.drop j);rw [List.take_append_drop] at this;omega
theorem ni {mem:List Int}:∀{ps:List bw},ti mem ps->dZ ps->(cE mem ps).length=bR ps
 | [],_,_=>rfl
 | p::ps,hi,hk=>by
  have h1:=hi p (by simp);have h2:=hk p (by simp);simp only [fD,decide_eq_true_eq] at h1;have h3:=h2.2.2;unfold inU at h3;simp only [cE,bR,List.length_append];rw [ni (fun q hq=>hi q (by simp [hq])) (fun q hq=>hk q (by simp [hq]))];simp;omega
theorem Cel.of_blk {e:TypeId} {w:World} {g:Nat} {zs:List Int} (h:Blk e w g zs) (hz:BytM zs):Cel w g 0 zs.length zs:=Cel.of_byt (Blk.byt h hz)
theorem Fa (xs:List Int) (y:Int) (T:Nat) (hx:∀z∈xs,0<=z∧z<=255) (hl:xs.length=T) (hT:T<=7) (hy0:0<=y) (hy1:y<=255):
 bits .or .u64 (num xs) (IntKind.u64.wrap (y*2^(8*T)))=num (xs++[y]):=by
 have hb:=lN xs T hx (by omega);rw [DT,hl];have e:((2:Int)^(8*T))=256^T:=by
  rw [Int.pow_mul];rfl
 rw [IntKind.wrap_u64,e];have hP:(256:Int)^T<=72057594037927936∧1<=(256:Int)^T:=by
  rcases (show T=0∨T=1∨T=2∨T=3∨T=4∨T=5∨T=6∨T=7 by omega) with rfl | rfl | rfl | rfl | rfl | rfl | rfl | rfl <;> decide
 have hm:0<=y*256^T∧y*256^T<=255*72057594037927936:=⟨Int.mul_nonneg hy0 (by omega),Int.mul_le_mul hy1 hP.1 (by omega) (by omega)⟩;rw [Int.emod_eq_of_lt hm.1 (by omega)];exact eV (8*T) (256^T) (num xs) y (by rw [Int.pow_mul];rfl) hb.1 hb.2 hy0 (by omega) (by omega)
def mW (mem:List Int) (ps:List bw) (kind:Int):Ending:=
 match fL mem ps with
 | none=>.returned (.int .u64 (iS mem ps))
 | some v=>.panicked [lz (bO kind) v]
theorem zu {O X:Nat->Prop} {m:MP} {ov:Value} {h:HartM} {ol:List (Nat × Int)} (kind:Int) (ps:List bw) (g n:Nat) (w:World) (k:MW w O X m ov h ol) (hn:ps.length=n) (hg:w.heap[g]?=some (.cells (oU kind ps).toArray 227 (0,0))) (hok:dZ ps) (hsz:bR ps<=8) (hn2:n<=2):
 Calls Tryz.prog 83 #[PT m.b 0,SL g n n] w fun e w'=>e=mW h.mem ps kind∧Bw w w':=by
 have HK:Hid _:=k;have HG:Hid _:=hg;have HN:Hid _:=hn;have HOk:Hid _:=hok;have HSz:Hid _:=hsz;clear k hg hn hok hsz;go_enter Tryz.func83,Tryz.ntmps83;go_wp2;go_loopw [5,6,12] (fun vv sv iv wr=>∃j:Nat,j<=n∧vv=VU (num (cE h.mem (ps.take j)))∧sv=VI (8*(bR (ps.take j):Int))∧iv=VI j∧ti h.mem (ps.take j)∧Bw w wr) (fun _ _ iv _=>n-(intOf iv).toNat)
 case atStart=>exact ⟨0,Nat.zero_le _,rfl,rfl,rfl,fun p hp=>by simp at hp,brf⟩
 case round=>
  rename World=>wa;obtain ⟨j,hj,rfl,rfl,rfl,hi,hb⟩:=hrel;have HI:Hid _:=hi;have HB:Hid _:=hb;clear hi hb;by_cases hjn:j<n
  ·obtain ⟨p,hp⟩:∃p,ps[j]?=some p:=⟨ps[j]'(by rw [HN.out];exact hjn),geg _⟩;have HPj:Hid _:=hp;obtain ⟨c0,c1,c2,c3⟩:=sN kind ps j p hp;have HGr:=hid (ae HG.out HB.out (hpl HG.out));have d0:=ab HGr.out (j*4) (v:=VI kind) (by simpa using c0);have d1:=ab HGr.out (j*4+1) (v:=VU p.1) (by simpa using c1);have d2:=ab HGr.out (j*4+2) (v:=VU p.2.2) (by simpa using c2);have d3:=ab HGr.out (j*4+3) (v:=VU p.2.1) (by simpa using c3);have hpk:=HOk.out p (List.mem_of_getElem? hp);have HSj:Hid (bR (ps.take j)+p.2.1.toNat<=8):=by
    have:=sO (ps:=ps) (j+1);rw [jA hp,er] at this;simp only [bR] at this;have:=HSz.out;show _<=_;omega
   have HKr:=hid (HK.out.low HB.out);clear c0 c1 c2 c3 hp;obtain ⟨va,size,pa⟩:=p;obtain ⟨hva,⟨hs1,hs2⟩,hpa0,hpa1⟩:=hpk;simp only at d0 d1 d2 d3 hs1 hs2 hpa0 hpa1 hva HSj;obtain ⟨v1,Ev1,F⟩:=ax1 wa #[VI kind,VU va,VU pa,VU size] 227;go_wp2_with fail;rw [Ev1.out];clear Ev1;obtain ⟨f1,f2,n1⟩:=F;have HF1:Hid _:=f1;clear f1 d0 d1 d2 d3;refine (sM kind va pa size v1 (HKr.out.low n1) ⟨hpa0,hpa1⟩ ⟨by omega,by omega⟩).mono ?_;rintro e v2 ⟨he,n2⟩;have B2:=hid (bst (bst HB.out n1) n2);have HF2:=ah HF1 n2;have K2:Hid (MW v2 O X m ov h ol):=(HKr.out.low n1).low n2;cases hins:fD h.mem.length pa size
   ·rw [hins] at he;simp only [Bool.false_eq_true,if_false] at he;subst he;have HIn:Hid _:=hins;clear hins;go_wp2_with fail;refine ⟨rfl,?_,B2.out⟩;have e:ps=ps.take j++(va,size,pa)::ps.drop (j+1):=by
     obtain ⟨hjl,hjp⟩:=List.getElem?_eq_some_iff.1 HPj.out;rw [<-hjp,<-List.drop_eq_getElem_cons hjl,List.take_append_drop]
    unfold mW;rw [e,rq HI.out HIn.out]
   ·rw [hins] at he;simp only [if_true] at he;subst he;have HIn:Hid _:=hins;clear hins;obtain ⟨sn,hsn⟩:∃sn:Nat,size=sn:=⟨size.toNat,by omega⟩;obtain ⟨pn,hpn⟩:∃pn:Nat,pa=pn:=⟨pa.toNat,by omega⟩;subst hsn hpn;have hin2:=HIn.out;simp only [fD,decide_eq_true_eq] at hin2;have hml:=HK.out.len;rw [Int.toNat_natCast] at HSj;obtain ⟨S,hS⟩:∃S,bR (ps.take j)=S:=⟨_,rfl⟩;have HS:Hid _:=hS;rw [hS] at HSj |-;clear hS;obtain ⟨bs,hbs⟩:∃bs,cE h.mem (ps.take j)=bs:=⟨_,rfl⟩;have Hbs:Hid _:=hbs;have HbL:Hid (bs.length=S):=by
     show _=_;rw [<-hbs,ni HI.out (fun q hq=>HOk.out q (List.mem_of_mem_take hq)),HS.out]
    rw [hbs];clear hbs;have b3:=ab HF2.out 3 (v:=VU sn) rfl;have hSj:=HSj.out;go_wp2;go_loopw [5,6,21] (fun vv sv iv wr=>∃i:Nat,i<=sn∧vv=VU (num (bs++tN h.mem pn i))∧sv=VI (8*((S+i:Nat):Int))∧iv=VU i∧Bw v2 wr) (fun _ _ iv _=>sn-(intOf iv).toNat)
    case atStart=>exact ⟨0,Nat.zero_le _,by simp [tN],by simp,rfl,brf⟩
    case round=>
     obtain ⟨i,hi,rfl,rfl,rfl,hb⟩:=hrel;have HBi:Hid _:=hb;by_cases hil:i<sn
     ·have K3:Hid (MW wr O X m ov h ol):=K2.out.low HBi.out;have HF3:=ah HF2 HBi.out;obtain ⟨b,hbm⟩:∃b,m.b=b:=⟨_,rfl⟩;have hbl:=K3.out.lt;have c18:wr.cell? (AD m.b 18)=some (SL m.gm h.mem.length h.mem.length):=ab K3.out.blk 18 rfl;have hfl:=(hpl HF3.out);obtain ⟨y,hy⟩:∃y,h.mem[pn+i]?.getD 0=y:=⟨_,rfl⟩;have hyb:=HK.out.byt (pn+i);rw [hy] at hyb;have HY:Hid _:=hy;have hlt:pn+i<h.mem.length:=by omega
      have HPs:Hid _:=Cd h.mem pn i hlt;have HRd:Hid (∀u:Lies wr,Calls Tryz.prog 108 #[SL m.gm h.mem.length h.mem.length,VU ((pn+i:Nat):Int)] u.w fun e w'=>e=.returned (VU y)∧w'=u.w):=fun u=>by
       have:=mz m.gm 0 h.mem.length h.mem.length (pn+i) h.mem u.w (Cel.of_blk (K3.out.low u.h).mem HK.out.byt) hlt (by omega);rw [HY.out] at this;exact this
      have C18:=aM c18 hbl;have CP:=aM (ab HF3.out 2 (v:=VU pn) rfl) hfl;have hsh:=Fu y (8*((S+i:Nat):Int)) (by omega) (by omega);have hxs:∀z∈bs++tN h.mem pn i,0<=z∧z<=255:=by
       intro z hz;rcases List.mem_append.1 hz with hz | hz
       ·rw [<-Hbs.out] at hz;exact iW HK.out.byt _ z hz
       ·exact gx HK.out.byt z (List.mem_of_mem_drop (List.mem_of_mem_take hz))
      have HOr:Hid _:=Fa (bs++tN h.mem pn i) y (S+i) hxs (by rw [List.length_append,HbL.out,DS _ _ _ (by omega)]) (by omega) hyb.1 hyb.2;have hwr:IntKind.u64.wrap ((pn:Int)+(i:Int))=((pn+i:Nat):Int):=by rw [IntKind.wrap_u64];omega
      have ne:=eF wr;clear hxs c18 hbm hy hyb;generalize h.mem.length=ln at *;go_upto_region 9 with fail;refine cN (by kernel_rfl) (by kernel_rfl) ?_;repeat (go_big_quiet_step ((go_at_call 108;exact jZ _ (HRd.out _))))
      rw [HOr.out];refine wpQuiet_nil ?_;rintro _ ⟨u,rfl⟩;have n3:=u.h;generalize u.w=v3 at n3 |-;have B3:Hid _:=bst HBi.out n3;clear C18 CP HRd ne hsh HOr;go_wp2;go_roundw
      case rel=>
       refine ⟨i+1,by omega,?_,?_,by go_num,B3.out⟩
       ·rw [HPs.out,HY.out,List.append_assoc]
       ·congr 1
      case measure=>simp [intOf];omega
     ·have hie:i=sn:=by omega
      subst hie;have B3:Hid _:=bst B2.out HBi.out;go_wp2;go_roundw
      case rel=>
       have e1:=jA HPj.out;refine ⟨j+1,by omega,?_,?_,by go_num,?_,B3.out⟩
       ·rw [e1,kD,Hbs.out];simp [cE,tN]
       ·rw [e1,er,HS.out];simp [bR]
       ·rw [e1];intro q hq;rcases List.mem_append.1 hq with hq | hq
        ·exact HI.out q hq
        ·rw [List.mem_singleton] at hq;subst hq;exact HIn.out
      case measure=>simp [intOf];omega
  ·have hje:j=n:=by omega
   subst hje;go_wp2;go_ret;refine ⟨?_,HB.out⟩;have e:=List.take_of_length_le (by rw [HN.out];exact nle);have hI:=HI.out;rw [e] at hI |-;unfold mW;rw [pj hI];rfl
theorem nX (g len cap k:Nat) (zs:List Int) (val:Int) (w:World) (h:Blk 5 w g zs) (hz:zs.length=len) (hk:k<len) (hl:len<=1048576) (hv0:0<=val) (hv1:val<=18446744073709551615):
 Calls Tryz.prog 76 #[SL g len cap,VU k,VU val] w fun e w'=>e=.returned (.tuple #[])∧Blk 5 w' g (zs.set k (val%256))∧w.grownBy w' (some g):=by
 have g2:=h.cell k (by omega);have g3:=h.free k;have hb:Hid _:=h.store k (val%256);have hgb:Hid _:=au (ao w (some g)) k (.int .u8 (val%256));clear h;go_enter Tryz.func76,Tryz.ntmps76;go_wp2;go_end0;exact ⟨rfl,hb.out,hgb.out⟩
def MNext (w:World) (O X:Nat->Prop) (m:MP) (h':HartM) (ol':List (Nat × Int)) (w':World):Prop:=
 ∃O' ov',MW w' O' X m ov' h' ol'∧Kp O w w'∧(∀i,i<w.heap.size->O' i->O i)∧∀i,X i->w'.heap[i]?=w.heap[i]?
theorem MNext.refl {w:World} {O X:Nat->Prop} {m:MP} {ov:Value} {h:HartM} {ol:List (Nat × Int)} (k:MW w O X m ov h ol):MNext w O X m h ol w:=
 ⟨O,ov,k,Kp.refl O w,fun _ _ h=>h,fun _ _=>rfl⟩
theorem MNext.trans {w w1 w2:World} {O O1 X:Nat->Prop} {m:MP} {h2:HartM} {ol2:List (Nat × Int)} (hk:Kp O w w1) (ho:∀i,i<w.heap.size->O1 i->O i) (hx:∀i,X i->w1.heap[i]?=w.heap[i]?) (k:MNext w1 O1 X m h2 ol2 w2):MNext w O X m h2 ol2 w2:=by
 obtain ⟨O2,ov2,k1,k2,k3,k4⟩:=k;exact ⟨O2,ov2,k1,hk.trans' k2 ho,fun i hi h=>ho i hi (k3 i (ltl hi hk.size) h),fun i hi=>(k4 i hi).trans (hx i hi)⟩
theorem xI {P:Program} {a:Act} {o:Oper} {s x:Operand} {t ty:TypeId} {v y r:Value} {w w':World} (ho:o.op=.call { callee:=.builtin .append,args:=#[s,x],argTypes:=#[t,t] }) (hty:o.type=ty) (hs:a.eval s=v) (hx:a.eval x=y) (hr:(Builtin.append_ #[t,t] ty #[v,y]).run P w=.ok r w'):(execOp a.eval o).run P w=.ok (.value r) w':=by
 subst hty;unfold execOp;simp only [ho,resolve,invoke,builtin,Sem.run_bind,Sem.run_pure,Result.andThen_ok,List.map_toArray,List.map_cons,List.map_nil,hs,hx,hr]
theorem Fc:(Tryz.prog.info? 188).map (fun i=>(i.zero,i.size,i.bytes))=some (some (.agg #[VU 0,VU 0]),2,16):=by kernel_rfl
theorem Bv {O X:Nat->Prop} {m:MP} {ov:Value} {h:HartM} {ol:List (Nat × Int)} (addr:Nat) (val:Int) (w:World) (k:MW w O X m ov h ol) (ha:addr<h.mem.length) (hl:ol.length<16) (hv:inU val):
 Calls Tryz.prog 110 #[PT m.b 18,VU addr,VU val] w fun e w'=>e=.returned (.tuple #[])∧MNext w O X m (dV h (h.mem.set addr (val%256))) (ol++[(addr,h.mem[addr]?.getD 0)]) w':=by
 have HK:Hid _:=k;have hb:=k.lt;have hbk:=k.blk;obtain ⟨hv0,hv1⟩:=hv;have hml:=k.len;obtain ⟨y,hy⟩:∃y,h.mem[addr]?.getD 0=y:=⟨_,rfl⟩;have HY:Hid _:=hy;have hyb:=k.byt addr;rw [hy] at hyb |-;obtain ⟨on,oc,oa,hov⟩:=k.sh;have HOv:Hid _:=hov;have HRd:Hid (∀u,Bw w u->Calls Tryz.prog 108 #[SL m.gm h.mem.length h.mem.length,VU addr] u fun e w'=>e=.returned (VU y)∧w'=u):=fun u hu=>by
  have:=mz m.gm 0 h.mem.length h.mem.length addr h.mem u (Cel.of_blk (HK.out.low hu).mem HK.out.byt) ha (by omega);rw [HY.out] at this;exact this
 clear k hy hov;obtain ⟨b,hbm⟩:∃b,m.b=b:=⟨_,rfl⟩;have HBm:Hid _:=hbm;rw [hbm] at hb hbk |-;clear hbm;have HBk:Hid _:=hbk;have C18:∀u:Has b (.cells (cJ h m.gm ov m.gi m.gd m.gp m.pv) 90 (0,0)),u.w.cell? (AD b 18)=some (SL m.gm h.mem.length h.mem.length):=fun u=>ab u.h 18 rfl;have C19:∀u:Has b (.cells (cJ h m.gm ov m.gi m.gd m.gp m.pv) 90 (0,0)),u.w.cell? (AD b 19)=some ov:=fun u=>ab u.h 19 rfl;have ne:Nonempty (Has b (.cells (cJ h m.gm ov m.gi m.gd m.gp m.pv) 90 (0,0))):=⟨⟨w,hbk⟩⟩;clear hbk;obtain ⟨A,hAe⟩:∃A,cJ h m.gm ov m.gi m.gd m.gp m.pv=A:=⟨_,rfl⟩;have HAe:Hid _:=hAe;rw [hAe] at C18 C19 ne HBk;clear hAe;have D1:=bdr w;rw [HOv.out] at C19;generalize hln:h.mem.length=ln at *;have HLn:Hid _:=hln;clear hln;go_enter Tryz.func110,Tryz.ntmps110;go_upto_region 0 with fail;refine ax (fun w'=>∃u:Has b (.cells A 90 (0,0)),w'=u.w) 17 ?_;refine eO (fuel:=7) ⟨⟨w.drew,HBk.out⟩,rfl⟩ [0,1,2,3,4,5,6,7,8,9,10] ?_;simp only [gh,List.getElem?_toArray,List.getElem?_cons_zero,List.getElem?_cons_succ];repeat (go_big_quiet_step (fail))
 refine wpQuiet_nil ?_;refine ep 11 17 rfl (Calls.mono (HRd.out w.drew D1) ?_);rintro e v1 ⟨rfl,hv1'⟩;rw [hv1'];clear hv1' v1;refine .inl ⟨_,rfl,fun _=>⟨⟨w.drew,HBk.out⟩,rfl⟩,?_⟩
 go_frame
 refine eO (fuel:=5) ⟨⟨w.drew,HBk.out⟩,rfl⟩ [12] ?_;simp only [gh,List.getElem?_toArray,List.getElem?_cons_zero,List.getElem?_cons_succ];repeat (go_big_quiet_step (fail))
 refine wpQuiet_nil ?_;have F:=bF w.drew #[VU addr,VU y] 188;obtain ⟨f1,f2,f3⟩:=F;have n2:=bst D1 f3;have HB2:=hid (ah HBk n2);refine iR 13 19 (SL w.drew.heap.size 1 1) (w':=w.drew.alloc (Obj.cells #[VU addr,VU y] 188)) rfl (fun _=>⟨⟨_,HB2.out⟩,rfl⟩) ?_ (he:=by go_simp)
 go_frame
 have HF1:Hid _:=f1;have n2':=hid n2;have hsz2:w.heap.size<(w.drew.alloc (Obj.cells #[VU addr,VU y] 188)).heap.size:=by rw [f2];exact Nat.lt_succ_self _
 rw [show w.drew.heap.size=w.heap.size from rfl] at HF1 |-;clear f1 f2 f3 n2;generalize w.drew.alloc (Obj.cells #[VU addr,VU y] 188)=v2 at HF1 n2' HB2 hsz2 |-;obtain ⟨i0,hi0,hz0,hz1,hz2⟩:=info_parts Fc;have K2:=hid (HK.out.low n2'.out);have hoe:=K2.out.old;rw [HOv.out] at hoe;obtain ⟨g',cap',v3,hr,ho3,hg3,hat,hlt3⟩:=run_append_lies (P:=Tryz.prog) v2 76 76 0 188 i0 (.agg #[VU 0,VU 0]) 2 16 Tryz.underlying76 hi0 hz0 hz1 hz2 rfl (by decide) (.slice oa on oc) ol.length (mS ol) hoe (AD w.heap.size 0) 1 1 [VU addr,VU y] rfl (by
  intro j u hu;have:=ab HF1.out j (v:=u) (by simpa using hu);cases j with
  | zero=>simpa [Addr.add] using this
  | succ j=>simpa [Addr.add] using this) (by simp [Value.oneCell']) (by omega) (by unfold maxLen;omega) (by omega) (by omega) v2.heap.size rfl
 have hbo:∀g,(Value.slice oa on oc).ownBlock=some g->g≠b:=fun g e=>by
  have:=(HK.out.oo g (by rw [HOv.out];exact e)).2.1;rw [HBm.out] at this;exact this
 have HB3:Hid (v3.heap[b]?=some (.cells A 90 (0,0))):=(hg3.block b (hpl HB2.out) (fun e=>hbo b e.symm rfl)).trans HB2.out;have HO3:Hid _:=ho3;have HG3:Hid _:=hg3;have HAt:Hid _:=hat;clear ho3 hg3 hat hoe hbo;refine iR 14 20 (SL g' (ol.length+1) cap') (w':=v3) rfl (fun _=>⟨⟨_,HB3.out⟩,rfl⟩) ?_ (he:=xI (s:=.tmp 10) (x:=.tmp 19) (t:=76) (by kernel_rfl) (by kernel_rfl) (by kernel_rfl) (by kernel_rfl) hr)
 go_frame
 refine eO (fuel:=1) ⟨⟨v3,HB3.out⟩,rfl⟩ [15,16] ?_;simp only [gh,List.getElem?_toArray,List.getElem?_cons_zero,List.getElem?_cons_succ];repeat (go_big_quiet_step (fail))
 refine wpQuiet_nil ?_;have c19:=ab HB3.out 19 (v:=.slice oa on oc) (by rw [<-HAe.out,<-HOv.out];rfl);have f19:=ap HB3.out 19;refine dz 17 22 20 (T:=76) (b:=b) (off:=19) (V:=SL g' (ol.length+1) cap') (w':=v3.setCell (AD b 19) (SL g' (ol.length+1) cap')) rfl (by go_simp) ?_;refine dc ?_;have hpv:Hid (∀V,A.setIfInBounds 19 V=cJ h m.gm V m.gi m.gd m.gp m.pv):=fun V=>by
  rw [<-HAe.out];rfl
 have g4:=au (ao v3 (some b)) 19 (SL g' (ol.length+1) cap');have HB4:Hid ((v3.setCell (AD b 19) (SL g' (ol.length+1) cap')).heap[b]?=some (.cells (cJ h m.gm (SL g' (ol.length+1) cap') m.gi m.gd m.gp m.pv) 90 (0,0))):=by
  show _=_;rw [<-hpv.out];exact bq HB3.out
 have HG4:Hid _:=g4;clear hr c19 f19 C18 C19 ne g4 hpv;generalize v3.setCell (AD b 19) (SL g' (ol.length+1) cap')=v4 at HG4 HB4 |-;have hbg:∀g,(Value.slice oa on oc).ownBlock=some g->g≠m.gm∧¬X g∧O g∧g<w.heap.size∧g≠m.b:=fun g e=>by
  have:=HK.out.oo g (by rw [HOv.out];exact e);have hl:=(HK.out.old.lt g (by rw [HOv.out];exact e)).2;exact ⟨this.2.2.1,this.2.2.2,this.1,hl,this.2.1⟩
 have k23:Kp (fun i=>(Value.slice oa on oc).ownBlock=some i) v2 v3:=⟨HG3.out.os,HG3.out.tape,HG3.out.output,HG3.out.size,fun i hi hn=>HG3.out.block i hi fun e=>hn e.symm⟩;have k34:Kp (fun i=>i=m.b) v3 v4:=by rw [HBm.out];exact Kp.of_gb HG4.out rfl
 have M4:Hid (Blk 5 v4 m.gm h.mem):=k34.blk (k23.blk K2.out.mem fun e=>(hbg _ e).1 rfl) (Ne.symm HK.out.bm);have hgb':g'≠m.b:=fun e=>by
  rcases HAt.out with h1 | h1
  ·exact (hbg _ h1).2.2.2.2 e
  ·have:=K2.out.lt;omega
 have O4:Hid (v4.ownsRow 0 188 2 (SL g' (ol.length+1) cap') (ol.length+1) (mS ol++[VU addr,VU y])):=k34.own HO3.out fun g e=>by
  have:g'=g:=by simpa [Value.ownBlock] using e
  rw [<-this];exact hgb'
 have c18:=ab HB4.out 18 (v:=SL m.gm ln ln) (by rw [<-HLn.out];rfl);go_wp2_with fail;refine (nX m.gm ln ln addr h.mem val v4 M4.out HLn.out ha (by omega) hv0 hv1).mono ?_;rintro e v5 ⟨rfl,hm5,hg5⟩;have HM5:Hid _:=hm5;have HG5:Hid _:=hg5;clear hm5 hg5 c18;go_wp2;go_end0;refine ⟨rfl,fun i=>O i∨i=g',SL g' (ol.length+1) cap',?_,?_,?_,?_⟩
 ·have hgm:g'≠m.gm:=fun e=>by
   rcases HAt.out with h1 | h1
   ·exact (hbg _ h1).1 e
   ·have:=K2.out.mem.lt;omega
  have hgx:¬X g':=fun e=>by
   rcases HAt.out with h1 | h1
   ·exact (hbg _ h1).2.1 e
   ·have:=(K2.out.xo _ e).2;omega
  have k45:Kp (fun i=>i=m.gm) v4 v5:=Kp.of_gb HG5.out rfl;have hs2:=n2'.out.size;have hs3:=k23.size;have hs4:=k34.size;have hs5:=k45.size;refine ⟨?_,HM5.out,?_,.inl HK.out.ob,.inl HK.out.om,?_,HK.out.bm,HK.out.xb,HK.out.xm,?_,HK.out.byt.set _ _ (by omega) (by omega),by simpa [dV] using HK.out.len,HK.out.regs,by simp;omega,⟨_,_,_,rfl⟩,?_,?_⟩
  ·have e:cJ (dV h (h.mem.set addr (val%256))) m.gm (SL g' (ol.length+1) cap') m.gi m.gd m.gp m.pv=cJ h m.gm (SL g' (ol.length+1) cap') m.gi m.gd m.gp m.pv:=by
    simp only [cJ,dV,List.length_set]
   rw [e];refine k45.heap ?_ HK.out.bm;rw [HBm.out];exact HB4.out
  ·have:=k45.own O4.out fun g e=>by
    have:g'=g:=by simpa [Value.ownBlock] using e
    rw [<-this];exact hgm
   rw [qB,List.length_append];exact this
  ·intro g e;have e':g'=g:=by simpa [Value.ownBlock] using e
   subst e';exact ⟨.inr rfl,hgb',hgm,hgx⟩
  ·intro i hi;have:=HK.out.xo i hi;exact ⟨.inl this.1,by omega⟩
  ·rintro i (hi | hi)
   ·have:=HK.out.obd i hi;omega
   ·omega
  ·intro o ho;show o.1<(h.mem.set addr (val%256)).length∧_;rw [List.length_set];rcases List.mem_append.1 ho with ho | ho
   ·exact HK.out.oln o ho
   ·rw [List.mem_singleton] at ho;subst ho;exact ⟨by rw [HLn.out];exact ha,hyb.1,hyb.2⟩
 ·refine (((Kp.of_below O n2'.out).trans (k23.mono fun i e=>(hbg i e).2.2.1)).trans (k34.mono fun i e=>?_)).trans ((Kp.of_gb (O:=fun i=>i=m.gm) HG5.out rfl).mono fun i e=>?_)
  ·rw [e];exact HK.out.ob
  ·rw [e];exact HK.out.om
 ·rintro i hi (h1 | h1)
  ·exact h1
  ·rcases HAt.out with h2 | h2
   ·rw [h1];exact (hbg _ h2).2.2.1
   ·have:=n2'.out.size;omega
 ·intro i hi;have hl:=(HK.out.xo i hi).2;have hs2:=n2'.out.size;have hs3:=k23.size;have hs4:=k34.size;rw [(Kp.of_gb (O:=fun i=>i=m.gm) HG5.out rfl).block i (by omega) (fun e=>HK.out.xm (e ▸ hi)),k34.block i (by omega) (fun e=>HK.out.xb (e ▸ hi)),k23.block i (by omega) (fun e=>(hbg _ e).2.1 hi),n2'.out.block i hl]
def GE (w:World) (O X:Nat->Prop) (m:MP) (h:HartM) (ol:List (Nat × Int)) (ps:List bw) (kind val:Int) (e:Ending) (w':World):Prop:=
 ∃mem' ol',MNext w O X m (dV h mem') ol' w'∧gA ol' mem'=gA ol h.mem∧
  ((fL h.mem ps=none∧e=.returned (.tuple #[])∧mem'=iN h.mem ps (bM val (bR ps)))∨(∃v,fL h.mem ps=some v∧e=.panicked [lz (bO kind) v]))
theorem Hj (x:Int) (n:Nat):x/256^n/256=x/256^(n+1):=by
 rw [Int.ediv_ediv_of_nonneg (Int.le_of_lt (Int.pow_pos (by omega))),Int.pow_succ]
theorem Dr {x:Int} (h:inU x) (n:Nat):inU (x/256^n):=by
 have hp:(0:Int)<256^n:=Int.pow_pos (by omega);exact ⟨Int.ediv_nonneg h.1 (by omega),Int.le_trans (Int.ediv_le_self _ h.1) h.2⟩
theorem BC (mem:List Int) (a:List bw) (p:bw) (x:Int):iN mem (a++[p]) (bM x (bR (a++[p])))=put (iN mem a (bM x (bR a))) p.2.2.toNat (bM (x/256^bR a) p.2.1.toNat):=by
 have e:bR (a++[p])=bR a+p.2.1.toNat:=by rw [er];rfl
 rw [e,qO mem a mem [p] x p.2.1.toNat];simp only [iN];rw [List.take_of_length_le (by rw [fR];exact nle)]
theorem Aq {O X:Nat->Prop} {m:MP} {ov:Value} {h:HartM} {ol:List (Nat × Int)} (kind val:Int) (ps:List bw) (g n:Nat) (w:World) (k:MW w O X m ov h ol) (hn:ps.length=n) (hg:w.heap[g]?=some (.cells (oU kind ps).toArray 227 (0,0))) (hgo:¬O g) (hok:dZ ps) (hsz:bR ps<=8) (hn2:n<=2) (hol:ol.length+bR ps<=16) (hv:inU val):
 Calls Tryz.prog 86 #[PT m.b 0,SL g n n,VU val] w fun e w'=>GE w O X m h ol ps kind val e w':=by
 have HK:Hid _:=k;have HG:Hid _:=hg;have HN:Hid _:=hn;have HOk:Hid _:=hok;have HV:Hid _:=hv;have HOl:Hid _:=hol;have HSz:Hid _:=hsz;have hbl:=k.lt;have hgl:=(hpl hg);have HGo:Hid _:=hgo;clear k hg hn hok hv hsz hgo hol;go_enter Tryz.func86,Tryz.ntmps86;go_wp2;go_loopw [2,11] (fun vv iv wr=>∃(j:Nat) (O1:Nat->Prop) (ov1:Value) (mem1:List Int) (ol1:List (Nat × Int)),j<=n∧vv=VU (val/256^bR (ps.take j))∧iv=VI j∧ti h.mem (ps.take j)∧MW wr O1 X m ov1 (dV h mem1) ol1∧Kp O w wr∧(∀i,i<w.heap.size->O1 i->O i)∧(∀i,X i->wr.heap[i]?=w.heap[i]?)∧
  mem1=iN h.mem (ps.take j) (bM val (bR (ps.take j)))∧mem1.length=h.mem.length∧gA ol1 mem1=gA ol h.mem∧ol1.length=ol.length+bR (ps.take j)) (fun _ iv _=>n-(intOf iv).toNat)
 case atStart=>exact ⟨0,O,ov,h.mem,ol,Nat.zero_le _,by simp [bR],rfl,fun p hp=>by simp at hp,HK.out,Kp.refl O w,fun _ _ h=>h,fun _ _=>rfl,rfl,rfl,rfl,by simp [bR]⟩
 case round=>
  rename World=>wa;obtain ⟨j,O1,ov1,mem1,ol1,hj,rfl,rfl,hi,hk1,hkp,ho1,hx1,hm1,hml,hu1,hl1⟩:=hrel;have HI:Hid _:=hi;have HK1:Hid _:=hk1;have HKp:Hid _:=hkp;have HO1:Hid _:=ho1;have HX1:Hid _:=hx1;have HM1:Hid _:=hm1;have HMl:Hid _:=hml;have HU1:Hid _:=hu1;have HL1:Hid _:=hl1;clear hi hk1 hkp ho1 hx1 hm1 hml hu1 hl1;by_cases hjn:j<n
  ·obtain ⟨p,hp⟩:∃p,ps[j]?=some p:=⟨ps[j]'(by rw [HN.out];exact hjn),geg _⟩;have HPj:Hid _:=hp;obtain ⟨c0,c1,c2,c3⟩:=sN kind ps j p hp;have HGr:=hid (HKp.out.heap HG.out HGo.out);have d0:=ab HGr.out (j*4) (v:=VI kind) (by simpa using c0);have d1:=ab HGr.out (j*4+1) (v:=VU p.1) (by simpa using c1);have d2:=ab HGr.out (j*4+2) (v:=VU p.2.2) (by simpa using c2);have d3:=ab HGr.out (j*4+3) (v:=VU p.2.1) (by simpa using c3);have hpk:=HOk.out p (List.mem_of_getElem? hp);have HSj:Hid (bR (ps.take j)+p.2.1.toNat<=8):=by
    have:=sO (ps:=ps) (j+1);rw [jA hp,er] at this;simp only [bR] at this;have:=HSz.out;show _<=_;omega
   clear c0 c1 c2 c3 hp;obtain ⟨va,size,pa⟩:=p;obtain ⟨hva,⟨hs1,hs2⟩,hpa0,hpa1⟩:=hpk;simp only at d0 d1 d2 d3 hs1 hs2 hpa0 hpa1 hva HSj;obtain ⟨v1,Ev1,F⟩:=ax1 wa #[VI kind,VU va,VU pa,VU size] 227;go_wp2_with fail;rw [Ev1.out];clear Ev1;obtain ⟨f1,f2,n1⟩:=F;have HF1:Hid _:=f1;clear f1 d0 d1 d2 d3;refine (sM kind va pa size v1 (HK1.out.low n1) ⟨hpa0,hpa1⟩ ⟨by omega,by omega⟩).mono ?_;rintro e v2 ⟨he,n2⟩;have HN12:=hid (bst n1 n2);have HF2:=ah HF1 n2;have K2:=hid (HK1.out.low HN12.out);have hlm:(dV h mem1).mem.length=h.mem.length:=HMl.out;rw [hlm] at he;cases hins:fD h.mem.length pa size
   ·rw [hins] at he;simp only [Bool.false_eq_true,if_false] at he;subst he;have HIn:Hid _:=hins;clear hins;go_wp2_with fail;refine ⟨rfl,mem1,ol1,MNext.trans HKp.out HO1.out HX1.out ⟨O1,ov1,K2.out,Kp.of_below O1 HN12.out,fun _ _ h=>h,fun i hi=>HN12.out.block i (HK1.out.xo i hi).2⟩,HU1.out,.inr ⟨va,?_,rfl⟩⟩;have e:ps=ps.take j++(va,size,pa)::ps.drop (j+1):=by
     obtain ⟨hjl,hjp⟩:=List.getElem?_eq_some_iff.1 HPj.out;rw [<-hjp,<-List.drop_eq_getElem_cons hjl,List.take_append_drop]
    rw [e,rq HI.out HIn.out]
   ·rw [hins] at he;simp only [if_true] at he;subst he;have HIn:Hid _:=hins;clear hins;obtain ⟨sn,hsn⟩:∃sn:Nat,size=sn:=⟨size.toNat,by omega⟩;obtain ⟨pn,hpn⟩:∃pn:Nat,pa=pn:=⟨pa.toNat,by omega⟩;subst hsn hpn;have hin2:=HIn.out;simp only [fD,decide_eq_true_eq] at hin2;have hm4:=HK.out.len;rw [Int.toNat_natCast] at HSj;obtain ⟨S,hS⟩:∃S,bR (ps.take j)=S:=⟨_,rfl⟩;have HS:Hid _:=hS;rw [hS] at HSj HL1 HM1 |-;clear hS;obtain ⟨x,hx⟩:∃x,val/256^S=x:=⟨_,rfl⟩;have HX:Hid _:=hx;have hxb:inU x:=by rw [<-hx];exact Dr HV.out S
    rw [hx];clear hx;have b3:=ab HF2.out 3 (v:=VU sn) rfl;have hSj:=HSj.out;have hl1:=HL1.out;have hol:=HOl.out;have hss:=sO (ps:=ps) (j+1);rw [jA HPj.out,er,HS.out] at hss;simp only [bR,Int.toNat_natCast] at hss;have HSt:Hid (S+sn<=bR ps):=by show _<=_;omega
    have hbx:¬O1 wa.heap.size:=fun hh=>by have:=HK1.out.obd _ hh;omega
    clear hlm hss;go_wp2;go_loopw [2,20] (fun vv iv wr=>∃(i:Nat) (O2:Nat->Prop) (ov2:Value) (mem2:List Int) (ol2:List (Nat × Int)),i<=sn∧vv=VU (x/256^i)∧iv=VU i∧MW wr O2 X m ov2 (dV h mem2) ol2∧Kp O1 v2 wr∧(∀i,i<v2.heap.size->O2 i->O1 i)∧(∀i,X i->wr.heap[i]?=v2.heap[i]?)∧
     mem2=put mem1 pn (bM x i)∧mem2.length=h.mem.length∧gA ol2 mem2=gA ol h.mem∧ol2.length=ol1.length+i) (fun _ iv _=>sn-(intOf iv).toNat)
    case atStart=>exact ⟨0,O1,ov1,mem1,ol1,Nat.zero_le _,by simp,rfl,K2.out,Kp.refl O1 v2,fun _ _ h=>h,fun _ _=>rfl,by simp [bM,put],HMl.out,HU1.out,rfl⟩
    case round=>
     obtain ⟨i,O2,ov2,mem2,ol2,hi,rfl,rfl,hk2,hkp2,ho2,hx2,hm2,hml2,hu2,hl2⟩:=hrel;have HK2:Hid _:=hk2;have HKp2:Hid _:=hkp2;have HO2:Hid _:=ho2;have HX2:Hid _:=hx2;have HM2:Hid _:=hm2;have HMl2:Hid _:=hml2;have HU2:Hid _:=hu2;have HL2:Hid _:=hl2;clear hk2 hkp2 ho2 hx2 hm2 hml2 hu2 hl2;by_cases hil:i<sn
     ·have HF3:Hid _:=Kp.hid HF2 HKp2.out hbx;have cp:=ab HF3.out 2 (v:=VU pn) rfl;have hxi:=Dr hxb i;obtain ⟨xi,hxe⟩:∃xi,x/256^i=xi:=⟨_,rfl⟩;have HXi:Hid _:=hxe;rw [hxe] at hxi |-;clear hxe;have hwr:IntKind.u64.wrap ((pn:Int)+(i:Int))=((pn+i:Nat):Int):=by rw [IntKind.wrap_u64];omega
      obtain ⟨hxi0,hxi1⟩:=hxi;go_upto_region 7 with fail;refine dl 8 (by kernel_rfl) (by kernel_rfl) ?_;simp only [List.take_succ_cons,List.take_zero,List.drop_succ_cons,List.drop_zero];repeat still_step
      refine wpStill_nil ?_;have Dd:=bdr wr;have hml2:=HMl2.out;have hl2:=HL2.out;have hst:=HSt.out;go_wp2_with fail;refine (Bv (pn+i) xi wr.drew (HK2.out.low Dd) (by show pn+i<mem2.length;omega) (by omega) ⟨hxi0,hxi1⟩).mono ?_;rintro e v3 ⟨rfl,O3,ov3,k3,kp3,o3,x3⟩;have HK3:=hid k3;have HKp3:=hid ((HKp2.out.trans (Kp.of_below O1 Dd)).trans' kp3 (fun q hq hh=>HO2.out q hq hh));have HO3:=hid fun q (hq:q<v2.heap.size) (hh:O3 q)=>HO2.out q hq (o3 q (ltl hq HKp2.out.size) hh);have HX3:=hid fun q (hq:X q)=>(x3 q hq).trans (HX2.out q hq);have HMs:Hid (mem2.set (pn+i) (xi%256)=put mem1 pn (bM x (i+1))):=by
       show _=_;rw [HM2.out,<-HXi.out];exact DU mem1 pn i x (by rw [HMl.out];omega)
      have HSh:Hid (xi/256=x/256^(i+1)):=by
       show _=_;rw [<-HXi.out,Hj]
      clear k3 kp3 o3 x3 cp;go_wp2;go_roundw
      case rel=>
       refine ⟨i+1,O3,ov3,_,_,by omega,?_,by go_num,HK3.out,HKp3.out,HO3.out,HX3.out,HMs.out,by rw [List.length_set];exact HMl2.out,?_,by simp;omega⟩
       ·rw [HSh.out]
       ·rw [zR];exact HU2.out
      case measure=>simp [intOf];omega
     ·have hie:i=sn:=by omega
      subst hie;have hl2:=HL2.out;go_wp2;go_roundw
      case rel=>
       have e1:=jA HPj.out;have hs2:=HN12.out.size;have hsw:=HKp.out.size;refine ⟨j+1,O2,ov2,mem2,ol2,by omega,?_,by go_num,?_,HK2.out,(HKp.out.trans (Kp.of_below O HN12.out)).trans' HKp2.out (fun q hq hh=>HO1.out q hq hh),fun q hq hh=>HO1.out q hq (HO2.out q (by omega) hh),fun q hq=>((HX2.out q hq).trans (HN12.out.block q (HK1.out.xo q hq).2)).trans (HX1.out q hq),?_,HMl2.out,HU2.out,?_⟩
       ·rw [e1,er,HS.out,<-HX.out];simp only [bR,Int.toNat_natCast,Nat.add_zero];rw [Int.pow_add,<-Int.ediv_ediv_of_nonneg (Int.le_of_lt (Int.pow_pos (by omega)))]
       ·rw [e1];intro q hq;rcases List.mem_append.1 hq with hq | hq
        ·exact HI.out q hq
        ·rw [List.mem_singleton] at hq;subst hq;exact HIn.out
       ·rw [e1,BC,HS.out,HX.out,<-HM1.out,HM2.out];simp only [Int.toNat_natCast]
       ·rw [e1,er,HS.out];simp only [bR,Int.toNat_natCast];omega
      case measure=>simp [intOf];omega
  ·have hje:j=n:=by omega
   subst hje;go_wp2;go_end0;have e:=List.take_of_length_le (by rw [HN.out];exact nle);have hI:=HI.out;have hM:=HM1.out;rw [e] at hI hM;exact ⟨mem1,ol1,⟨O1,ov1,HK1.out,HKp.out,HO1.out,HX1.out⟩,HU1.out,.inl ⟨pj hI,rfl,hM⟩⟩
end Go.Proofs.YthdgiakgepmabaaGreat
