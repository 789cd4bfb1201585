import Derived.Test.YtkenjknmfhoppaaGreatSk33
import Derived.Test.YtkenjknmfhoppaaGreatSk41
namespace Go.Proofs.YtkenjknmfhoppaaGreat
open Go.RowKit
set_option linter.unusedVariables false
set_option maxHeartbeats 6400000
set_option maxRecDepth 20000
def tR (x:Int):Array Value:=#[VU x,VU (x%256),VU (x/256%256%8),VU (x/256%256/8%8),VU (x/65536%256%8),VU (iA (x/16777216)%18446744073709551616)]
theorem Bn (x:Int) (w:World) (h0:0<=x) (h1:x<4294967296):
 Calls Tryz.prog 120 #[VU x] w fun e w'=>e=.returned (.agg (tR x))∧Bw w w':=by
 obtain ⟨v1,Ev1,F⟩:=ax1 w #[VU 0,VU 0,VU 0,VU 0,VU 0,VU 0] 168;have e1:x/16777216%256=x/16777216:=by omega
 have e2:IntKind.i8.wrap (x/16777216)=iA (x/16777216):=by
  unfold iA;simp [IntKind.wrap,IntKind.signed,IntKind.bits];split <;> omega
 have hi: -128<=iA (x/16777216)∧iA (x/16777216)<=127:=by unfold iA;split <;> omega
 have e3:IntKind.i64.wrap (iA (x/16777216))=iA (x/16777216):=(IntKind.wrap_i64 _).trans (by omega);have e4:IntKind.u64.wrap (iA (x/16777216))=iA (x/16777216)%18446744073709551616:=IntKind.wrap_u64 _;unfold tR;generalize iA (x/16777216)=im at *;go_enter Tryz.func120,Tryz.ntmps120;go_upto_region 1 with fail;rw [Ev1.out];clear Ev1;obtain ⟨f1,f2,n1⟩:=F;have k0:=ab f1 0 (v:=VU 0) rfl;have k1:=ab f1 1 (v:=VU 0) rfl;have k2:=ab f1 2 (v:=VU 0) rfl;have k3:=ab f1 3 (v:=VU 0) rfl;have k4:=ab f1 4 (v:=VU 0) rfl;have k5:=ab f1 5 (v:=VU 0) rfl;have ff:=az f1;have ff0:=ff 0;have ff1:=ff 1;have ff2:=ff 2;have ff3:=ff 3;have ff4:=ff 4;have ff5:=ff 5;have hl:w.heap.size<v1.heap.size:=by omega
 clear f1 f2 ff;go_wp2_with fail;refine bodyPost_ret (v:=.agg #[VU x,VU (x%256),VU (x/256%256%8),VU (x/256%256/8%8),VU (x/65536%256%8),VU (im%18446744073709551616)]) (by simp [results,Tryz.results120,go_sem,k0,k1,k2,k3,k4,k5]) rfl ⟨rfl,?_⟩;repeat (refine cU ?_ nle _ _)
 exact n1
def iq (op c mode:Int):Bool:=decide (1<=op∧op<=14) && !bZ op c mode
theorem Es (x a b im op c mode:Int) (w:World) (h0:0<=op) (hc0:0<=c) (hc1:c<=7):
 Calls Tryz.prog 111 #[.agg #[VU x,VU op,VU a,VU b,VU c,VU im],VI mode] w fun e w'=>e=.returned (.bool (iq op c mode))∧Bw w w':=by
 have F:=cw w #[VU x,VU op,VU a,VU b,VU c,VU im] 168;obtain ⟨R,hR⟩:∃R,iq op c mode=R:=⟨_,rfl⟩;have HR:=hid hR;have HKm:=hid fun m u=>ji m u;rw [hR];clear hR;have hw:IntKind.i64.wrap c=c:=(IntKind.wrap_i64 _).trans (by omega);by_cases hop:op<=14∧1<=op
 ·rcases (show op=1∨op=2∨op=3∨op=4∨op=5∨op=6∨op=7∨op=8∨op=9∨op=10∨op=11∨op=12∨op=13∨op=14 by omega) with rfl | rfl | rfl | rfl | rfl | rfl | rfl | rfl | rfl | rfl | rfl | rfl | rfl | rfl
  case inr.inr.inr.inr.inr.inr.inr.inr.inr.inr.inr.inr.inl=>
   by_cases hm:mode=2
   ·subst hm;go_enter Tryz.func111,Tryz.ntmps111;go_upto_region 1 with fail;generalize w.alloc (Obj.cells #[VU x,VU 13,VU a,VU b,VU c,VU im] 168)=v1 at F |-;obtain ⟨f1,f2,n1⟩:=F;have k1:=ab f1 1 (v:=VU 13) rfl;have k4:=ab f1 4 (v:=VU c) rfl;clear f1 f2;go_wp2_with fail;refine (HKm.out c v1).mono ?_;rintro e u ⟨rfl,hu⟩;rw [hu];clear hu u;go_wp2;go_ret;refine ⟨?_,n1⟩;rw [<-HR.out];simp [iq,bZ];by_cases hc:c<=2
    ·rw [decide_eq_true hc,decide_eq_false (by omega)];rfl
    ·rw [decide_eq_false hc,decide_eq_true (by omega)];rfl
   ·have hm':=decide_eq_false hm;go_enter Tryz.func111,Tryz.ntmps111;go_upto_region 1 with fail;generalize w.alloc (Obj.cells #[VU x,VU 13,VU a,VU b,VU c,VU im] 168)=v1 at F |-;obtain ⟨f1,f2,n1⟩:=F;have k1:=ab f1 1 (v:=VU 13) rfl;have k4:=ab f1 4 (v:=VU c) rfl;clear f1 f2;go_wp2;go_ret;refine ⟨?_,n1⟩;rw [<-HR.out];simp [iq,bZ,hm]
  all_goals
   go_enter Tryz.func111,Tryz.ntmps111;go_upto_region 1 with fail;have k1:=ab F.1 1 (v:=VU _) rfl;have n1:=F.2.2;clear F;go_wp2;go_ret;refine ⟨?_,n1⟩;rw [<-HR.out];first
    | (simp [iq,bZ];done)
    | (simp [iq,bZ];omega)
    | (by_cases hm:mode=0 <;> simp [iq,bZ,hm];done)
    | (by_cases hm:mode=2 <;> simp [iq,bZ,hm];done)
 ·have hr:R=false:=by
   rw [<-HR.out];simp [iq];omega
  subst hr;obtain ⟨z1,z2,z3,z4,z5,z6,z7,z8,z9,z10,z11,z12,z13,z14⟩:op≠1∧op≠2∧op≠3∧op≠4∧op≠5∧op≠6∧op≠7∧op≠8∧op≠9∧op≠10∧op≠11∧op≠12∧op≠13∧op≠14:=by omega
  go_enter Tryz.func111,Tryz.ntmps111;go_upto_region 1 with fail;have k1:=ab F.1 1 (v:=VU op) rfl;have n1:=F.2.2;clear F;go_wp2;go_ret;exact ⟨rfl,n1⟩
theorem Am (x op a b c im:Int) (w:World) (hc0:0<=c):
 Calls Tryz.prog 115 #[.agg #[VU x,VU op,VU a,VU b,VU c,VU im]] w fun e w'=>e=.returned (VU (iW (c%4)))∧Bw w w':=by
 have F:=cw w #[VU x,VU op,VU a,VU b,VU c,VU im] 168;have k4:=ab F.1 4 (v:=VU c) rfl;have n1:=F.2.2;clear F;obtain ⟨d,hd⟩:∃d,c%4=d:=⟨_,rfl⟩;have hd':0<=d∧d<=3:=by omega
 rw [hd];rcases (show d=0∨d=1∨d=2∨d=3 by omega) with rfl | rfl | rfl | rfl;all_goals
  go_enter Tryz.func115,Tryz.ntmps115;go_wp2;go_ret;exact ⟨by simp [iW],n1⟩
theorem xW (mode:Int) (w:World) (h:0<=mode∧mode<=2):Calls Tryz.prog 119 #[VI mode] w fun e w'=>e=.returned (VI (8+mode))∧w'=w:=by
 rcases (show mode=0∨mode=1∨mode=2 by omega) with rfl | rfl | rfl;all_goals
  go_enter Tryz.func119,Tryz.ntmps119;go_wp2;go_ret;exact ⟨rfl,rfl⟩
theorem kt {O X:Nat->Prop} {m:MP} {ov:Value} {h:HartM} {ol:List (Nat × Int)} (a:Nat) (val:Int) (w:World) (k:MW w O X m ov h ol) (ha:a<8):
 Calls Tryz.prog 112 #[PT m.b 0,VU a,VU val] w fun e w'=>e=.returned (.tuple #[])∧MW w' O X m ov (eW h (if 0<(a:Int) then h.regs.set a val else h.regs)) ol∧w.grownBy w' (some m.b):=by
 have HK:Hid _:=k;have hb:=k.lt;clear k;rcases Nat.eq_zero_or_pos a with rfl | hp
 ·go_enter Tryz.func112,Tryz.ntmps112;go_wp2;go_end0;exact ⟨rfl,HK.out,aw _ _⟩
 ·have hr:=HK.out.regs;have hA:∀i,i<8->(cN h m.gm ov m.gi m.gd m.gp m.pv)[i]?=some (VU (h.regs[i]?.getD 0)):=fun i hi=>by
   rcases (show i=0∨i=1∨i=2∨i=3∨i=4∨i=5∨i=6∨i=7 by omega) with rfl | rfl | rfl | rfl | rfl | rfl | rfl | rfl <;> rfl
  have c:=ab HK.out.blk a (hA a ha);have f:=az HK.out.blk a;have hne:((a:Int) == 0)=false:=by simp;omega
  have hset:Hid ((cN h m.gm ov m.gi m.gd m.gp m.pv).setIfInBounds a (VU val)=cN (eW h (h.regs.set a val)) m.gm ov m.gi m.gd m.gp m.pv):=by
   show _=_;rcases (show a=1∨a=2∨a=3∨a=4∨a=5∨a=6∨a=7 by omega) with rfl | rfl | rfl | rfl | rfl | rfl | rfl <;> simp [cN,eW,hr]
  have HP:Hid (MW (w.setCell (AD m.b a) (VU val)) O X m ov (eW h (h.regs.set a val)) ol):=HK.out.put (aq (aw w (some m.b)) a (VU val)) (by rw [<-hset.out];exact bD HK.out.blk) rfl (by simpa [eW] using hr);have HG:Hid _:=aq (aw w (some m.b)) a (VU val);have hlt:(a:Int)<8:=by omega
  rw [if_pos (show 0<(a:Int) by omega)];clear hA hset hr;go_enter Tryz.func112,Tryz.ntmps112;go_wp2;go_end0;exact ⟨rfl,HP.out,HG.out⟩
def B9 (plain:Bool) (pick:Int) (O X:Nat->Prop) (m:MP) (PA:World->RunM->Prop) (ov:Value) (ol:List (Nat × Int)) (r:RunM) (w:World) (e:Ending) (w':World):Prop:=
 (r.h.pc%4=0∧(bu plain pick r.h 0 r.h.pc).1.1=0∧dU r.h.mem.length (bu plain pick r.h 0 r.h.pc).1.2 4=true∧e=.returned (.agg (tR (kC plain pick r.h)))∧MW w' O X m ov (bR plain pick r 0 r.h.pc).h ol∧PA w' (bR plain pick r 0 r.h.pc)∧Kp X w w'∧0<=kC plain pick r.h∧kC plain pick r.h<4294967296)∨
 ((eQ plain pick r).cause≠0∧e=.panicked [lK (eQ plain pick r).cause (eQ plain pick r).tval]∧MW w' O X m ov (eQ plain pick r).h ol∧PA w' (eQ plain pick r)∧Kp X w w'∧(eQ plain pick r).h.mem=r.h.mem)
theorem DS {plain:Bool} {pick:Int} {h0:HartM} {O X:Nat->Prop} {PI:World->Prop} {PA:World->RunM->Prop} {m:MP} (hp:PathOk m plain pick h0 X PI PA) (hpk:0<=pick∧pick<=255) {ov:Value} {ol:List (Nat × Int)} (r:RunM) (w:World)
 (k:MW w O X m ov r.h ol) (hA:PA w r) (hr:ROk r) (hc:SameC 0 r h0) (h0c:r.cause=0):
 Calls Tryz.prog 79 #[PT m.b 0] w fun e w'=>B9 plain pick O X m PA ov ol r w e w':=by
 obtain ⟨v1,Ev1,F⟩:=ax1 w #[VU 0,VU 0,VU 0,VU 0,VU 0,VU 0] 168;have HK:Hid _:=k;have HA:Hid _:=hA;have HP:Hid _:=hp;have HR:Hid _:=hr;have HC:Hid _:=hc;have H0:Hid _:=h0c;have hb:=k.lt;have hpc:=hr.h.pc;have c8:=ab k.blk 8 (v:=VU r.h.pc) rfl;clear k hA hp hr hc h0c;obtain ⟨pc,hpe⟩:∃pc,r.h.pc=pc:=⟨_,rfl⟩;have HPc:Hid _:=hpe;rw [hpe] at hpc c8;clear hpe;obtain ⟨hp0,hp1⟩:=hpc;go_enter Tryz.func79,Tryz.ntmps79;go_upto_region 1 with fail;rw [Ev1.out];clear Ev1;obtain ⟨f1,f2,n1⟩:=F;have HF1:Hid _:=f1;replace c8:=Below.cell2 n1 c8 hb;have K1:=hid (HK.out.low n1);have A1:=hid (HP.out.keep HA.out (fun i hi=>(HK.out.xo i hi).2) (Kp.of_below (fun _=>False) n1) (fun _ _ h=>h));have HN1:Hid _:=n1;clear f1 f2 n1;by_cases h4:pc%4=0
 ·go_wp2_with fail;refine (rI HP.out hpk r 0 pc 4 v1 K1.out A1.out HR.out HC.out.up H0.out (by omega) (by omega) ⟨hp0,hp1⟩ ⟨by omega,by omega⟩).mono ?_;rw [Ae pc 4 (by omega)];rintro e v2 ⟨he,k2,a2,n2⟩;have nx:¬X w.heap.size:=fun h=>by have:=(HK.out.xo _ h).2;omega
  have HF2:=Kp.hid HF1 n2 nx;have N2:=hid ((Kp.of_below X HN1.out).trans n2);by_cases hz:(bu plain pick r.h 0 pc).1.1=0
  ·have hT:ao plain pick 0 r [(pc,4,0)]=(bR plain pick r 0 pc,[(pc,4,(bu plain pick r.h 0 pc).1.2)]):=by
    rw [fF _ _ _ _ _ _ hz];rfl
   rw [hT] at he k2 a2;obtain ⟨_,g,rfl,hgl,hg⟩ | ⟨hcc,_⟩:=he
   rotate_left
   ·exact absurd H0.out hcc
   have HZ:Hid _:=hz;have K2:=hid k2;have A2:=hid a2;have HG:Hid _:=hg;have hpb:=(iC HR.out.h plain hpk (kind:=0) (va:=pc) ⟨by omega,by omega⟩ ⟨hp0,hp1⟩).2.2;obtain ⟨pa,hpa⟩:∃pa,(bu plain pick r.h 0 pc).1.2=pa:=⟨_,rfl⟩;have HPa:Hid _:=hpa;rw [hpa] at HG hpb;clear hz k2 a2 hg hpa n2;have HRd:Hid (Calls Tryz.prog 113 #[PT m.b 0,SL g 1 1] v2 fun e w'=>e=ou r.h.mem [(pc,4,pa)] 0∧Bw v2 w'):=
    zk (h:=(bR plain pick r 0 pc).h) 0 [(pc,4,pa)] g 1 v2 K2.out rfl HG.out (by
     intro p hp;rw [List.mem_singleton] at hp;subst hp;exact ⟨⟨hp0,hp1⟩,⟨by simp,by simp⟩,hpb⟩) (by simp [bV]) (by omega)
   go_wp2_with fail;refine Calls.mono HRd.out ?_;rintro e v3 ⟨he,n3⟩;have HF3:=ah HF2 n3;have K3:Hid _:=K2.out.low n3;have A3:=hid (HP.out.keep A2.out (fun i hi=>(K2.out.xo i hi).2) (Kp.of_below (fun _=>False) n3) (fun _ _ h=>h));have N3:=hid (N2.out.trans (Kp.of_below X n3));cases hins:fR r.h.mem.length pa 4
   ·have ho:gJ r.h.mem [(pc,4,pa)]=some pc:=rK (a:=[]) (fun p hp=>by simp at hp) hins;unfold ou at he;rw [ho] at he;simp only at he;subst he;go_wp2_with fail;refine ⟨rfl,.inr ?_⟩;have hB:eQ plain pick r=bY (bR plain pick r 0 pc) 1 pc:=by
     unfold eQ;rw [HPc.out,if_pos h4,if_pos HZ.out,HPa.out,if_neg (by rw [<-mM _ _ _ (by omega),hins];simp)]
    rw [hB];exact ⟨by simp [bY],rfl,K3.out,HP.out.congr _ _ _ A3.out rfl rfl rfl rfl,N3.out,rfl⟩
   ·have ho:gJ r.h.mem [(pc,4,pa)]=none:=pV (fun p hp=>by
     rw [List.mem_singleton] at hp;subst hp;exact hins)
    unfold ou at he;rw [ho] at he;simp only at he;have hgd:dU r.h.mem.length pa 4=true:=by rw [<-mM _ _ _ (by omega)];exact hins
    have hx:iZ r.h.mem [(pc,4,pa)]=kC plain pick r.h:=by
     unfold kC rdV iZ;rw [HPc.out,HPa.out,if_pos hgd];simp [cE]
    rw [hx] at he;subst he;have hxb:0<=kC plain pick r.h∧kC plain pick r.h<4294967296:=by
     have:=fW r.h.mem pa.toNat 4 HK.out.byt;rw [<-hx];unfold iZ;simpa [cE] using this
    have HGd:Hid _:=hgd;obtain ⟨xw,hxw⟩:∃xw,kC plain pick r.h=xw:=⟨_,rfl⟩;have HXw:Hid _:=hxw;rw [hxw] at hxb |-;clear hxw hx hgd hins ho;go_wp2_with fail;refine (Bn xw v3 hxb.1 hxb.2).mono ?_;rintro e v4 ⟨rfl,n4⟩;have HF4:=ah HF3 n4;have HS:Hid _:=bq (P:=Tryz.prog) (T:=168) (V:=tR xw) HF4.out (by kernel_rfl) rfl (by simp [tR,Value.oneCell']);have HE:=aT (V:=tR xw) HF4.out rfl;have hgb:=aH w.heap.size (tR xw).toList 0 v4 v4 (aw v4 _);have K4:=hid (K3.out.low n4);have A4:=hid (HP.out.keep A3.out (fun i hi=>(K3.out.xo i hi).2) (Kp.of_below (fun _=>False) n4) (fun _ _ h=>h));have N4:=hid (N3.out.trans (Kp.of_below X n4));have HW:Hid _:=bw (P:=Tryz.prog) HE Tryz.underlying168 rfl (by kernel_rfl);obtain ⟨IA,hIA⟩:∃IA,tR xw=IA:=⟨_,rfl⟩;have HIA:Hid _:=hIA;rw [hIA] at HS HE hgb HW |-;clear hIA;go_wp2_with ((with_reducible refine aL ?_ ?_ HS.out ?_);(exact rfl);(exact rfl));refine dx (b:=w.heap.size) Tryz.results79 rfl HW.out rfl ?_;refine .inl ?_;rw [HPc.out,HPa.out,HXw.out,HIA.out];exact ⟨h4,HZ.out,HGd.out,rfl,HK.out.box K4.out hgb nle,HP.out.box A4.out (fun i hi=>(K4.out.xo i hi).2) hgb nx,N4.out.box hgb nle,hxb⟩
  ·have hT:=ig plain pick 0 r (pc,4,0) [] hz;rw [hT] at he k2 a2;obtain ⟨hcc,_⟩ | ⟨hcc,rfl⟩:=he
   ·exact absurd hcc hz
   have HZ:Hid _:=hz;clear hz;go_wp2_with fail;refine ⟨rfl,.inr ?_⟩;have hB:eQ plain pick r=bY (bR plain pick r 0 pc) (bu plain pick r.h 0 pc).1.1 pc:=by
    unfold eQ;rw [HPc.out,if_pos h4,if_neg HZ.out]
   rw [hB];exact ⟨HZ.out,rfl,k2,a2,N2.out,rfl⟩
 ·have h4':=decide_eq_false h4;go_wp2_with fail;refine ⟨rfl,.inr ?_⟩;have hB:eQ plain pick r=bY r 20 pc:=by
   unfold eQ;rw [HPc.out,if_neg h4]
  rw [hB];exact ⟨by simp [bY],rfl,K1.out,HP.out.congr _ _ _ A1.out rfl rfl rfl rfl,Kp.of_below X HN1.out,rfl⟩
end Go.Proofs.YtkenjknmfhoppaaGreat
