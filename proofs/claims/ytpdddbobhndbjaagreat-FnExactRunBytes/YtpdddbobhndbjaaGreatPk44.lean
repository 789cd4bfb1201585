import Derived.Test.YtpdddbobhndbjaaGreatPk43
namespace Go.Proofs.YtpdddbobhndbjaaGreat
open Go.RowKit
set_option linter.unusedVariables false
set_option maxHeartbeats 6400000
set_option maxRecDepth 20000
def Ae (plain:Bool) (pick:Int) (O X:Nat->Prop) (m:MP) (PA:World->RunM->Prop) (ov:Value) (ol:List (Nat × Int)) (r:RunM) (w:World) (e:Ending) (w':World):Prop:=
 (r.h.pc%4=0∧(br plain pick r.h 0 r.h.pc).1.1=0∧dP r.h.mem.length (br plain pick r.h 0 r.h.pc).1.2 4=true∧e=.returned (.agg (rO (jQ plain pick r.h)))∧MW w' O X m ov (bX plain pick r 0 r.h.pc).h ol∧PA w' (bX plain pick r 0 r.h.pc)∧Kp X w w'∧0<=jQ plain pick r.h∧jQ plain pick r.h<4294967296)∨
 ((eD plain pick r).cause≠0∧e=.panicked [kC (eD plain pick r).cause (eD plain pick r).tval]∧MW w' O X m ov (eD plain pick r).h ol∧PA w' (eD plain pick r)∧Kp X w w'∧(eD plain pick r).h.mem=r.h.mem)
theorem BN {plain:Bool} {pick:Int} {h0:HartM} {O X:Nat->Prop} {PI:World->Prop} {PA:World->RunM->Prop} {m:MP} (hp:PathOk m plain pick h0 X PI PA) (hpk:0<=pick∧pick<=255) {ov:Value} {ol:List (Nat × Int)} (r:RunM) (w:World)
 (k:MW w O X m ov r.h ol) (hA:PA w r) (hr:ROk r) (hc:SameC r.h h0) (h0c:r.cause=0):
 Calls Tryz.prog 55 #[.pointer (some ⟨m.b,0,none⟩)] w fun e w'=>Ae plain pick O X m PA ov ol r w e w':=by
 obtain ⟨v1,Ev1,F⟩:=ax1 w #[.int .u64 0,.int .u64 0,.int .u64 0,.int .u64 0,.int .u64 0,.int .u64 0] 116;have HK:Hid _:=k;have HA:Hid _:=hA;have HP:Hid _:=hp;have HR:Hid _:=hr;have HC:Hid _:=hc;have H0:Hid _:=h0c;have hb:=k.lt;have hpc:=hr.h.pc;have c8:=ab k.blk 8 (v:=.int .u64 r.h.pc) rfl;clear k hA hp hr hc h0c;obtain ⟨pc,hpe⟩:∃pc,r.h.pc=pc:=⟨_,rfl⟩;have HPc:Hid _:=hpe;rw [hpe] at hpc c8;clear hpe;obtain ⟨hp0,hp1⟩:=hpc;go_enter Tryz.func55,Tryz.ntmps55;go_upto_region 1 with fail;rw [Ev1.out];clear Ev1;obtain ⟨f1,f2,n1⟩:=F;have HF1:Hid _:=f1;replace c8:=Below.cell2 n1 c8 hb;have K1:=hid (HK.out.low n1);have A1:=hid (HP.out.keep HA.out (fun i hi=>(HK.out.xo i hi).2) (Kp.of_below (fun _=>False) n1) (fun _ _ h=>h));have HN1:Hid _:=n1;clear f1 f2 n1;by_cases h4:pc%4=0
 ·go_wp2_with fail;refine (qI HP.out hpk r 0 pc 4 v1 K1.out A1.out HR.out HC.out H0.out (by omega) (by omega) ⟨hp0,hp1⟩ ⟨by omega,by omega⟩).mono ?_;rw [yq pc 4 (by omega)];rintro e v2 ⟨he,k2,a2,n2⟩;have nx:¬X w.heap.size:=fun h=>by have:=(HK.out.xo _ h).2;omega
  have HF2:=Kp.hid HF1 n2 nx;have N2:=hid ((Kp.of_below X HN1.out).trans n2);by_cases hz:(br plain pick r.h 0 pc).1.1=0
  ·have hT:ao plain pick 0 r [(pc,4,0)]=(bX plain pick r 0 pc,[(pc,4,(br plain pick r.h 0 pc).1.2)]):=by
    rw [fj _ _ _ _ _ _ hz];rfl
   rw [hT] at he k2 a2;obtain ⟨_,g,rfl,hgl,hg⟩ | ⟨hcc,_⟩:=he
   rotate_left
   ·exact absurd H0.out hcc
   have HZ:Hid _:=hz;have K2:=hid k2;have A2:=hid a2;have HG:Hid _:=hg;have hpb:=(gX HR.out.h plain hpk (kind:=0) (va:=pc) ⟨by omega,by omega⟩ ⟨hp0,hp1⟩).2.2;obtain ⟨pa,hpa⟩:∃pa,(br plain pick r.h 0 pc).1.2=pa:=⟨_,rfl⟩;have HPa:Hid _:=hpa;rw [hpa] at HG hpb;clear hz k2 a2 hg hpa n2;have HRd:Hid (Calls Tryz.prog 76 #[.pointer (some ⟨m.b,0,none⟩),.slice (some ⟨g,0,none⟩) 1 1] v2 fun e w'=>e=mu r.h.mem [(pc,4,pa)] 0∧Bw v2 w'):=
    xI (h:=(bX plain pick r 0 pc).h) 0 [(pc,4,pa)] g 1 v2 K2.out rfl HG.out (by
     intro p hp;rw [List.mem_singleton] at hp;subst hp;exact ⟨⟨hp0,hp1⟩,⟨by simp,by simp⟩,hpb⟩) (by simp [bP]) (by omega)
   go_wp2_with fail;refine Calls.mono HRd.out ?_;rintro e v3 ⟨he,n3⟩;have HF3:=ah HF2 n3;have K3:Hid _:=K2.out.low n3;have A3:=hid (HP.out.keep A2.out (fun i hi=>(K2.out.xo i hi).2) (Kp.of_below (fun _=>False) n3) (fun _ _ h=>h));have N3:=hid (N2.out.trans (Kp.of_below X n3));cases hins:fA r.h.mem.length pa 4
   ·have ho:fN r.h.mem [(pc,4,pa)]=some pc:=qL (a:=[]) (fun p hp=>by simp at hp) hins;unfold mu at he;rw [ho] at he;simp only at he;subst he;go_wp2_with fail;refine ⟨rfl,.inr ?_⟩;have hB:eD plain pick r=bT (bX plain pick r 0 pc) 1 pc:=by
     unfold eD;rw [HPc.out,if_pos h4,if_pos HZ.out,HPa.out,if_neg (by rw [<-lH _ _ _ (by omega),hins];simp)]
    rw [hB];exact ⟨by simp [bT],rfl,K3.out,HP.out.congr _ _ _ A3.out rfl rfl rfl rfl,N3.out,rfl⟩
   ·have ho:fN r.h.mem [(pc,4,pa)]=none:=oD (fun p hp=>by
     rw [List.mem_singleton] at hp;subst hp;exact hins)
    unfold mu at he;rw [ho] at he;simp only at he;have hgd:dP r.h.mem.length pa 4=true:=by rw [<-lH _ _ _ (by omega)];exact hins
    have hx:iD r.h.mem [(pc,4,pa)]=jQ plain pick r.h:=by
     unfold jQ rdV iD;rw [HPc.out,HPa.out,if_pos hgd];simp [cz]
    rw [hx] at he;subst he;have hxb:0<=jQ plain pick r.h∧jQ plain pick r.h<4294967296:=by
     have:=fT r.h.mem pa.toNat 4 HK.out.byt;rw [<-hx];unfold iD;simpa [cz] using this
    have HGd:Hid _:=hgd;obtain ⟨xw,hxw⟩:∃xw,jQ plain pick r.h=xw:=⟨_,rfl⟩;have HXw:Hid _:=hxw;rw [hxw] at hxb |-;clear hxw hx hgd hins ho;go_wp2_with fail;refine (zE xw v3 hxb.1 hxb.2).mono ?_;rintro e v4 ⟨rfl,n4⟩;have HF4:=ah HF3 n4;have HS:Hid _:=bh (P:=Tryz.prog) (T:=116) (V:=rO xw) HF4.out (by kernel_rfl) rfl (by simp [rO,Value.oneCell']);have HE:=aT (V:=rO xw) HF4.out rfl;have hgb:=aJ w.heap.size (rO xw).toList 0 v4 v4 (aq v4 _);have K4:=hid (K3.out.low n4);have A4:=hid (HP.out.keep A3.out (fun i hi=>(K3.out.xo i hi).2) (Kp.of_below (fun _=>False) n4) (fun _ _ h=>h));have N4:=hid (N3.out.trans (Kp.of_below X n4));have HW:Hid _:=bu (P:=Tryz.prog) HE Tryz.underlying116 rfl (by kernel_rfl);obtain ⟨IA,hIA⟩:∃IA,rO xw=IA:=⟨_,rfl⟩;have HIA:Hid _:=hIA;rw [hIA] at HS HE hgb HW |-;clear hIA;go_wp2_with ((with_reducible refine aG ?_ ?_ HS.out ?_);(exact rfl);(exact rfl));refine dz (b:=w.heap.size) Tryz.results55 rfl HW.out rfl ?_;refine .inl ?_;rw [HPc.out,HPa.out,HXw.out,HIA.out];exact ⟨h4,HZ.out,HGd.out,rfl,HK.out.box K4.out hgb nle,HP.out.box A4.out (fun i hi=>(K4.out.xo i hi).2) hgb nx,N4.out.box hgb nle,hxb⟩
  ·have hT:=gE plain pick 0 r (pc,4,0) [] hz;rw [hT] at he k2 a2;obtain ⟨hcc,_⟩ | ⟨hcc,rfl⟩:=he
   ·exact absurd hcc hz
   have HZ:Hid _:=hz;clear hz;go_wp2_with fail;refine ⟨rfl,.inr ?_⟩;have hB:eD plain pick r=bT (bX plain pick r 0 pc) (br plain pick r.h 0 pc).1.1 pc:=by
    unfold eD;rw [HPc.out,if_pos h4,if_neg HZ.out]
   rw [hB];exact ⟨HZ.out,rfl,k2,a2,N2.out,rfl⟩
 ·have h4':=decide_eq_false h4;go_wp2_with fail;refine ⟨rfl,.inr ?_⟩;have hB:eD plain pick r=bT r 20 pc:=by
   unfold eD;rw [HPc.out,if_neg h4]
  rw [hB];exact ⟨by simp [bT],rfl,K1.out,HP.out.congr _ _ _ A1.out rfl rfl rfl rfl,Kp.of_below X HN1.out,rfl⟩
end Go.Proofs.YtpdddbobhndbjaaGreat
