import Derived.Test.YtgnnmgfgfihljaaGreatPk42
namespace Go.Proofs.YtgnnmgfgfihljaaGreat
open Go.RowKit
set_option linter.unusedVariables false
set_option maxHeartbeats 6400000
set_option maxRecDepth 20000
def zd (plain:Bool) (pick:Int) (O X:Nat->Prop) (m:MP) (PA:World->RunM->Prop) (ov:Value) (ol:List (Nat × Int)) (r:RunM) (w:World) (e:Ending) (w':World):Prop:=
 (r.h.pc%4=0∧(be plain pick r.h 0 r.h.pc).1.1=0∧di r.h.mem.length (be plain pick r.h 0 r.h.pc).1.2 4=true∧e=.returned (.agg (qw (iY plain pick r.h)))∧MW w' O X m ov (bw plain pick r 0 r.h.pc).h ol∧PA w' (bw plain pick r 0 r.h.pc)∧Kp X w w'∧0<=iY plain pick r.h∧iY plain pick r.h<4294967296)∨
 ((dZ plain pick r).cause≠0∧e=.panicked [jz (dZ plain pick r).cause (dZ plain pick r).tval]∧MW w' O X m ov (dZ plain pick r).h ol∧PA w' (dZ plain pick r)∧Kp X w w'∧(dZ plain pick r).h.mem=r.h.mem)
theorem Av {plain:Bool} {pick:Int} {h0:HartM} {O X:Nat->Prop} {PI:World->Prop} {PA:World->RunM->Prop} {m:MP} (hp:PathOk m plain pick h0 X PI PA) (hpk:0<=pick∧pick<=255) {ov:Value} {ol:List (Nat × Int)} (r:RunM) (w:World)
 (k:MW w O X m ov r.h ol) (hA:PA w r) (hr:ROk r) (hc:SameC r.h h0) (h0c:r.cause=0):
 Calls Tryz.prog 63 #[.pointer (some ⟨m.b,0,none⟩)] w fun e w'=>zd plain pick O X m PA ov ol r w e w':=by
 have F:=bL w #[.int .u64 0,.int .u64 0,.int .u64 0,.int .u64 0,.int .u64 0,.int .u64 0] 127;have HK:Hid _:=k;have HA:Hid _:=hA;have HP:Hid _:=hp;have HR:Hid _:=hr;have HC:Hid _:=hc;have H0:Hid _:=h0c;have hb:=k.lt;have hpc:=hr.h.pc;have c8:=aa k.blk 8 (v:=.int .u64 r.h.pc) rfl;clear k hA hp hr hc h0c;obtain ⟨pc,hpe⟩:∃pc,r.h.pc=pc:=⟨_,rfl⟩;have HPc:Hid _:=hpe;rw [hpe] at hpc c8;clear hpe;obtain ⟨hp0,hp1⟩:=hpc;go_enter Tryz.func63,Tryz.ntmps63;go_upto_region 1 with fail;generalize w.alloc (Obj.cells #[.int .u64 0,.int .u64 0,.int .u64 0,.int .u64 0,.int .u64 0,.int .u64 0] 127)=v1 at F |-;obtain ⟨f1,f2,n1⟩:=F;have HF1:Hid _:=f1;replace c8:=Below.cell2 n1 c8 hb;have K1:Hid (MW v1 O X m ov r.h ol):=HK.out.low n1;have A1:Hid (PA v1 r):=HP.out.keep HA.out (fun i hi=>(HK.out.xo i hi).2) (Kp.of_below (fun _=>False) n1) (fun _ _ h=>h);have HN1:Hid _:=n1;clear f1 f2 n1;by_cases h4:pc%4=0
 ·go_wp2_with fail;refine (pz HP.out hpk r 0 pc 4 v1 K1.out A1.out HR.out HC.out H0.out (by omega) (by omega) ⟨hp0,hp1⟩ ⟨by omega,by omega⟩).mono ?_;rw [xB pc 4 (by omega)];rintro e v2 ⟨he,k2,a2,n2⟩;have nx:¬X w.heap.size:=fun h=>by have:=(HK.out.xo _ h).2;omega
  have HF2:=Kp.hid HF1 n2 nx;have N2:Hid (Kp X w v2):=(Kp.of_below X HN1.out).trans n2;by_cases hz:(be plain pick r.h 0 pc).1.1=0
  ·have hT:aj plain pick 0 r [(pc,4,0)]=(bw plain pick r 0 pc,[(pc,4,(be plain pick r.h 0 pc).1.2)]):=by
    rw [eD _ _ _ _ _ _ hz];rfl
   rw [hT] at he k2 a2;obtain ⟨_,g,rfl,hgl,hg⟩ | ⟨hcc,_⟩:=he
   rotate_left
   ·exact absurd H0.out hcc
   have HZ:Hid _:=hz;have K2:Hid (MW v2 O X m ov (bw plain pick r 0 pc).h ol):=k2;have A2:Hid (PA v2 (bw plain pick r 0 pc)):=a2;have HG:Hid _:=hg;have hpb:=(fY HR.out.h plain hpk (kind:=0) (va:=pc) ⟨by omega,by omega⟩ ⟨hp0,hp1⟩).2.2;obtain ⟨pa,hpa⟩:∃pa,(be plain pick r.h 0 pc).1.2=pa:=⟨_,rfl⟩;have HPa:Hid _:=hpa;rw [hpa] at HG hpb;clear hz k2 a2 hg hpa n2;have HRd:Hid (Calls Tryz.prog 99 #[.pointer (some ⟨m.b,0,none⟩),.slice (some ⟨g,0,none⟩) 1 1] v2 fun e w'=>e=ld r.h.mem [(pc,4,pa)] 0∧Below v2.heap.size v2 w'):=
    wD (h:=(bw plain pick r 0 pc).h) 0 [(pc,4,pa)] g 1 v2 K2.out rfl HG.out (by
     intro p hp;rw [List.mem_singleton] at hp;subst hp;exact ⟨⟨hp0,hp1⟩,⟨by simp,by simp⟩,hpb⟩) (by simp [bN]) (by omega)
   go_wp2_with fail;refine Calls.mono HRd.out ?_;rintro e v3 ⟨he,n3⟩;have HF3:=ab HF2 n3;have K3:Hid _:=K2.out.low n3;have A3:Hid (PA v3 (bw plain pick r 0 pc)):=HP.out.keep A2.out (fun i hi=>(K2.out.xo i hi).2) (Kp.of_below (fun _=>False) n3) (fun _ _ h=>h);have N3:Hid (Kp X w v3):=N2.out.trans (Kp.of_below X n3);cases hins:fw r.h.mem.length pa 4
   ·have ho:fm r.h.mem [(pc,4,pa)]=some pc:=pD (a:=[]) (fun p hp=>by simp at hp) hins;unfold ld at he;rw [ho] at he;simp only at he;subst he;go_wp2_with fail;refine ⟨rfl,.inr ?_⟩;have hB:dZ plain pick r=bP (bw plain pick r 0 pc) 1 pc:=by
     unfold dZ;rw [HPc.out,if_pos h4,if_pos HZ.out,HPa.out,if_neg (by rw [<-ky _ _ _ (by omega),hins];simp)]
    rw [hB];exact ⟨by simp [bP],rfl,K3.out,HP.out.congr _ _ _ A3.out rfl rfl rfl rfl,N3.out,rfl⟩
   ·have ho:fm r.h.mem [(pc,4,pa)]=none:=mI (fun p hp=>by
     rw [List.mem_singleton] at hp;subst hp;exact hins)
    unfold ld at he;rw [ho] at he;simp only at he;have hgd:di r.h.mem.length pa 4=true:=by rw [<-ky _ _ _ (by omega)];exact hins
    have hx:gL r.h.mem [(pc,4,pa)]=iY plain pick r.h:=by
     unfold iY rdV gL;rw [HPc.out,HPa.out,if_pos hgd];simp [bS]
    rw [hx] at he;subst he;have hxb:0<=iY plain pick r.h∧iY plain pick r.h<4294967296:=by
     have:=fC r.h.mem pa.toNat 4 HK.out.byt;rw [<-hx];unfold gL;simpa [bS] using this
    have HGd:Hid _:=hgd;obtain ⟨xw,hxw⟩:∃xw,iY plain pick r.h=xw:=⟨_,rfl⟩;have HXw:Hid _:=hxw;rw [hxw] at hxb |-;clear hxw hx hgd hins ho;go_wp2_with fail;refine (yA xw v3 hxb.1 hxb.2).mono ?_;rintro e v4 ⟨rfl,n4⟩;have HF4:=ab HF3 n4;have HS:Hid _:=bB (P:=Tryz.prog) (T:=127) (V:=qw xw) HF4.out (by kernel_rfl) rfl (by simp [qw,Value.oneCell']);have HE:=aX (V:=qw xw) HF4.out rfl;have hgb:=aM w.heap.size (qw xw).toList 0 v4 v4 (au v4 _);have K4:Hid (MW v4 O X m ov (bw plain pick r 0 pc).h ol):=K3.out.low n4;have A4:Hid (PA v4 (bw plain pick r 0 pc)):=HP.out.keep A3.out (fun i hi=>(K3.out.xo i hi).2) (Kp.of_below (fun _=>False) n4) (fun _ _ h=>h);have N4:Hid (Kp X w v4):=N3.out.trans (Kp.of_below X n4);have HW:Hid _:=bx (P:=Tryz.prog) HE Tryz.underlying127 rfl (by kernel_rfl);obtain ⟨IA,hIA⟩:∃IA,qw xw=IA:=⟨_,rfl⟩;have HIA:Hid _:=hIA;rw [hIA] at HS HE hgb HW |-;clear hIA;go_wp2_with ((with_reducible refine aH ?_ ?_ HS.out ?_);(exact rfl);(exact rfl));refine dx (b:=w.heap.size) Tryz.results63 rfl HW.out rfl ?_;refine .inl ?_;rw [HPc.out,HPa.out,HXw.out,HIA.out];exact ⟨h4,HZ.out,HGd.out,rfl,HK.out.box K4.out hgb nle,HP.out.box A4.out (fun i hi=>(K4.out.xo i hi).2) hgb nx,N4.out.box hgb nle,hxb⟩
  ·have hT:=fN plain pick 0 r (pc,4,0) [] hz;rw [hT] at he k2 a2;obtain ⟨hcc,_⟩ | ⟨hcc,rfl⟩:=he
   ·exact absurd hcc hz
   have HZ:Hid _:=hz;clear hz;go_wp2_with fail;refine ⟨rfl,.inr ?_⟩;have hB:dZ plain pick r=bP (bw plain pick r 0 pc) (be plain pick r.h 0 pc).1.1 pc:=by
    unfold dZ;rw [HPc.out,if_pos h4,if_neg HZ.out]
   rw [hB];exact ⟨HZ.out,rfl,k2,a2,N2.out,rfl⟩
 ·have h4':decide (pc%4=0)=false:=decide_eq_false h4;go_wp2_with fail;refine ⟨rfl,.inr ?_⟩;have hB:dZ plain pick r=bP r 20 pc:=by
   unfold dZ;rw [HPc.out,if_neg h4]
  rw [hB];exact ⟨by simp [bP],rfl,K1.out,HP.out.congr _ _ _ A1.out rfl rfl rfl rfl,Kp.of_below X HN1.out,rfl⟩
end Go.Proofs.YtgnnmgfgfihljaaGreat
