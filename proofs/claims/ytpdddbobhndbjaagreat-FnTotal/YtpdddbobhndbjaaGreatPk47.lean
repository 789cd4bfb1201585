import Derived.Test.YtpdddbobhndbjaaGreatPk46
namespace Go.Proofs.YtpdddbobhndbjaaGreat
open Go.RowKit
set_option linter.unusedVariables false
set_option maxHeartbeats 6400000
set_option maxRecDepth 20000
section
attribute [local go_sem ↓] Go.wp_at_zero Go.wp_at_succ
theorem xr (base g len cap k:Nat) (zs:List Int) (val:Int) (w:World) (h:OwnC 5 1 w base g len cap (dW zs)) (hz:zs.length=len) (hk:k<len) (hl:len<=1048576) (hv0:0<=val) (hv1:val<=255):
 Calls Tryz.prog 69 #[.slice (some ⟨g,0,none⟩) len cap,.int .u64 k,.int .u64 val] w fun e w'=>e=.returned (.tuple #[])∧OwnC 5 1 w' base g len cap (dW (zs.set k val))∧w.grownBy w' (some g):=by
 have g2:=aB h k (.int .u8 (zs[k]?.getD 0)) (by
  have:k<zs.length:=by omega
  simp [dW,this])
 have g3:=aO h k;have O2:Hid (OwnC 5 1 (w.setCell ⟨g,k,none⟩ (.int .u8 val)) base g len cap (dW (zs.set k val))):=by
  have:=aF h k (.int .u8 val);rw [show (dW zs).set k (.int .u8 val)=dW (zs.set k val) by simp [dW,List.map_set]] at this;exact this
 have G2:Hid _:=ak (aq w (some g)) k (.int .u8 val);have hg:=(OwnC.facts h).2.2.1;clear h;go_enter Tryz.func69,Tryz.ntmps69;go_wp2_with fail;go_end0;have e:IntKind.u8.wrap val=val:=by show val%256=val;omega
 exact ⟨rfl,O2.out,G2.out⟩
theorem qT (zs:List Int) (p:Nat):kX zs p 2=atM zs p+256*atM zs (p+1):=by
 rw [pD,pD];simp [kX,num]
theorem BQ (b len cap p base g n mc:Nat) (a:Option Addr) (zs mem:List Int) (w:World) (hR:RdAt w b a len cap zs p) (hM:OwnC 5 1 w base g n mc (dW mem)) (hml:mem.length=n) (hn:n<=4096) (hgb:g≠b) (hga:0<len->∀x,a=some x->x.block≠g):
 Calls Tryz.prog 43 #[.pointer (some ⟨b,0,none⟩),.slice (some ⟨g,0,none⟩) n mc] w fun e w'=>e=.returned (.tuple #[])∧RdAt w' b a len cap zs (p+3+(atM zs (p+2)).toNat)∧OwnC 5 1 w' base g n mc (dW (kE zs (atM zs (p+2)).toNat (p+3) (qi zs p) mem))∧Keeps w w' b g g:=by
 have HR:Hid _:=hR;have HM:Hid _:=hM;have HGa:Hid _:=hga;have HBd:Hid (∀i:Nat,0<=atM zs i∧atM zs i<=255):=hR.byt.2.1;clear hR hM hga;obtain ⟨A,hA⟩:∃A:Nat,qi zs p=A:=⟨_,rfl⟩;have hb0:=HBd.out p;have hb1:=HBd.out (p+1);have hb2:=HBd.out (p+2);have HA:Hid (kX zs p 2=(A:Int)):=by show _=_;rw [qT,<-hA];unfold qi;omega
 have hA2:A<=65535:=by rw [<-hA];unfold qi;omega
 obtain ⟨m,hm⟩:∃m:Nat,atM zs (p+2)=m:=⟨(atM zs (p+2)).toNat,by omega⟩;have Hm:Hid _:=hm;rw [hm] at hb2;have hm2:m<=255:=by omega
 rw [hA,hm,Int.toNat_natCast];clear hA hm hb0 hb1 hb2;go_enter Tryz.func43,Tryz.ntmps43;go_wp2_with fail;refine (ie b len cap p 2 a zs w HR.out (by omega)).mono ?_;rintro e v1 ⟨rfl,hR1,hG1⟩;rw [HA.out];have HR1:Hid _:=hR1;have HG1:Hid _:=hG1;clear hR1 hG1;go_wp2_with fail;refine (iw b len cap (p+2) a zs v1 HR1.out).mono ?_;rintro e v2 ⟨rfl,hR2,hG2⟩;rw [Hm.out];have hG:=dJ HG1.out hG2;have HR2:Hid _:=hR2;have HM2:Hid _:=OwnC.gb HM.out hG hgb;have K2:=hid (Keeps.of_gb b g g hG (.inl rfl));clear hR2 hG2 hG HG1 HR1;go_wp2_with fail;go_loopw [4,10] (fun av cv wr=>∃(k:Nat) (mk:List Int),k<=m∧cv=.int .u8 k∧av=.int .u64 ((A+k:Nat):Int)∧RdAt wr b a len cap zs (p+3+k)∧kE zs m (p+3) A mem=kE zs (m-k) (p+3+k) (A+k) mk∧mk.length=n∧OwnC 5 1 wr base g n mc (dW mk)∧Keeps w wr b g g) (fun _ cv _=>m-(intOf cv).toNat)
 case atStart=>exact ⟨0,mem,Nat.zero_le _,rfl,rfl,HR2.out,rfl,hml,HM2.out,K2.out⟩
 case round=>
  clear HR2 HM2 K2;obtain ⟨k,mk,hk,rfl,rfl,hRk,hLk,hmk,hOk,hKk⟩:=hrel;have HRk:Hid _:=hRk;have HLk:Hid _:=hLk;have HOk:Hid _:=hOk;have HKk:Hid _:=hKk;clear hRk hLk hOk hKk;by_cases hkm:k<m
  ·obtain ⟨z,hz⟩:∃z,atM zs (p+3+k)=z:=⟨_,rfl⟩;have HZ:Hid _:=hz;have bz:=HBd.out (p+3+k);rw [hz] at bz;obtain ⟨hz1,hz2⟩:=bz;clear hz;go_wp2_with fail;refine (iw b len cap (p+3+k) a zs wr HRk.out).mono ?_;rintro e v3 ⟨rfl,hR3,hG3⟩;rw [HZ.out];have HR3:Hid _:=hR3;have HO3:Hid _:=OwnC.gb HOk.out hG3 hgb;have K3:=hid (Keeps.trans HKk.out (Keeps.of_gb b g g hG3 (.inl rfl)));clear hR3 hG3;by_cases hin:A+k<n
   ·have HI:Hid (fA n ((A+k:Nat):Int) 1=true):=by show _=_;simp only [fA,decide_eq_true_eq];omega
    go_wp2_with fail;refine (qD (some ⟨g,0,none⟩) n mc ((A+k:Nat):Int) 1 v3 (by omega) (by omega) (by omega) (by omega) (by omega)).mono ?_;rintro e v' ⟨rfl,hv'⟩;rw [hv',HI.out];clear hv' v';go_wp2_with fail;refine (xr base g n mc (A+k) mk z v3 HO3.out hmk hin (by omega) hz1 hz2).mono ?_;rintro e v4 ⟨rfl,hO4,hG4⟩;have HO4:Hid _:=hO4;have HR4:Hid _:=HR3.out.gb hG4 (Ne.symm hgb) HGa.out;have K4:=hid (Keeps.trans K3.out (Keeps.of_gb b g g hG4 (.inr (.inl rfl))));clear hO4 hG4;go_wp2_with fail;refine ⟨⟨k+1,mk.set (A+k) z,by omega,by go_num,by go_num,HR4.out,?_,by rw [List.length_set];exact hmk,HO4.out,K4.out⟩,?_⟩
    ·rw [HLk.out,show m-k=(m-(k+1))+1 by omega,kE,if_pos (by omega),HZ.out];rfl
    ·simp [intOf];omega
   ·have HI:Hid (fA n ((A+k:Nat):Int) 1=false):=by show _=_;simp only [fA,decide_eq_false_iff_not];omega
    go_wp2_with fail;refine (qD (some ⟨g,0,none⟩) n mc ((A+k:Nat):Int) 1 v3 (by omega) (by omega) (by omega) (by omega) (by omega)).mono ?_;rintro e v' ⟨rfl,hv'⟩;rw [hv',HI.out];clear hv' v';go_wp2_with fail;refine ⟨⟨k+1,mk,by omega,by go_num,by go_num,HR3.out,?_,hmk,HO3.out,K3.out⟩,?_⟩
    ·rw [HLk.out,show m-k=(m-(k+1))+1 by omega,kE,if_neg (by omega)];rfl
    ·simp [intOf];omega
  ·have hkm':k=m:=by omega
   subst hkm';go_wp2_with fail;go_end0;have e:=HLk.out;rw [Nat.sub_self,kE] at e;rw [e];exact ⟨rfl,HRk.out,HOk.out,HKk.out⟩
end
end Go.Proofs.YtpdddbobhndbjaaGreat
