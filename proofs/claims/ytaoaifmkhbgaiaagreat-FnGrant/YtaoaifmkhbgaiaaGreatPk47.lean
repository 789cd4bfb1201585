import Derived.Test.YtaoaifmkhbgaiaaGreatPk46
import Derived.Test.YtaoaifmkhbgaiaaGreatPk42
import Derived.Test.YtaoaifmkhbgaiaaGreatPk45
import Derived.Test.YtaoaifmkhbgaiaaGreatPk43
import Derived.Test.YtaoaifmkhbgaiaaGreatPk14
import Derived.Test.YtaoaifmkhbgaiaaGreatPk18
import Derived.Deep.RegionHeld3
namespace Go.Proofs.YtaoaifmkhbgaiaaGreat
open Go.RowKit
set_option linter.unusedVariables false
def Az (w w':World) (e:Ending) (b base gi gd gp:Nat) (kind:Int) (X:(Int × Int) × KM):Prop:=
 ∃pa code,e=.returned (.tuple #[.int .u64 pa,cX code])∧(code=1∨code=2∨code=3)∧X.1=(if code=1 then 0 else if code=2 then eD kind else cQ kind,pa)∧SetAt w' b base gi gd gp X.2∧Keeps w w' gi gd gp
set_option maxRecDepth 20000 in
set_option maxHeartbeats 3200000 in
theorem zf (b base gi gd gp:Nat) (k:KM) (sv:Value) (zs:List Int) (mode:Int) (sum mxr:Bool) (satp kind va pick:Int) (w:World) (hS:SetAt w b base gi gd gp k) (hk:aV k=true) (hki:∀e∈k.i.es,dq e) (hkd:∀e∈k.d.es,dq e) (hko:∀e∈k.p.es,dq e) (hli:k.i.es.length≤1048576) (hld:k.d.es.length≤1048576) (hkl:k.p.es.length≤1048576)
 (hB:SrcAt w sv zs) (hv0:0≤va) (hv1:va≤18446744073709551615) (hr0:0≤satp) (hr1:satp≤18446744073709551615) (hp0:0≤pick) (hp1:pick≤255) (hm:0≤mode∧mode≤2) (hkk:0≤kind∧kind≤2):
 Calls Tryz.prog 59 #[.pointer (some ⟨b,0,none⟩),sv,.agg #[.int .i64 mode,.bool sum,.bool mxr,.int .u64 satp],.int .i64 kind,.int .u64 va,.int .i64 pick] w fun e w'=>Az w w' e b base gi gd gp kind (ak zs mode sum mxr satp k kind va pick):=by
 have hvs:aG k.i false=true∧aG k.d false=true∧aG k.p true=true:=by
  have hk':=hk;simp only [aV,Bool.and_eq_true] at hk';exact ⟨hk'.1.1,hk'.1.2,hk'.2⟩
 obtain ⟨vI,vD,vP⟩:=hvs;have HS:Hid (SetAt w b base gi gd gp k):=hS;have HB:Hid (SrcAt w sv zs):=hB;have HT0:Hid (ak zs mode sum mxr satp k kind va pick=if onM mode satp=false then ((0,va),k) else if bW va=false then ((eD kind,0),k) else if (aO (cM k kind) va (ay satp)).1=true then (ey (aO (cM k kind) va (ay satp)).2.2.2 (aO (cM k kind) va (ay satp)).2.2.1 mode sum mxr kind va,k)
  else (ck (aW zs satp va (aO k.p va (ay satp))) mode sum mxr kind va,if (ck (aW zs satp va (aO k.p va (ay satp))) mode sum mxr kind va).1=0 then p6 ⟨k.i,k.d,cE va satp pick (aW zs satp va (aO k.p va (ay satp))).2.2.2 k.p⟩ kind (cz (cM k kind) (et (aW zs satp va (aO k.p va (ay satp))).2.1 va satp (aW zs satp va (aO k.p va (ay satp))).2.2.1) pick) else ⟨k.i,k.d,cE va satp pick (aW zs satp va (aO k.p va (ay satp))).2.2.2 k.p⟩)):=by
  show _=_;rw [ak,if_neg (by rw [hk];simp;omega)]
 obtain ⟨onb,hon⟩:∃onb,onM mode satp=onb:=⟨_,rfl⟩;obtain ⟨cnb,hcan⟩:∃cnb,bW va=cnb:=⟨_,rfl⟩;have HOn:Hid (∀u:World,Calls Tryz.prog 101 #[.agg #[.int .i64 mode,.bool sum,.bool mxr,.int .u64 satp]] u fun e w'=>e=.returned (.bool onb)∧Below u.heap.size u w'):=fun u=>by
  have:=jz mode sum mxr satp u hr0 hr1;rw [hon] at this;exact this
 have HCn:Hid (∀u:World,Calls Tryz.prog 91 #[.int .u64 va] u fun e w'=>e=.returned (.bool cnb)∧w'=u):=fun u=>by
  have:=iK va u hv0 hv1;rw [hcan] at this;exact this
 have HLv:Hid (∀u:World,Calls Tryz.prog 102 #[.pointer (some ⟨b,0,none⟩),.int .i64 kind] u fun e w'=>e=.returned (.pointer (some ⟨b,if kind=0 then 0 else 3,none⟩))∧w'=u):=fun u=>tB b kind u;have n1:=(Below.refl w.heap.size w).alloc (Nat.le_refl _) (Obj.cells #[.int .i64 mode,.bool sum,.bool mxr,.int .u64 satp] 25);have H1:Hid ((w.alloc (Obj.cells #[.int .i64 mode,.bool sum,.bool mxr,.int .u64 satp] 25)).heap[w.heap.size]?=some (.cells #[.int .i64 mode,.bool sum,.bool mxr,.int .u64 satp] 25 (0,0))):=heap_alloc_new w _;clear hS hB;have HOnE:Hid (onM mode satp=onb):=hon;have HCnE:Hid (bW va=cnb):=hcan;clear hon hcan;go_enter Tryz.func59,Tryz.ntmps59;go_wp2_with fail;generalize w.alloc (Obj.cells #[.int .i64 mode,.bool sum,.bool mxr,.int .u64 satp] 25)=v1 at n1 H1 ⊢;refine (HOn.out v1).mono ?_;rintro e v2 ⟨rfl,n2⟩;have A2:=Below.step n1 n2 (Nat.le_refl _);have H2:=ae H1 n2;clear n1 n2 H1 HOn;cases onb
 ·have hon:=HOnE.out;go_wp2_with fail;refine bodyPost_ret (v:=.tuple #[.int .u64 va,.nilIface]) (by simp [results,Tryz.results59,go_sem]) rfl ⟨va,1,rfl,.inl rfl,?_,?_,Keeps.of_below _ _ _ A2⟩
  ·rw [HT0.out,if_pos hon];simp
  ·rw [HT0.out,if_pos hon];exact HS.out.keep A2
 have hon:=HOnE.out;go_wp2_with fail;refine (HCn.out v2).mono ?_;rintro e v2' ⟨rfl,hv2⟩;rw [hv2];clear hv2 v2';cases cnb
 ·have hcan:=HCnE.out;go_wp2_with fail;refine bodyPost_ret (v:=.tuple #[.int .u64 0,.iface 167 (.agg #[])]) (by simp [results,Tryz.results59,go_sem]) rfl ⟨0,2,rfl,.inr (.inl rfl),?_,?_,Keeps.of_below _ _ _ A2⟩
  ·rw [HT0.out,if_neg (by rw [hon];simp),if_pos hcan];simp
  ·rw [HT0.out,if_neg (by rw [hon];simp),if_pos hcan];exact HS.out.keep A2
 have hcan:=HCnE.out;go_wp2_with fail;refine (HLv.out v2).mono ?_;have A3:=A2;have H3:=H2;clear A2 H2 HLv HCn;obtain ⟨⟨c0,c1,c2,c3⟩,_,_,_,_⟩:=aw H3.out;by_cases hkz:kind=0
 ·subst hkz;rw [if_pos rfl];rintro e v3' ⟨rfl,hv3⟩;rw [hv3];clear hv3 v3';have hpk:cM k 0=k.i:=by unfold cM;rw [if_pos rfl]
  obtain ⟨⟨fd,ix,lv,pt⟩,hX⟩:∃X,aO k.i va (ay satp)=X:=⟨_,rfl⟩;have HX:Hid (aO k.i va (ay satp)=(fd,ix,lv,pt)):=hX;have S3:=HS.out.keep A3;obtain ⟨p0,p1,p2⟩:=S3.cellI;have HF:Hid (∀u,Below w.heap.size w u→Calls Tryz.prog 103 #[.pointer (some ⟨b,0,none⟩),.int .u64 va,.int .u64 (ay satp)] u fun e w'=>e=.returned (.tuple #[.int .i64 ix,.bool fd])∧Below u.heap.size u w'):=fun u hu=>by
   have S:=HS.out.keep hu;obtain ⟨c0,c1,c2⟩:=S.cellI;have:=jY.1 b 0 gi k.i.es.length k.i va (ay satp) u rfl hli vI S.lt c0 c1 c2 (en S.2.1.1) hv0 hv1;rw [hX] at this;exact this
  clear hX;go_wp2_with fail;refine (mA satp v2 hr0 hr1).mono ?_;rintro e u ⟨rfl,hu⟩;rw [hu];clear hu u;go_wp2_with fail;refine (HF.out v2 A3).mono ?_;rintro e v4 ⟨rfl,n4⟩;have A4:=Below.step A3 n4 (Nat.le_refl _);have H4:=ae H3 n4;clear c0 c1 c2 c3 p0 p1 p2 H3 n4;obtain ⟨⟨c0,c1,c2,c3⟩,_,_,_,_⟩:=aw H4.out;cases fd
  ·have hres:ak zs mode sum mxr satp k 0 va pick=(ck (aW zs satp va (aO k.p va (ay satp))) mode sum mxr 0 va,if (ck (aW zs satp va (aO k.p va (ay satp))) mode sum mxr 0 va).1=0 then fp k 0 va satp pick (aW zs satp va (aO k.p va (ay satp))) 1 else fp k 0 va satp pick (aW zs satp va (aO k.p va (ay satp))) 2):=by
    rw [HT0.out,if_neg (by rw [hon];simp),if_neg (by rw [hcan];simp),hpk,if_neg (by rw [HX.out];simp)];simp only [fp,if_true,hpk,show ¬((2:Int)=1) by decide,if_false]
   have HRes:Hid _:=hres;clear hres;go_wp2_with fail;refine (kZ b base gi gd gp k sv zs mode sum mxr satp 0 va pick v4 (HS.out.keep A4) hk hko hli hld hkl (HB.out.keep A4) hv0 hv1 hr0 hr1 hp0 hp1).mono ?_;rintro e v5 hw;obtain ⟨pa,code,rfl,hcode,hans,hset,hkp⟩:=hw;have HT5:Hid (SetAt v5 b base gi gd gp (ak zs mode sum mxr satp k 0 va pick).2):=by
    rw [HRes.out,hans];simp only;rcases hcode with rfl | rfl | rfl
    ·simp only [if_true];exact hset
    ·have hne:=jf 0;simp only [show ¬((2:Int)=1) by decide,if_false,if_true,hne];exact hset
    ·have hne:=iq 0;simp only [show ¬((3:Int)=1) by decide,show ¬((3:Int)=2) by decide,if_false,hne];have:fp k 0 va satp pick (aW zs satp va (aO k.p va (ay satp))) 3=fp k 0 va satp pick (aW zs satp va (aO k.p va (ay satp))) 2:=by simp [fp]
     rw [←this];exact hset
   have HA5:Hid ((ak zs mode sum mxr satp k 0 va pick).1=(if code=1 then 0 else if code=2 then eD 0 else cQ 0,pa)):=by
    show _=_;rw [HRes.out];exact hans
   have HK5:Hid (Keeps w v5 gi gd gp):=(Keeps.of_below _ _ _ A4).trans hkp;obtain ⟨fv,hfv⟩:∃fv,cX code=fv:=⟨_,rfl⟩;have HFv:Hid (cX code=fv):=hfv;rw [hfv];clear hfv hans hset hkp HRes;go_wp2_with fail;exact bodyPost_ret (v:=.tuple #[.int .u64 pa,fv]) (by simp [results,Tryz.results59,go_sem]) rfl ⟨pa,code,by rw [HFv.out],hcode,HA5.out,HT5.out,HK5.out⟩
  ·obtain ⟨q,x,hx,hi,hlv,hpt,_,hxv⟩:=kM k.i va (ay satp) (by rw [HX.out]);rw [HX.out] at hi hlv hpt;simp only at hi hlv hpt;subst hi hlv hpt;have hres:ak zs mode sum mxr satp k 0 va pick=(ey x.pte x.level mode sum mxr 0 va,k):=by
    rw [HT0.out,if_neg (by rw [hon];simp),if_neg (by rw [hcan];simp),hpk,if_pos (by rw [HX.out]),HX.out]
   have HRes:Hid _:=hres;have hok:=hki x (List.mem_of_getElem? hx);have hlx:=dX (dO vI) q x hx hxv;have S4:=HS.out.keep A4;have hql:q<k.i.es.length:=(List.getElem?_eq_some_iff.1 hx).1;obtain ⟨_,_,p2⟩:=S4.cellI;have p2':v4.cell? ⟨b,2,none⟩=some (.slice (some ⟨gi,0,none⟩) k.i.es.length k.i.es.length):=p2;have CE:∀j u,j<6→(fj x)[j]?=some u→v4.cell? ⟨gi,q*6+j,none⟩=some u:=fun j u hj hu=>fR (en S4.2.1.1) rfl q _ hx j u hj hu;have g0:v4.cell? ⟨gi,q*6,none⟩=some (.int .i64 x.level):=CE 0 _ (by omega) rfl;have g1:v4.cell? ⟨gi,q*6+1,none⟩=some (.int .u64 x.tag):=CE 1 _ (by omega) rfl;have g2:v4.cell? ⟨gi,q*6+2,none⟩=some (.int .u64 x.asid):=CE 2 _ (by omega) rfl;have g3:v4.cell? ⟨gi,q*6+3,none⟩=some (.bool x.glob):=CE 3 _ (by omega) rfl;have g4:v4.cell? ⟨gi,q*6+4,none⟩=some (.bool x.valid):=CE 4 _ (by omega) rfl;have g5:v4.cell? ⟨gi,q*6+5,none⟩=some (.int .u64 x.pte):=CE 5 _ (by omega) rfl;have HTL:Hid (∀u:World,Calls Tryz.prog 106 #[.int .u64 x.pte,.int .i64 x.level,.agg #[.int .i64 mode,.bool sum,.bool mxr,.int .u64 satp],.int .i64 0,.int .u64 va] u fun e w'=>e=.returned (.tuple #[.int .u64 (if cH x.pte 0 mode sum mxr=true then eV x.pte x.level va else 0),cX (if cH x.pte 0 mode sum mxr=true then 1 else 2)])∧Below u.heap.size u w'):=fun u=>gf x.pte x.level mode sum mxr satp 0 va u hok.2.2.2.1 hok.2.2.2.2 hv0 hv1 (by omega);clear CE p2 hres hx hxv;have n5:=(Below.refl v4.heap.size v4).alloc (Nat.le_refl _) (Obj.cells #[.int .i64 x.level,.int .u64 x.tag,.int .u64 x.asid,.bool x.glob,.bool x.valid,.int .u64 x.pte] 173);have lw:w.heap.size<v4.heap.size:=(Array.getElem?_eq_some_iff.1 H4.out).1;go_wp2_with fail;generalize v4.alloc (Obj.cells #[.int .i64 x.level,.int .u64 x.tag,.int .u64 x.asid,.bool x.glob,.bool x.valid,.int .u64 x.pte] 173)=v5 at n5 ⊢;refine (HTL.out v5).mono ?_;have A5:=Below.step A4 n5 (Nat.le_refl _);by_cases hgr:cH x.pte 0 mode sum mxr=true
   ·rw [if_pos hgr,if_pos hgr,show cX 1=.nilIface from rfl];rintro e v6 ⟨rfl,N6⟩;have A6:=Below.step A5 N6 (Nat.le_refl _);go_wp2_with fail;refine bodyPost_ret (v:=.tuple #[.int .u64 (eV x.pte x.level va),.nilIface]) (by simp [results,Tryz.results59,go_sem]) rfl ⟨_,1,rfl,.inl rfl,?_,?_,Keeps.of_below _ _ _ A6⟩
    ·rw [HRes.out];simp [ey,hgr]
    ·rw [HRes.out];exact HS.out.keep A6
   ·rw [if_neg hgr,if_neg hgr,show cX 2=.iface 167 (.agg #[]) from rfl];rintro e v6 ⟨rfl,N6⟩;have A6:=Below.step A5 N6 (Nat.le_refl _);go_wp2_with fail;refine bodyPost_ret (v:=.tuple #[.int .u64 0,.iface 167 (.agg #[])]) (by simp [results,Tryz.results59,go_sem]) rfl ⟨0,2,rfl,.inr (.inl rfl),?_,?_,Keeps.of_below _ _ _ A6⟩
    ·rw [HRes.out];simp [ey,hgr]
    ·rw [HRes.out];exact HS.out.keep A6
 ·rw [if_neg hkz];rintro e v3' ⟨rfl,hv3⟩;rw [hv3];clear hv3 v3';have hpk:cM k kind=k.d:=by unfold cM;rw [if_neg hkz]
  obtain ⟨⟨fd,ix,lv,pt⟩,hX⟩:∃X,aO k.d va (ay satp)=X:=⟨_,rfl⟩;have HX:Hid (aO k.d va (ay satp)=(fd,ix,lv,pt)):=hX;have S3:=HS.out.keep A3;obtain ⟨p0,p1,p2⟩:=S3.cellD;have HF:Hid (∀u,Below w.heap.size w u→Calls Tryz.prog 103 #[.pointer (some ⟨b,3,none⟩),.int .u64 va,.int .u64 (ay satp)] u fun e w'=>e=.returned (.tuple #[.int .i64 ix,.bool fd])∧Below u.heap.size u w'):=fun u hu=>by
   have S:=HS.out.keep hu;obtain ⟨c0,c1,c2⟩:=S.cellD;have:=jY.1 b 3 gd k.d.es.length k.d va (ay satp) u rfl hld vD S.lt c0 c1 c2 (en S.2.1.2.1) hv0 hv1;rw [hX] at this;exact this
  clear hX;go_wp2_with fail;refine (mA satp v2 hr0 hr1).mono ?_;rintro e u ⟨rfl,hu⟩;rw [hu];clear hu u;go_wp2_with fail;refine (HF.out v2 A3).mono ?_;rintro e v4 ⟨rfl,n4⟩;have A4:=Below.step A3 n4 (Nat.le_refl _);have H4:=ae H3 n4;clear c0 c1 c2 c3 p0 p1 p2 H3 n4;obtain ⟨⟨c0,c1,c2,c3⟩,_,_,_,_⟩:=aw H4.out;cases fd
  ·have hres:ak zs mode sum mxr satp k kind va pick=(ck (aW zs satp va (aO k.p va (ay satp))) mode sum mxr kind va,if (ck (aW zs satp va (aO k.p va (ay satp))) mode sum mxr kind va).1=0 then fp k kind va satp pick (aW zs satp va (aO k.p va (ay satp))) 1 else fp k kind va satp pick (aW zs satp va (aO k.p va (ay satp))) 2):=by
    rw [HT0.out,if_neg (by rw [hon];simp),if_neg (by rw [hcan];simp),hpk,if_neg (by rw [HX.out];simp)];simp only [fp,if_true,hpk,show ¬((2:Int)=1) by decide,if_false]
   have HRes:Hid _:=hres;clear hres;go_wp2_with fail;refine (kZ b base gi gd gp k sv zs mode sum mxr satp kind va pick v4 (HS.out.keep A4) hk hko hli hld hkl (HB.out.keep A4) hv0 hv1 hr0 hr1 hp0 hp1).mono ?_;rintro e v5 hw;obtain ⟨pa,code,rfl,hcode,hans,hset,hkp⟩:=hw;have HT5:Hid (SetAt v5 b base gi gd gp (ak zs mode sum mxr satp k kind va pick).2):=by
    rw [HRes.out,hans];simp only;rcases hcode with rfl | rfl | rfl
    ·simp only [if_true];exact hset
    ·have hne:=jf kind;simp only [show ¬((2:Int)=1) by decide,if_false,if_true,hne];exact hset
    ·have hne:=iq kind;simp only [show ¬((3:Int)=1) by decide,show ¬((3:Int)=2) by decide,if_false,hne];have:fp k kind va satp pick (aW zs satp va (aO k.p va (ay satp))) 3=fp k kind va satp pick (aW zs satp va (aO k.p va (ay satp))) 2:=by simp [fp]
     rw [←this];exact hset
   have HA5:Hid ((ak zs mode sum mxr satp k kind va pick).1=(if code=1 then 0 else if code=2 then eD kind else cQ kind,pa)):=by
    show _=_;rw [HRes.out];exact hans
   have HK5:Hid (Keeps w v5 gi gd gp):=(Keeps.of_below _ _ _ A4).trans hkp;obtain ⟨fv,hfv⟩:∃fv,cX code=fv:=⟨_,rfl⟩;have HFv:Hid (cX code=fv):=hfv;rw [hfv];clear hfv hans hset hkp HRes;go_wp2_with fail;exact bodyPost_ret (v:=.tuple #[.int .u64 pa,fv]) (by simp [results,Tryz.results59,go_sem]) rfl ⟨pa,code,by rw [HFv.out],hcode,HA5.out,HT5.out,HK5.out⟩
  ·obtain ⟨q,x,hx,hi,hlv,hpt,_,hxv⟩:=kM k.d va (ay satp) (by rw [HX.out]);rw [HX.out] at hi hlv hpt;simp only at hi hlv hpt;subst hi hlv hpt;have hres:ak zs mode sum mxr satp k kind va pick=(ey x.pte x.level mode sum mxr kind va,k):=by
    rw [HT0.out,if_neg (by rw [hon];simp),if_neg (by rw [hcan];simp),hpk,if_pos (by rw [HX.out]),HX.out]
   have HRes:Hid _:=hres;have hok:=hkd x (List.mem_of_getElem? hx);have hlx:=dX (dO vD) q x hx hxv;have S4:=HS.out.keep A4;have hql:q<k.d.es.length:=(List.getElem?_eq_some_iff.1 hx).1;obtain ⟨_,_,p2⟩:=S4.cellD;have p2':v4.cell? ⟨b,5,none⟩=some (.slice (some ⟨gd,0,none⟩) k.d.es.length k.d.es.length):=p2;have CE:∀j u,j<6→(fj x)[j]?=some u→v4.cell? ⟨gd,q*6+j,none⟩=some u:=fun j u hj hu=>fR (en S4.2.1.2.1) rfl q _ hx j u hj hu;have g0:v4.cell? ⟨gd,q*6,none⟩=some (.int .i64 x.level):=CE 0 _ (by omega) rfl;have g1:v4.cell? ⟨gd,q*6+1,none⟩=some (.int .u64 x.tag):=CE 1 _ (by omega) rfl;have g2:v4.cell? ⟨gd,q*6+2,none⟩=some (.int .u64 x.asid):=CE 2 _ (by omega) rfl;have g3:v4.cell? ⟨gd,q*6+3,none⟩=some (.bool x.glob):=CE 3 _ (by omega) rfl;have g4:v4.cell? ⟨gd,q*6+4,none⟩=some (.bool x.valid):=CE 4 _ (by omega) rfl;have g5:v4.cell? ⟨gd,q*6+5,none⟩=some (.int .u64 x.pte):=CE 5 _ (by omega) rfl;have HTL:Hid (∀u:World,Calls Tryz.prog 106 #[.int .u64 x.pte,.int .i64 x.level,.agg #[.int .i64 mode,.bool sum,.bool mxr,.int .u64 satp],.int .i64 kind,.int .u64 va] u fun e w'=>e=.returned (.tuple #[.int .u64 (if cH x.pte kind mode sum mxr=true then eV x.pte x.level va else 0),cX (if cH x.pte kind mode sum mxr=true then 1 else 2)])∧Below u.heap.size u w'):=fun u=>gf x.pte x.level mode sum mxr satp kind va u hok.2.2.2.1 hok.2.2.2.2 hv0 hv1 (by omega);clear CE p2 hres hx hxv;have n5:=(Below.refl v4.heap.size v4).alloc (Nat.le_refl _) (Obj.cells #[.int .i64 x.level,.int .u64 x.tag,.int .u64 x.asid,.bool x.glob,.bool x.valid,.int .u64 x.pte] 173);have lw:w.heap.size<v4.heap.size:=(Array.getElem?_eq_some_iff.1 H4.out).1;go_wp2_with fail;generalize v4.alloc (Obj.cells #[.int .i64 x.level,.int .u64 x.tag,.int .u64 x.asid,.bool x.glob,.bool x.valid,.int .u64 x.pte] 173)=v5 at n5 ⊢;refine (HTL.out v5).mono ?_;have A5:=Below.step A4 n5 (Nat.le_refl _);by_cases hgr:cH x.pte kind mode sum mxr=true
   ·rw [if_pos hgr,if_pos hgr,show cX 1=.nilIface from rfl];rintro e v6 ⟨rfl,N6⟩;have A6:=Below.step A5 N6 (Nat.le_refl _);go_wp2_with fail;refine bodyPost_ret (v:=.tuple #[.int .u64 (eV x.pte x.level va),.nilIface]) (by simp [results,Tryz.results59,go_sem]) rfl ⟨_,1,rfl,.inl rfl,?_,?_,Keeps.of_below _ _ _ A6⟩
    ·rw [HRes.out];simp [ey,hgr]
    ·rw [HRes.out];exact HS.out.keep A6
   ·rw [if_neg hgr,if_neg hgr,show cX 2=.iface 167 (.agg #[]) from rfl];rintro e v6 ⟨rfl,N6⟩;have A6:=Below.step A5 N6 (Nat.le_refl _);go_wp2_with fail;refine bodyPost_ret (v:=.tuple #[.int .u64 0,.iface 167 (.agg #[])]) (by simp [results,Tryz.results59,go_sem]) rfl ⟨0,2,rfl,.inr (.inl rfl),?_,?_,Keeps.of_below _ _ _ A6⟩
    ·rw [HRes.out];simp [ey,hgr]
    ·rw [HRes.out];exact HS.out.keep A6
end Go.Proofs.YtaoaifmkhbgaiaaGreat

namespace Go.Proofs.YtaoaifmkhbgaiaaGreat
open Go.RowKit
set_option linter.unusedVariables false
theorem ot (v:Value) (t:TlbM) (w:World) (h:TlbAt w v t):
 Calls Tryz.prog 95 #[v] w fun e w'=>(∃s y l n c,e=.returned (.tuple #[.agg #[.int .i64 s,.int .i64 y,.slice l n c],.bool (aG t false)])∧(aG t false=true→∃g,s=t.sets∧y=t.ways∧l=some ⟨g,0,none⟩∧n=t.es.length∧c=t.es.length∧w'.ownsRow w.heap.size 173 6 (.slice (some ⟨g,0,none⟩) t.es.length t.es.length) t.es.length (aH t.es)))∧Below w.heap.size w w':=by
 refine (eO.1 v t w h).mono ?_;rintro e w' ⟨hc,nb⟩;refine ⟨?_,nb⟩;cases hv:aG t false
 ·rw [hv] at hc;dsimp only [cond] at hc;exact ⟨_,_,_,_,_,hc,fun h=>by cases h⟩
 ·rw [hv] at hc;dsimp only [cond] at hc;obtain ⟨g,he,ho⟩:=hc;exact ⟨_,_,_,_,_,he,fun _=>⟨g,rfl,rfl,rfl,rfl,rfl,ho⟩⟩
theorem tX (v:Value) (t:TlbM) (w:World) (h:TlbAt w v t):
 Calls Tryz.prog 98 #[v] w fun e w'=>(∃s y l n c,e=.returned (.tuple #[.agg #[.int .i64 s,.int .i64 y,.slice l n c],.bool (aG t true)])∧(aG t true=true→∃g,s=t.sets∧y=t.ways∧l=some ⟨g,0,none⟩∧n=t.es.length∧c=t.es.length∧w'.ownsRow w.heap.size 183 6 (.slice (some ⟨g,0,none⟩) t.es.length t.es.length) t.es.length (aH t.es)))∧Below w.heap.size w w':=by
 refine (eO.2 v t w h).mono ?_;rintro e w' ⟨hc,nb⟩;refine ⟨?_,nb⟩;cases hv:aG t true
 ·rw [hv] at hc;dsimp only [cond] at hc;exact ⟨_,_,_,_,_,hc,fun h=>by cases h⟩
 ·rw [hv] at hc;dsimp only [cond] at hc;obtain ⟨g,he,ho⟩:=hc;exact ⟨_,_,_,_,_,he,fun _=>⟨g,rfl,rfl,rfl,rfl,rfl,ho⟩⟩
def zd (base:Nat) (w:World) (e:Ending) (k:KM):Prop:=∃gi gd gp,e=.returned (.tuple #[.agg (sl k gi gd gp),.bool true])∧RowsAt w base gi gd gp k
set_option maxRecDepth 20000 in
set_option maxHeartbeats 3200000 in
theorem qU (v:Value) (k:KM) (w:World) (h:KAt w v k):
 Calls Tryz.prog 56 #[v] w fun e w'=>cond (aV k) (zd w.heap.size w' e k) (e=.returned (.tuple #[.agg #[.int .i64 0,.int .i64 0,.slice none 0 0,.int .i64 0,.int .i64 0,.slice none 0 0,.int .i64 0,.int .i64 0,.slice none 0 0],.bool false]))∧Below w.heap.size w w':=by
 obtain ⟨a1,c1,a2,c2,a3,c3,rfl,T1,T2,T3⟩:=h;obtain ⟨q1,hq1⟩:∃q,aG k.i false=q:=⟨_,rfl⟩;obtain ⟨q2,hq2⟩:∃q,aG k.d false=q:=⟨_,rfl⟩;obtain ⟨q3,hq3⟩:∃q,aG k.p true=q:=⟨_,rfl⟩;have HQ1:Hid (aG k.i false=q1):=hq1;have HQ2:Hid (aG k.d false=q2):=hq2;have HQ3:Hid (aG k.p true=q3):=hq3;have hgood:aV k=(q1 && q2 && q3):=by unfold aV;rw [hq1,hq2,hq3]
 rw [hgood];clear hgood hq1 hq2 hq3;have HT1:Hid (∀u,Below w.heap.size w u→TlbAt u (.agg #[.int .i64 k.i.sets,.int .i64 k.i.ways,.slice a1 k.i.es.length c1]) k.i):=fun u hu=>T1.keep hu;have HT2:Hid (∀u,Below w.heap.size w u→TlbAt u (.agg #[.int .i64 k.d.sets,.int .i64 k.d.ways,.slice a2 k.d.es.length c2]) k.d):=fun u hu=>T2.keep hu;have HT3:Hid (∀u,Below w.heap.size w u→TlbAt u (.agg #[.int .i64 k.p.sets,.int .i64 k.p.ways,.slice a3 k.p.es.length c3]) k.p):=fun u hu=>T3.keep hu;clear T1 T2 T3;have n1:=((Below.refl w.heap.size w).alloc (Nat.le_refl _) (Obj.cells #[.int .i64 k.i.sets,.int .i64 k.i.ways,.slice a1 k.i.es.length c1,.int .i64 k.d.sets,.int .i64 k.d.ways,.slice a2 k.d.es.length c2,.int .i64 k.p.sets,.int .i64 k.p.ways,.slice a3 k.p.es.length c3] 30)).alloc (by simp) (Obj.cells #[.int .i64 0,.int .i64 0,.slice none 0 0,.int .i64 0,.int .i64 0,.slice none 0 0,.int .i64 0,.int .i64 0,.slice none 0 0] 111);have H1:Hid (((w.alloc (Obj.cells #[.int .i64 k.i.sets,.int .i64 k.i.ways,.slice a1 k.i.es.length c1,.int .i64 k.d.sets,.int .i64 k.d.ways,.slice a2 k.d.es.length c2,.int .i64 k.p.sets,.int .i64 k.p.ways,.slice a3 k.p.es.length c3] 30)).alloc (Obj.cells #[.int .i64 0,.int .i64 0,.slice none 0 0,.int .i64 0,.int .i64 0,.slice none 0 0,.int .i64 0,.int .i64 0,.slice none 0 0] 111)).heap[w.heap.size]?=some (.cells #[.int .i64 k.i.sets,.int .i64 k.i.ways,.slice a1 k.i.es.length c1,.int .i64 k.d.sets,.int .i64 k.d.ways,.slice a2 k.d.es.length c2,.int .i64 k.p.sets,.int .i64 k.p.ways,.slice a3 k.p.es.length c3] 30 (0,0))):=by
  show _=_;rw [heap_alloc_old _ _ (by simp)];exact heap_alloc_new w _
 have H2:Hid (((w.alloc (Obj.cells #[.int .i64 k.i.sets,.int .i64 k.i.ways,.slice a1 k.i.es.length c1,.int .i64 k.d.sets,.int .i64 k.d.ways,.slice a2 k.d.es.length c2,.int .i64 k.p.sets,.int .i64 k.p.ways,.slice a3 k.p.es.length c3] 30)).alloc (Obj.cells #[.int .i64 0,.int .i64 0,.slice none 0 0,.int .i64 0,.int .i64 0,.slice none 0 0,.int .i64 0,.int .i64 0,.slice none 0 0] 111)).heap[w.heap.size+1]?=some (.cells #[.int .i64 0,.int .i64 0,.slice none 0 0,.int .i64 0,.int .i64 0,.slice none 0 0,.int .i64 0,.int .i64 0,.slice none 0 0] 111 (0,0))):=by
  have:=heap_alloc_new (w.alloc (Obj.cells #[.int .i64 k.i.sets,.int .i64 k.i.ways,.slice a1 k.i.es.length c1,.int .i64 k.d.sets,.int .i64 k.d.ways,.slice a2 k.d.es.length c2,.int .i64 k.p.sets,.int .i64 k.p.ways,.slice a3 k.p.es.length c3] 30)) (Obj.cells #[.int .i64 0,.int .i64 0,.slice none 0 0,.int .i64 0,.int .i64 0,.slice none 0 0,.int .i64 0,.int .i64 0,.slice none 0 0] 111);simp only [World.size_alloc] at this;exact this
 have l1:((w.alloc (Obj.cells #[.int .i64 k.i.sets,.int .i64 k.i.ways,.slice a1 k.i.es.length c1,.int .i64 k.d.sets,.int .i64 k.d.ways,.slice a2 k.d.es.length c2,.int .i64 k.p.sets,.int .i64 k.p.ways,.slice a3 k.p.es.length c3] 30)).alloc (Obj.cells #[.int .i64 0,.int .i64 0,.slice none 0 0,.int .i64 0,.int .i64 0,.slice none 0 0,.int .i64 0,.int .i64 0,.slice none 0 0] 111)).heap.size=w.heap.size+2:=by simp
 go_enter Tryz.func56,Tryz.ntmps56;go_wp2_with fail;generalize ((w.alloc (Obj.cells #[.int .i64 k.i.sets,.int .i64 k.i.ways,.slice a1 k.i.es.length c1,.int .i64 k.d.sets,.int .i64 k.d.ways,.slice a2 k.d.es.length c2,.int .i64 k.p.sets,.int .i64 k.p.ways,.slice a3 k.p.es.length c3] 30)).alloc (Obj.cells #[.int .i64 0,.int .i64 0,.slice none 0 0,.int .i64 0,.int .i64 0,.slice none 0 0,.int .i64 0,.int .i64 0,.slice none 0 0] 111))=u0 at n1 H1 H2 l1 ⊢;have A1:=n1;have I1:=H1;have J1:=H2;clear n1 H1 H2;refine (ot _ k.i u0 (HT1.out u0 A1)).mono ?_;rw [HQ1.out];rintro e z1 ⟨⟨s1,y1,t1,x1,cc1,rfl,hv1⟩,nz1⟩;have HV1:Hid _:=hv1;have m1:=nz1.alloc nz1.size (Obj.cells #[.int .i64 s1,.int .i64 y1,.slice t1 x1 cc1] 106);have mz1:=(Below.refl z1.heap.size z1).alloc (Nat.le_refl _) (Obj.cells #[.int .i64 s1,.int .i64 y1,.slice t1 x1 cc1] 106);have B11:Hid ((z1.alloc (Obj.cells #[.int .i64 s1,.int .i64 y1,.slice t1 x1 cc1] 106)).heap[z1.heap.size]?=some (.cells #[.int .i64 s1,.int .i64 y1,.slice t1 x1 cc1] 106 (0,0))):=heap_alloc_new z1 _;have A2:=Below.step A1 m1 (Nat.le_refl _);have J2:=ae J1 m1;have I2:=ae I1 m1;have IZ1:=cT (ae I1 nz1).out;have lz1:w.heap.size<z1.heap.size:=(Array.getElem?_eq_some_iff.1 (ae I1 nz1).out).1;have ls1:=nz1.size;have lt1:z1.heap.size<(z1.alloc (Obj.cells #[.int .i64 s1,.int .i64 y1,.slice t1 x1 cc1] 106)).heap.size:=by simp
 obtain ⟨b0,b1,b2,b3,b4,b5,b6,b7,b8⟩:=IZ1;clear hv1 nz1;go_wp2_with fail;generalize z1.alloc (Obj.cells #[.int .i64 s1,.int .i64 y1,.slice t1 x1 cc1] 106)=u1 at m1 mz1 B11 A2 J2 I2 lt1 ⊢;clear b0 b1 b2 b3 b4 b5 b6 b7 b8;refine (ot _ k.d u1 (HT2.out u1 A2)).mono ?_;rw [HQ2.out];rintro e z2 ⟨⟨s2,y2,t2,x2,cc2,rfl,hv2⟩,nz2⟩;have HV2:Hid _:=hv2;have m2:=nz2.alloc nz2.size (Obj.cells #[.int .i64 s2,.int .i64 y2,.slice t2 x2 cc2] 106);have mz2:=(Below.refl z2.heap.size z2).alloc (Nat.le_refl _) (Obj.cells #[.int .i64 s2,.int .i64 y2,.slice t2 x2 cc2] 106);have B22:Hid ((z2.alloc (Obj.cells #[.int .i64 s2,.int .i64 y2,.slice t2 x2 cc2] 106)).heap[z2.heap.size]?=some (.cells #[.int .i64 s2,.int .i64 y2,.slice t2 x2 cc2] 106 (0,0))):=heap_alloc_new z2 _;have A3:=Below.step A2 m2 (Nat.le_refl _);have J3:=ae J2 m2;have I3:=ae I2 m2;have B21:=ae B11 m2;have IZ2:=cT (ae I2 nz2).out;have lz2:w.heap.size<z2.heap.size:=(Array.getElem?_eq_some_iff.1 (ae I2 nz2).out).1;have ls2:=nz2.size;have lt2:z2.heap.size<(z2.alloc (Obj.cells #[.int .i64 s2,.int .i64 y2,.slice t2 x2 cc2] 106)).heap.size:=by simp
 obtain ⟨b0,b1,b2,b3,b4,b5,b6,b7,b8⟩:=IZ2;clear hv2 nz2;go_wp2_with fail;generalize z2.alloc (Obj.cells #[.int .i64 s2,.int .i64 y2,.slice t2 x2 cc2] 106)=u2 at m2 mz2 B22 A3 J3 I3 lt2 B21 ⊢;clear b0 b1 b2 b3 b4 b5 b6 b7 b8;refine (tX _ k.p u2 (HT3.out u2 A3)).mono ?_;rw [HQ3.out];rintro e z3 ⟨⟨s3,y3,t3,x3,cc3,rfl,hv3⟩,nz3⟩;have HV3:Hid _:=hv3;have A4:=Below.step A3 nz3 (Nat.le_refl _);have J4:=ae J3 nz3;have B31:=ae B21 nz3;have B32:=ae B22 nz3;have q31:z1.heap.size<z3.heap.size:=(Array.getElem?_eq_some_iff.1 B31.out).1;have q32:z2.heap.size<z3.heap.size:=(Array.getElem?_eq_some_iff.1 B32.out).1;have q33:w.heap.size+1<z3.heap.size:=(Array.getElem?_eq_some_iff.1 J4.out).1;clear hv3;obtain ⟨p0,p1,p2⟩:=(ao B31.out).1;obtain ⟨p3,p4,p5⟩:=(ao B32.out).1;obtain ⟨d0,d1,d2,d3,d4,d5,d6,d7,d8⟩:=cT J4.out;have ff:=pV J4.out;have f0:=ff 0;have f1:=ff 1;have f2:=ff 2;have f3:=ff 3;have f4:=ff 4;have f5:=ff 5;have f6:=ff 6;have f7:=ff 7;have f8:=ff 8;clear ff;have r31:z1.heap.size≠z3.heap.size:=by omega
 have r32:z2.heap.size≠z3.heap.size:=by omega
 have r33:w.heap.size+1≠z3.heap.size:=by omega
 by_cases hall:q1=true∧q2=true∧q3=true
 ·obtain ⟨rfl,rfl,rfl⟩:=hall;obtain ⟨gi,rfl,rfl,rfl,rfl,rfl,oi⟩:=HV1.out (by trivial);obtain ⟨gd,rfl,rfl,rfl,rfl,rfl,od⟩:=HV2.out (by trivial);obtain ⟨gp,rfl,rfl,rfl,rfl,rfl,op⟩:=HV3.out (by trivial);have lgi:=(bI oi).2;have lgd:=(bI od).2;have lgp:=(bI op).2;simp only at lgi lgd lgp;have oi':=aj (aj (aj oi mz1) m2) nz3;have od':=aj (aj od mz2) nz3;have s1':=m2.size;have s2':=nz3.size;have s3':=m1.size;go_wp2_with fail;refine bodyPost_ret (v:=.tuple #[.agg (sl k gi gd gp),.bool true]) (by simp [results,Tryz.results56,go_sem,sl,d0,d1,d2,d3,d4,d5,d6,d7,d8,q33]) rfl ⟨⟨gi,gd,gp,rfl,?_⟩,(An A4 (by omega) _ _ _ _ _ _ _ _ _).alloc (by simp;omega) _⟩;have g9:=gb9 z3 (w.heap.size+1);exact RowsAt.keep ⟨aT (bZ oi' (g9 _ _ _ _ _ _ _ _ _) (by omega)) (by omega),aT (bZ od' (g9 _ _ _ _ _ _ _ _ _) (by omega)) (by omega),aT (bZ op (g9 _ _ _ _ _ _ _ _ _) (by omega)) (by omega),by omega,by omega,by omega⟩ ((Below.refl _ _).alloc (Nat.le_refl _) _)
 ·have hall':(q1 && q2 && q3)=false:=by
   cases q1 <;> cases q2 <;> cases q3 <;> simp at hall ⊢
  cases q1 <;> cases q2 <;> cases q3;all_goals first | (exfalso;simp at hall';done) | skip
  all_goals
   go_wp2_with fail;exact bodyPost_ret (v:=.tuple #[.agg #[.int .i64 0,.int .i64 0,.slice none 0 0,.int .i64 0,.int .i64 0,.slice none 0 0,.int .i64 0,.int .i64 0,.slice none 0 0],.bool false]) (by simp [results,Tryz.results56,go_sem,d0,d1,d2,d3,d4,d5,d6,d7,d8,q33]) rfl ⟨rfl,(An A4 (by omega) _ _ _ _ _ _ _ _ _).alloc (by simp;omega) _⟩
end Go.Proofs.YtaoaifmkhbgaiaaGreat

namespace Go.Proofs.YtaoaifmkhbgaiaaGreat
open Go.RowKit
set_option linter.unusedVariables false
def mD (s t:Value):Prop:=∀g,s.ownBlock=some g→t.ownBlock≠some g
def Bg (base:Nat) (w:World) (v:Value) (k:KM):Prop:=
 ∃g1 c1 g2 c2 g3 c3,v=.agg #[.int .i64 k.i.sets,.int .i64 k.i.ways,.slice (some ⟨g1,0,none⟩) k.i.es.length c1,.int .i64 k.d.sets,.int .i64 k.d.ways,.slice (some ⟨g2,0,none⟩) k.d.es.length c2,.int .i64 k.p.sets,.int .i64 k.p.ways,.slice (some ⟨g3,0,none⟩) k.p.es.length c3]∧
  w.ownsRow base 62 6 (.slice (some ⟨g1,0,none⟩) k.i.es.length c1) k.i.es.length (aL k.i.es)∧w.ownsRow base 62 6 (.slice (some ⟨g2,0,none⟩) k.d.es.length c2) k.d.es.length (aL k.d.es)∧w.ownsRow base 62 6 (.slice (some ⟨g3,0,none⟩) k.p.es.length c3) k.p.es.length (aL k.p.es)∧
  g1≠g2∧g1≠g3∧g2≠g3
def TransSep (base:Nat) (w:World) (v:Value) (r:(Int × Int) × KM):Prop:=
 ∃s1 s2 s3,v=.agg #[.int .i64 r.1.1,.int .u64 r.1.2,.int .i64 r.2.i.sets,.int .i64 r.2.i.ways,s1,.int .i64 r.2.d.sets,.int .i64 r.2.d.ways,s2,.int .i64 r.2.p.sets,.int .i64 r.2.p.ways,s3]∧
  w.ownsRow base 62 6 s1 r.2.i.es.length (aL r.2.i.es)∧w.ownsRow base 62 6 s2 r.2.d.es.length (aL r.2.d.es)∧w.ownsRow base 62 6 s3 r.2.p.es.length (aL r.2.p.es)∧
  mD s1 s2∧mD s1 s3∧mD s2 s3
theorem TransSep.own {base:Nat} {w:World} {v:Value} {r:(Int × Int) × KM} (h:TransSep base w v r):TransOwn base w v r:=by
 obtain ⟨s1,s2,s3,h0,h1,h2,h3,_⟩:=h;exact ⟨s1,s2,s3,h0,h1,h2,h3⟩
theorem ry {g1 g2 n1 n2 c1 c2:Nat} (h:g1≠g2):mD (.slice (some ⟨g1,0,none⟩) n1 c1) (.slice (some ⟨g2,0,none⟩) n2 c2):=fun g h1 h2=>by
 simp [Value.ownBlock] at h1 h2;omega
end Go.Proofs.YtaoaifmkhbgaiaaGreat

namespace Go.Proofs.YtaoaifmkhbgaiaaGreat
open Go.RowKit
set_option linter.unusedVariables false
set_option maxRecDepth 20000 in
set_option maxHeartbeats 3200000 in
theorem wY (b base gi gd gp:Nat) (k:KM) (w:World) (hS:SetAt w b base gi gd gp k) (hli:k.i.es.length≤1048576) (hld:k.d.es.length≤1048576) (hkl:k.p.es.length≤1048576):
 Calls Tryz.prog 61 #[.pointer (some ⟨b,0,none⟩)] w fun e w'=>(∃x,e=.returned x∧Bg w.heap.size w' x k)∧Below w.heap.size w w':=by
 have HS:Hid (SetAt w b base gi gd gp k):=hS;have hb:=hS.lt;have n1:=(Below.refl w.heap.size w).alloc (Nat.le_refl _) (Obj.cells #[.int .i64 0,.int .i64 0,.slice none 0 0,.int .i64 0,.int .i64 0,.slice none 0 0,.int .i64 0,.int .i64 0,.slice none 0 0] 30);have H1:Hid ((w.alloc (Obj.cells #[.int .i64 0,.int .i64 0,.slice none 0 0,.int .i64 0,.int .i64 0,.slice none 0 0,.int .i64 0,.int .i64 0,.slice none 0 0] 30)).heap[w.heap.size]?=some (.cells #[.int .i64 0,.int .i64 0,.slice none 0 0,.int .i64 0,.int .i64 0,.slice none 0 0,.int .i64 0,.int .i64 0,.slice none 0 0] 30 (0,0))):=heap_alloc_new w _;have l1:w.heap.size<(w.alloc (Obj.cells #[.int .i64 0,.int .i64 0,.slice none 0 0,.int .i64 0,.int .i64 0,.slice none 0 0,.int .i64 0,.int .i64 0,.slice none 0 0] 30)).heap.size:=by simp
 have HI:Hid (∀u,Below w.heap.size w u→Calls Tryz.prog 97 #[.pointer (some ⟨b,0,none⟩)] u fun e w'=>(∃x,e=.returned x∧TlbOwn u.heap.size w' x k.i)∧Below u.heap.size u w'):=fun u hu=>by
  have S:=HS.out.keep hu;obtain ⟨c0,c1,c2⟩:=S.cellI;exact jl.1 b 0 gi k.i.es.length k.i u rfl hli S.lt (bI S.2.1.1).2.2 c0 c1 c2 (en S.2.1.1)
 have HD:Hid (∀u,Below w.heap.size w u→Calls Tryz.prog 97 #[.pointer (some ⟨b,3,none⟩)] u fun e w'=>(∃x,e=.returned x∧TlbOwn u.heap.size w' x k.d)∧Below u.heap.size u w'):=fun u hu=>by
  have S:=HS.out.keep hu;obtain ⟨c0,c1,c2⟩:=S.cellD;exact jl.1 b 3 gd k.d.es.length k.d u rfl hld S.lt (bI S.2.1.2.1).2.2 c0 c1 c2 (en S.2.1.2.1)
 have HP:Hid (∀u,Below w.heap.size w u→Calls Tryz.prog 100 #[.pointer (some ⟨b,6,none⟩)] u fun e w'=>(∃x,e=.returned x∧TlbOwn u.heap.size w' x k.p)∧Below u.heap.size u w'):=fun u hu=>by
  have S:=HS.out.keep hu;obtain ⟨c0,c1,c2⟩:=S.cellP;exact jl.2 b 6 gp k.p.es.length k.p u rfl hkl S.lt (bI S.2.1.2.2.1).2.2 c0 c1 c2 (en S.2.1.2.2.1)
 have HC:Hid (∀u,Below w.heap.size w u→u.cell? ⟨b,0,none⟩=some (.int .i64 k.i.sets)):=fun u hu=>(HS.out.keep hu).cellI.1;have nb1:b≠w.heap.size:=by omega
 have nb2:w.heap.size≠b:=by omega
 clear hS;go_enter Tryz.func61,Tryz.ntmps61;go_wp2_with fail;generalize w.alloc (Obj.cells #[.int .i64 0,.int .i64 0,.slice none 0 0,.int .i64 0,.int .i64 0,.slice none 0 0,.int .i64 0,.int .i64 0,.slice none 0 0] 30)=v1 at n1 H1 l1 ⊢;have D1:Below v1.heap.size v1 v1.drew:=(Below.refl _ _).drew;have A1:=Below.step n1 D1 (Nat.le_refl _);have cb:=HC.out v1 n1;have HJ1:=ae H1 D1;go_region_held3 (fun w'=>w'.cell? ⟨b,0,none⟩=some (.int .i64 k.i.sets)) (go_keep)
  (first
  | (go_at_call 97;(with_reducible refine (HI.out v1.drew A1).mono ?_);rintro e y1 ⟨⟨x1,rfl,hx1⟩,m1⟩;have A2:=Below.step A1 m1 (Nat.le_refl _);have cb1:=HC.out y1 A2;have HJ2:=ae HJ1 m1;obtain ⟨g1,e1,rfl,o1⟩:=hx1;have O1:Hid _:=o1;clear o1)
  | (go_at_call 97;(with_reducible refine (HD.out y1 A2).mono ?_);rintro e y2 ⟨⟨x2,rfl,hx2⟩,m2⟩;have A3:=Below.step A2 m2 (Nat.le_refl _);have cb2:=HC.out y2 A3;have HJ3:=ae HJ2 m2;obtain ⟨g2,e2,rfl,o2⟩:=hx2;have O2:Hid _:=o2;clear o2)
  | (go_at_call 100;(with_reducible refine (HP.out y2 A3).mono ?_);rintro e y3 ⟨⟨x3,rfl,hx3⟩,m3⟩;have A4:=Below.step A3 m3 (Nat.le_refl _);have cb3:=HC.out y3 A4;have HJ4:=ae HJ3 m3;obtain ⟨g3,e3,rfl,o3⟩:=hx3;have O3:Hid _:=o3;have jj:=cT HJ4.out;obtain ⟨j0,j1,j2,j3,j4,j5,j6,j7,j8⟩:=jj;have ff:=pV HJ4.out;have f0:=ff 0;have f1:=ff 1;have f2:=ff 2;have f3:=ff 3;have f4:=ff 4;have f5:=ff 5;have f6:=ff 6;have f7:=ff 7;have f8:=ff 8;clear o3 ff))
 all_goals
  go_wp2_with fail;have q1:=(bI O1.out).2;have q2:=(bI O2.out).2;have q3:=(bI O3.out).2;have z1:=m1.size;have z2:=m2.size;have z0:=D1.size;simp only at q1 q2 q3;have g9:=gb9 y3 w.heap.size;refine bodyPost_ret (v:=.agg #[.int .i64 k.i.sets,.int .i64 k.i.ways,.slice (some ⟨g1,0,none⟩) k.i.es.length e1,.int .i64 k.d.sets,.int .i64 k.d.ways,.slice (some ⟨g2,0,none⟩) k.d.es.length e2,.int .i64 k.p.sets,.int .i64 k.p.ways,.slice (some ⟨g3,0,none⟩) k.p.es.length e3]) (by simp [results,Tryz.results61,go_sem,j0,j1,j2,j3,j4,j5,j6,j7,j8]) rfl ⟨⟨_,rfl,g1,e1,g2,e2,g3,e3,rfl,?_,?_,?_,by omega,by omega,by omega⟩,An A4 (Nat.le_refl _) _ _ _ _ _ _ _ _ _⟩
  ·exact aT (bZ (aj (aj O1.out m2) m3) (g9 _ _ _ _ _ _ _ _ _) (by omega)) (by omega)
  ·exact aT (bZ (aj O2.out m3) (g9 _ _ _ _ _ _ _ _ _) (by omega)) (by omega)
  ·exact aT (bZ O3.out (g9 _ _ _ _ _ _ _ _ _) (by omega)) (by omega)
end Go.Proofs.YtaoaifmkhbgaiaaGreat
