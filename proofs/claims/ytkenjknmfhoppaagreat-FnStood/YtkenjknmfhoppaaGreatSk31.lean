import Derived.Test.YtkenjknmfhoppaaGreatSk30
namespace Go.Proofs.YtkenjknmfhoppaaGreat
open Go.RowKit
set_option linter.unusedVariables false
set_option maxHeartbeats 6400000
set_option maxRecDepth 20000
def FH (w w':World) (e:Ending) (b base gi gd gp:Nat) (kind:Int) (X:(Int × Int) × KM):Prop:=
 ∃pa code,e=.returned (.tuple #[VU pa,cM code])∧(code=1∨code=2∨code=3)∧X.1=(if code=1 then 0 else if code=2 then eR kind else bP kind,pa)∧SetM w' b base gi gd gp X.2∧Keeps w w' gi gd gp
theorem FI (b base gi gd gp:Nat) (k:KM) (sv:Value) (zs:List Int) (mode:Int) (sum mxr:Bool) (satp kind va pick:Int) (w:World) (hS:SetM w b base gi gd gp k) (hk:bJ k=true) (hki:∀e∈k.i.es,fq e) (hkd:∀e∈k.d.es,fq e) (hko:∀e∈k.p.es,fq e) (hli:k.i.es.length<=1048576) (hld:k.d.es.length<=1048576) (hkl:k.p.es.length<=1048576)
 (hB:SrcAt w sv zs) (hv0:0<=va) (hv1:va<=18446744073709551615) (hr0:0<=satp) (hr1:satp<=18446744073709551615) (hp0:0<=pick) (hp1:pick<=255) (hm:0<=mode∧mode<=2) (hkk:0<=kind∧kind<=2):
 Calls Tryz.prog 227 #[PT b 20,sv,.agg #[VI mode,.bool sum,.bool mxr,VU satp],VI kind,VU va,VI pick] w fun e w'=>FH w w' e b base gi gd gp kind (cy zs mode sum mxr satp k kind va pick):=by
 have hvs:aR k.i false=true∧aR k.d false=true∧aR k.p true=true:=by
  have hk':=hk;simp only [bJ,Bool.and_eq_true] at hk';exact ⟨hk'.1.1,hk'.1.2,hk'.2⟩
 obtain ⟨vI,vD,vP⟩:=hvs;have HS:=hid hS;have HB:=hid hB;have HT0:Hid (cy zs mode sum mxr satp k kind va pick=if onM mode satp=false then ((0,va),k) else if dC va=false then ((eR kind,0),k) else if (aY (eV k kind) va (aK satp)).1=true then (ft (aY (eV k kind) va (aK satp)).2.2.2 (aY (eV k kind) va (aK satp)).2.2.1 mode sum mxr kind va,k)
  else (db (aW zs satp va (aY k.p va (aK satp))) mode sum mxr kind va,if (db (aW zs satp va (aY k.p va (aK satp))) mode sum mxr kind va).1=0 then th ⟨k.i,k.d,cG va satp pick (aW zs satp va (aY k.p va (aK satp))).2.2.2 k.p⟩ kind (dg (eV k kind) (eU (aW zs satp va (aY k.p va (aK satp))).2.1 va satp (aW zs satp va (aY k.p va (aK satp))).2.2.1) pick) else ⟨k.i,k.d,cG va satp pick (aW zs satp va (aY k.p va (aK satp))).2.2.2 k.p⟩)):=by
  show _=_;rw [cy,if_neg (by rw [hk];simp;omega)]
 obtain ⟨onb,hon⟩:∃onb,onM mode satp=onb:=⟨_,rfl⟩;obtain ⟨cnb,hcan⟩:∃cnb,dC va=cnb:=⟨_,rfl⟩;have HOn:Hid (∀u:World,Calls Tryz.prog 191 #[.agg #[VI mode,.bool sum,.bool mxr,VU satp]] u fun e w'=>e=.returned (.bool onb)∧Bw u w'):=fun u=>by
  have:=jS mode sum mxr satp u hr0 hr1;rw [hon] at this;exact this
 have HCn:Hid (∀u:World,Calls Tryz.prog 145 #[VU va] u fun e w'=>e=.returned (.bool cnb)∧w'=u):=fun u=>by
  have:=jg va u hv0 hv1;rw [hcan] at this;exact this
 have HLv:=hid fun (u:World)=>xh b kind u;obtain ⟨v1,Ev1,n1,H1,_⟩:=al1 w #[VI mode,.bool sum,.bool mxr,VU satp] 134;clear hS hB;have HOnE:=hid hon;have HCnE:=hid hcan;clear hon hcan;go_enter Tryz.func227,Tryz.ntmps227;go_wp2_with fail;rw [Ev1.out];clear Ev1;refine (HOn.out v1).mono ?_;rintro e v2 ⟨rfl,n2⟩;have A2:=bst n1 n2;have H2:=ah H1 n2;clear n1 n2 H1 HOn;cases onb
 ·have hon:=HOnE.out;go_wp2_with fail;refine bodyPost_ret (v:=.tuple #[VU va,.nilIface]) (by simp [results,Tryz.results227,go_sem]) rfl ⟨va,1,rfl,.inl rfl,?_,?_,Keeps.of_below _ _ _ A2⟩
  ·rw [HT0.out,if_pos hon];simp
  ·rw [HT0.out,if_pos hon];exact HS.out.keep A2
 have hon:=HOnE.out;go_wp2_with fail;refine (HCn.out v2).mono ?_;rintro e v2' ⟨rfl,hv2⟩;rw [hv2];clear hv2 v2';cases cnb
 ·have hcan:=HCnE.out;go_wp2_with fail;refine bodyPost_ret (v:=.tuple #[VU 0,.iface 288 (.agg #[])]) (by simp [results,Tryz.results227,go_sem]) rfl ⟨0,2,rfl,.inr (.inl rfl),?_,?_,Keeps.of_below _ _ _ A2⟩
  ·rw [HT0.out,if_neg (by rw [hon];simp),if_pos hcan];simp
  ·rw [HT0.out,if_neg (by rw [hon];simp),if_pos hcan];exact HS.out.keep A2
 have hcan:=HCnE.out;go_wp2_with fail;refine (HLv.out v2).mono ?_;have A3:=A2;have H3:=H2;clear A2 H2 HLv HCn;obtain ⟨⟨c0,c1,c2,c3⟩,_,_,_,_⟩:=ay H3.out;by_cases hkz:kind=0
 ·subst hkz;rw [if_pos rfl];rintro e v3' ⟨rfl,hv3⟩;rw [hv3];clear hv3 v3';have hpk:eV k 0=k.i:=by unfold eV;rw [if_pos rfl]
  obtain ⟨⟨fd,ix,lv,pt⟩,hX⟩:∃X,aY k.i va (aK satp)=X:=⟨_,rfl⟩;have HX:=hid hX;have S3:=HS.out.keep A3;obtain ⟨p0,p1,p2⟩:=S3.cellI;have HF:Hid (∀u,Bw w u->Calls Tryz.prog 229 #[PT b 20,VU va,VU (aK satp)] u fun e w'=>e=.returned (.tuple #[VI ix,.bool fd])∧Bw u w'):=fun u hu=>by
   have S:=HS.out.keep hu;obtain ⟨c0,c1,c2⟩:=S.cellI;have:=qI.1 b 20 gi k.i.es.length k.i va (aK satp) u rfl hli vI S.lt c0 c1 c2 (dM S.2.1.1) hv0 hv1;rw [hX] at this;exact this
  clear hX;go_wp2_with fail;refine (mS satp v2 hr0 hr1).mono ?_;rintro e u ⟨rfl,hu⟩;rw [hu];clear hu u;go_wp2_with fail;refine (HF.out v2 A3).mono ?_;rintro e v4 ⟨rfl,n4⟩;have A4:=bst A3 n4;have H4:=ah H3 n4;clear c0 c1 c2 c3 p0 p1 p2 H3 n4;obtain ⟨⟨c0,c1,c2,c3⟩,_,_,_,_⟩:=ay H4.out;cases fd
  ·have hres:cy zs mode sum mxr satp k 0 va pick=(db (aW zs satp va (aY k.p va (aK satp))) mode sum mxr 0 va,if (db (aW zs satp va (aY k.p va (aK satp))) mode sum mxr 0 va).1=0 then fE k 0 va satp pick (aW zs satp va (aY k.p va (aK satp))) 1 else fE k 0 va satp pick (aW zs satp va (aY k.p va (aK satp))) 2):=by
    rw [HT0.out,if_neg (by rw [hon];simp),if_neg (by rw [hcan];simp),hpk,if_neg (by rw [HX.out];simp)];simp only [fE,if_true,hpk,show ¬((2:Int)=1) by decide,if_false]
   have HRes:Hid _:=hres;clear hres;go_wp2_with fail;refine (ox b base gi gd gp k sv zs mode sum mxr satp 0 va pick v4 (HS.out.keep A4) hk hko hli hld hkl (HB.out.keep A4) hv0 hv1 hr0 hr1 hp0 hp1).mono ?_;rintro e v5 hw;obtain ⟨pa,code,rfl,hcode,hans,hset,hkp⟩:=hw;have HT5:Hid (SetM v5 b base gi gd gp (cy zs mode sum mxr satp k 0 va pick).2):=by
    rw [HRes.out,hans];simp only;rcases hcode with rfl | rfl | rfl
    ·simp only [if_true];exact hset
    ·have hne:=tf 0;simp only [show ¬((2:Int)=1) by decide,if_false,if_true,hne];exact hset
    ·have hne:=jF 0;simp only [show ¬((3:Int)=1) by decide,show ¬((3:Int)=2) by decide,if_false,hne];have:fE k 0 va satp pick (aW zs satp va (aY k.p va (aK satp))) 3=fE k 0 va satp pick (aW zs satp va (aY k.p va (aK satp))) 2:=by simp [fE]
     rw [<-this];exact hset
   have HA5:Hid ((cy zs mode sum mxr satp k 0 va pick).1=(if code=1 then 0 else if code=2 then eR 0 else bP 0,pa)):=by
    show _=_;rw [HRes.out];exact hans
   have HK5:=hid ((Keeps.of_below _ _ _ A4).trans hkp);obtain ⟨fv,hfv⟩:∃fv,cM code=fv:=⟨_,rfl⟩;have HFv:=hid hfv;rw [hfv];clear hfv hans hset hkp HRes;go_wp2_with fail;exact bodyPost_ret (v:=.tuple #[VU pa,fv]) (by simp [results,Tryz.results227,go_sem]) rfl ⟨pa,code,by rw [HFv.out],hcode,HA5.out,HT5.out,HK5.out⟩
  ·obtain ⟨q,x,hx,hi,hlv,hpt,_,hxv⟩:=nj k.i va (aK satp) (by rw [HX.out]);rw [HX.out] at hi hlv hpt;simp only at hi hlv hpt;subst hi hlv hpt;have hres:cy zs mode sum mxr satp k 0 va pick=(ft x.pte x.level mode sum mxr 0 va,k):=by
    rw [HT0.out,if_neg (by rw [hon];simp),if_neg (by rw [hcan];simp),hpk,if_pos (by rw [HX.out]),HX.out]
   have HRes:Hid _:=hres;have hok:=hki x (List.mem_of_getElem? hx);have hlx:=ew (ee vI) q x hx hxv;have S4:=HS.out.keep A4;have hql:q<k.i.es.length:=(List.getElem?_eq_some_iff.1 hx).1;obtain ⟨_,_,p2⟩:=S4.cellI;have p2':v4.cell? (AD b 22)=some (SL gi k.i.es.length k.i.es.length):=p2;have CE:∀j u,j<6->(fG x)[j]?=some u->v4.cell? ⟨gi,q*6+j,none⟩=some u:=fun j u hj hu=>io (dM S4.2.1.1) rfl q _ hx j u hj hu;have g0:v4.cell? ⟨gi,q*6,none⟩=some (VI x.level):=CE 0 _ (by omega) rfl;have g1:v4.cell? ⟨gi,q*6+1,none⟩=some (VU x.tag):=CE 1 _ (by omega) rfl;have g2:v4.cell? ⟨gi,q*6+2,none⟩=some (VU x.asid):=CE 2 _ (by omega) rfl;have g3:v4.cell? ⟨gi,q*6+3,none⟩=some (.bool x.glob):=CE 3 _ (by omega) rfl;have g4:v4.cell? ⟨gi,q*6+4,none⟩=some (.bool x.valid):=CE 4 _ (by omega) rfl;have g5:v4.cell? ⟨gi,q*6+5,none⟩=some (VU x.pte):=CE 5 _ (by omega) rfl;have HTL:Hid (∀u:World,Calls Tryz.prog 209 #[VU x.pte,VI x.level,.agg #[VI mode,.bool sum,.bool mxr,VU satp],VI 0,VU va] u fun e w'=>e=.returned (.tuple #[VU (if du x.pte 0 mode sum mxr=true then gM x.pte x.level va else 0),cM (if du x.pte 0 mode sum mxr=true then 1 else 2)])∧Bw u w'):=fun u=>gV x.pte x.level mode sum mxr satp 0 va u hok.2.2.2.1 hok.2.2.2.2 hv0 hv1 (by omega);clear CE p2 hres hx hxv;obtain ⟨v5,Ev5,n5,_,_⟩:=al1 v4 #[VI x.level,VU x.tag,VU x.asid,.bool x.glob,.bool x.valid,VU x.pte] 246;have lw:w.heap.size<v4.heap.size:=(hpl H4.out);go_wp2_with fail;rw [Ev5.out];clear Ev5;refine (HTL.out v5).mono ?_;have A5:=bst A4 n5;by_cases hgr:du x.pte 0 mode sum mxr=true
   ·rw [if_pos hgr,if_pos hgr,show cM 1=.nilIface from rfl];rintro e v6 ⟨rfl,N6⟩;have A6:=bst A5 N6;go_wp2_with fail;refine bodyPost_ret (v:=.tuple #[VU (gM x.pte x.level va),.nilIface]) (by simp [results,Tryz.results227,go_sem]) rfl ⟨_,1,rfl,.inl rfl,?_,?_,Keeps.of_below _ _ _ A6⟩
    ·rw [HRes.out];simp [ft,hgr]
    ·rw [HRes.out];exact HS.out.keep A6
   ·rw [if_neg hgr,if_neg hgr,show cM 2=.iface 288 (.agg #[]) from rfl];rintro e v6 ⟨rfl,N6⟩;have A6:=bst A5 N6;go_wp2_with fail;refine bodyPost_ret (v:=.tuple #[VU 0,.iface 288 (.agg #[])]) (by simp [results,Tryz.results227,go_sem]) rfl ⟨0,2,rfl,.inr (.inl rfl),?_,?_,Keeps.of_below _ _ _ A6⟩
    ·rw [HRes.out];simp [ft,hgr]
    ·rw [HRes.out];exact HS.out.keep A6
 ·rw [if_neg hkz];rintro e v3' ⟨rfl,hv3⟩;rw [hv3];clear hv3 v3';have hpk:eV k kind=k.d:=by unfold eV;rw [if_neg hkz]
  obtain ⟨⟨fd,ix,lv,pt⟩,hX⟩:∃X,aY k.d va (aK satp)=X:=⟨_,rfl⟩;have HX:Hid (aY k.d va (aK satp)=(fd,ix,lv,pt)):=hX;have S3:=HS.out.keep A3;obtain ⟨p0,p1,p2⟩:=S3.cellD;have HF:Hid (∀u,Bw w u->Calls Tryz.prog 229 #[PT b 23,VU va,VU (aK satp)] u fun e w'=>e=.returned (.tuple #[VI ix,.bool fd])∧Bw u w'):=fun u hu=>by
   have S:=HS.out.keep hu;obtain ⟨c0,c1,c2⟩:=S.cellD;have:=qI.1 b 23 gd k.d.es.length k.d va (aK satp) u rfl hld vD S.lt c0 c1 c2 (dM S.2.1.2.1) hv0 hv1;rw [hX] at this;exact this
  clear hX;go_wp2_with fail;refine (mS satp v2 hr0 hr1).mono ?_;rintro e u ⟨rfl,hu⟩;rw [hu];clear hu u;go_wp2_with fail;refine (HF.out v2 A3).mono ?_;rintro e v4 ⟨rfl,n4⟩;have A4:=bst A3 n4;have H4:=ah H3 n4;clear c0 c1 c2 c3 p0 p1 p2 H3 n4;obtain ⟨⟨c0,c1,c2,c3⟩,_,_,_,_⟩:=ay H4.out;cases fd
  ·have hres:cy zs mode sum mxr satp k kind va pick=(db (aW zs satp va (aY k.p va (aK satp))) mode sum mxr kind va,if (db (aW zs satp va (aY k.p va (aK satp))) mode sum mxr kind va).1=0 then fE k kind va satp pick (aW zs satp va (aY k.p va (aK satp))) 1 else fE k kind va satp pick (aW zs satp va (aY k.p va (aK satp))) 2):=by
    rw [HT0.out,if_neg (by rw [hon];simp),if_neg (by rw [hcan];simp),hpk,if_neg (by rw [HX.out];simp)];simp only [fE,if_true,hpk,show ¬((2:Int)=1) by decide,if_false]
   have HRes:Hid _:=hres;clear hres;go_wp2_with fail;refine (ox b base gi gd gp k sv zs mode sum mxr satp kind va pick v4 (HS.out.keep A4) hk hko hli hld hkl (HB.out.keep A4) hv0 hv1 hr0 hr1 hp0 hp1).mono ?_;rintro e v5 hw;obtain ⟨pa,code,rfl,hcode,hans,hset,hkp⟩:=hw;have HT5:Hid (SetM v5 b base gi gd gp (cy zs mode sum mxr satp k kind va pick).2):=by
    rw [HRes.out,hans];simp only;rcases hcode with rfl | rfl | rfl
    ·simp only [if_true];exact hset
    ·have hne:=tf kind;simp only [show ¬((2:Int)=1) by decide,if_false,if_true,hne];exact hset
    ·have hne:=jF kind;simp only [show ¬((3:Int)=1) by decide,show ¬((3:Int)=2) by decide,if_false,hne];have:fE k kind va satp pick (aW zs satp va (aY k.p va (aK satp))) 3=fE k kind va satp pick (aW zs satp va (aY k.p va (aK satp))) 2:=by simp [fE]
     rw [<-this];exact hset
   have HA5:Hid ((cy zs mode sum mxr satp k kind va pick).1=(if code=1 then 0 else if code=2 then eR kind else bP kind,pa)):=by
    show _=_;rw [HRes.out];exact hans
   have HK5:Hid (Keeps w v5 gi gd gp):=(Keeps.of_below _ _ _ A4).trans hkp;obtain ⟨fv,hfv⟩:∃fv,cM code=fv:=⟨_,rfl⟩;have HFv:Hid (cM code=fv):=hfv;rw [hfv];clear hfv hans hset hkp HRes;go_wp2_with fail;exact bodyPost_ret (v:=.tuple #[VU pa,fv]) (by simp [results,Tryz.results227,go_sem]) rfl ⟨pa,code,by rw [HFv.out],hcode,HA5.out,HT5.out,HK5.out⟩
  ·obtain ⟨q,x,hx,hi,hlv,hpt,_,hxv⟩:=nj k.d va (aK satp) (by rw [HX.out]);rw [HX.out] at hi hlv hpt;simp only at hi hlv hpt;subst hi hlv hpt;have hres:cy zs mode sum mxr satp k kind va pick=(ft x.pte x.level mode sum mxr kind va,k):=by
    rw [HT0.out,if_neg (by rw [hon];simp),if_neg (by rw [hcan];simp),hpk,if_pos (by rw [HX.out]),HX.out]
   have HRes:Hid _:=hres;have hok:=hkd x (List.mem_of_getElem? hx);have hlx:=ew (ee vD) q x hx hxv;have S4:=HS.out.keep A4;have hql:q<k.d.es.length:=(List.getElem?_eq_some_iff.1 hx).1;obtain ⟨_,_,p2⟩:=S4.cellD;have p2':v4.cell? (AD b 25)=some (SL gd k.d.es.length k.d.es.length):=p2;have CE:∀j u,j<6->(fG x)[j]?=some u->v4.cell? ⟨gd,q*6+j,none⟩=some u:=fun j u hj hu=>io (dM S4.2.1.2.1) rfl q _ hx j u hj hu;have g0:v4.cell? ⟨gd,q*6,none⟩=some (VI x.level):=CE 0 _ (by omega) rfl;have g1:v4.cell? ⟨gd,q*6+1,none⟩=some (VU x.tag):=CE 1 _ (by omega) rfl;have g2:v4.cell? ⟨gd,q*6+2,none⟩=some (VU x.asid):=CE 2 _ (by omega) rfl;have g3:v4.cell? ⟨gd,q*6+3,none⟩=some (.bool x.glob):=CE 3 _ (by omega) rfl;have g4:v4.cell? ⟨gd,q*6+4,none⟩=some (.bool x.valid):=CE 4 _ (by omega) rfl;have g5:v4.cell? ⟨gd,q*6+5,none⟩=some (VU x.pte):=CE 5 _ (by omega) rfl;have HTL:Hid (∀u:World,Calls Tryz.prog 209 #[VU x.pte,VI x.level,.agg #[VI mode,.bool sum,.bool mxr,VU satp],VI kind,VU va] u fun e w'=>e=.returned (.tuple #[VU (if du x.pte kind mode sum mxr=true then gM x.pte x.level va else 0),cM (if du x.pte kind mode sum mxr=true then 1 else 2)])∧Bw u w'):=fun u=>gV x.pte x.level mode sum mxr satp kind va u hok.2.2.2.1 hok.2.2.2.2 hv0 hv1 (by omega);clear CE p2 hres hx hxv;obtain ⟨v5,Ev5,n5,_,_⟩:=al1 v4 #[VI x.level,VU x.tag,VU x.asid,.bool x.glob,.bool x.valid,VU x.pte] 246;have lw:w.heap.size<v4.heap.size:=(hpl H4.out);go_wp2_with fail;rw [Ev5.out];clear Ev5;refine (HTL.out v5).mono ?_;have A5:=bst A4 n5;by_cases hgr:du x.pte kind mode sum mxr=true
   ·rw [if_pos hgr,if_pos hgr,show cM 1=.nilIface from rfl];rintro e v6 ⟨rfl,N6⟩;have A6:=bst A5 N6;go_wp2_with fail;refine bodyPost_ret (v:=.tuple #[VU (gM x.pte x.level va),.nilIface]) (by simp [results,Tryz.results227,go_sem]) rfl ⟨_,1,rfl,.inl rfl,?_,?_,Keeps.of_below _ _ _ A6⟩
    ·rw [HRes.out];simp [ft,hgr]
    ·rw [HRes.out];exact HS.out.keep A6
   ·rw [if_neg hgr,if_neg hgr,show cM 2=.iface 288 (.agg #[]) from rfl];rintro e v6 ⟨rfl,N6⟩;have A6:=bst A5 N6;go_wp2_with fail;refine bodyPost_ret (v:=.tuple #[VU 0,.iface 288 (.agg #[])]) (by simp [results,Tryz.results227,go_sem]) rfl ⟨0,2,rfl,.inr (.inl rfl),?_,?_,Keeps.of_below _ _ _ A6⟩
    ·rw [HRes.out];simp [ft,hgr]
    ·rw [HRes.out];exact HS.out.keep A6
section
attribute [local go_sem ↓] Go.wp_at_zero Go.wp_at_succ
def pw (z0:Nat) (z1:Nat):Prop:=∀(hv:Bool) (fva:Int) (ha:Bool) (fa:Int) (pf pv b o g n base:Nat) (es:List EntM) (sets ways:Int) (w:World) (hn:es.length=n) (hn1:n<=1048576) (hbl:b<w.heap.size) (hbg:b≠g) (hv0:0<=fva) (hv1:fva<=18446744073709551615) (hcan:hv=false∨dC fva=true) (hpf:pf≠g) (hpv:pv≠g) (hF:w.heap[pf]?=some (.cells #[.bool hv,VU fva,.bool ha,VU fa] 59 (0,0))) (hV:w.heap[pv]?=some (.cells #[VU fva] 260 (0,0)))
 (c2:w.cell? ⟨b,o+2,none⟩=some (SL g n n)) (ho:w.ownsRow base z1 6 (SL g n n) n (aI es)) (hlv:∀(j:Nat) (x:EntM),es[j]?=some x->x.valid=true->0<=x.level∧x.level<=2),Calls Tryz.prog z0 #[PT b o,.func (.func 147) #[] #[PT pf 0,PT pv 0]] w fun x w'=>x=.returned (.tuple #[])∧w'.ownsRow base z1 6 (SL g n n) n (aI (es.map (cx ⟨hv,fva,ha,fa⟩)))∧w.grownBy w' (some g)
theorem qQ:pw 248 246∧pw 249 251:=by
 refine ⟨?_,?_⟩;have mL:=trivial
 rotate_left
 have mP:=trivial
 rotate_left
 all_goals
  intro hv fva ha fa pf pv b o g n base es sets ways w hn hn1 hbl hbg hv0 hv1 hcan hpf hpv hF hV c2 ho hlv;first
   | (replace mL:=mL;have HO:Hid (w.ownsRow base 246 6 (SL g n n) n (aI es)):=ho)
   | (replace mP:=mP;have HO:Hid (w.ownsRow base 251 6 (SL g n n) n (aI es)):=ho)
  have HN:=hid hn;have HLv:=hid hlv;have hg:=(bI ho).2.2;simp only at hg;clear ho hn hlv;first
   | (replace mL:=mL;go_enter Tryz.func248,Tryz.ntmps248)
   | (replace mP:=mP;go_enter Tryz.func249,Tryz.ntmps249)
  go_wp2_with fail;first
   | (replace mL:=mL;go_loopw [11] (fun i wr=>∃k:Nat,k<=n∧i=VI k∧w.grownBy wr (some g)∧wr.ownsRow base 246 6 (SL g n n) n (aI (bO ⟨hv,fva,ha,fa⟩ k es))) (fun i _=>n-(intOf i).toNat))
   | (replace mP:=mP;go_loopw [11] (fun i wr=>∃k:Nat,k<=n∧i=VI k∧w.grownBy wr (some g)∧wr.ownsRow base 251 6 (SL g n n) n (aI (bO ⟨hv,fva,ha,fa⟩ k es))) (fun i _=>n-(intOf i).toNat))
  case atStart=>exact ⟨0,Nat.zero_le _,rfl,aw _ _,by rw [show bO ⟨hv,fva,ha,fa⟩ 0 es=es by simp [bO]];exact HO.out⟩
  case round=>
   obtain ⟨k,hk,rfl,hgb,hO⟩:=hrel;first
    | (replace mL:=mL;have PO:Hid (wr.ownsRow base 246 6 (SL g n n) n (aI (bO ⟨hv,fva,ha,fa⟩ k es))):=hO)
    | (replace mP:=mP;have PO:Hid (wr.ownsRow base 251 6 (SL g n n) n (aI (bO ⟨hv,fva,ha,fa⟩ k es))):=hO)
   have lr:=hgb.size;have hfl:=hO.1;clear hO;have r2:=pQ hgb c2 hbl hbg;by_cases hlt:k<n
   ·obtain ⟨⟨vv,lv,tg,asd,gl,pt⟩,hx⟩:∃x,es[k]?=some x:=⟨_,geg (by rw [HN.out];exact hlt)⟩;have hx':(bO ⟨hv,fva,ha,fa⟩ k es)[k]?=some ⟨vv,lv,tg,asd,gl,pt⟩:=by
     first
      | exact hx
      | (unfold bO
         have hkl:k<=es.length:=by rw [HN.out];omega
         rw [List.getElem?_append_right (by simp;omega),List.length_map,List.length_take,Nat.min_eq_left hkl,Nat.sub_self,List.getElem?_drop,Nat.add_zero,hx])
    have HXk:=hid hx;have CE:∀j u,j<6->(fG ⟨vv,lv,tg,asd,gl,pt⟩)[j]?=some u->wr.cell? ⟨g,k*6+j,none⟩=some u:=fun j u hj hu=>qy PO.out (by have:=hfl;rw [eN] at this;omega) k _ hx' j u hj hu;have g0:wr.cell? ⟨g,k*6,none⟩=some (VI lv):=CE 0 _ (by omega) rfl;have g1:wr.cell? ⟨g,k*6+1,none⟩=some (VU tg):=CE 1 _ (by omega) rfl;have g2:wr.cell? ⟨g,k*6+2,none⟩=some (VU asd):=CE 2 _ (by omega) rfl;have g3:wr.cell? ⟨g,k*6+3,none⟩=some (.bool gl):=CE 3 _ (by omega) rfl;have g4:wr.cell? ⟨g,k*6+4,none⟩=some (.bool vv):=CE 4 _ (by omega) rfl;have g5:wr.cell? ⟨g,k*6+5,none⟩=some (VU pt):=CE 5 _ (by omega) rfl;have HNx:Hid _:=pM ⟨hv,fva,ha,fa⟩ k es _ hx;have HSm:Hid ((bO ⟨hv,fva,ha,fa⟩ k es).set k ⟨vv,lv,tg,asd,gl,pt⟩=bO ⟨hv,fva,ha,fa⟩ k es):=by
     show _=_;apply List.ext_getElem?;intro j;rw [List.getElem?_set];by_cases hj:k=j
     ·subst hj;have hkl:=(List.getElem?_eq_some_iff.1 hx').1;rw [if_pos rfl,if_pos hkl,hx']
     ·rw [if_neg hj]
    have HLx:Hid (vv=true->0<=lv∧lv<=2):=fun h=>HLv.out k _ hx h;clear CE hx hx';first
     | (replace mL:=mL;have n5:=(Below.refl wr.heap.size wr).alloc nle (Obj.cells #[VI lv,VU tg,VU asd,.bool gl,.bool vv,VU pt] 246))
     | (replace mP:=mP;have n5:=(Below.refl wr.heap.size wr).alloc nle (Obj.cells #[VI lv,VU tg,VU asd,.bool gl,.bool vv,VU pt] 251))
    have hgb5:=fY hgb n5;cases vv
    ·have hst:cx ⟨hv,fva,ha,fa⟩ ⟨false,lv,tg,asd,gl,pt⟩=⟨false,lv,tg,asd,gl,pt⟩:=by simp [cx]
     go_wp2;go_roundw
     case rel=>exact ⟨k+1,by omega,by go_num,hgb5,by rw [HNx.out,hst,HSm.out];exact aj PO.out n5⟩
     case measure=>simp [intOf];omega
    ·obtain ⟨hl0,hl2⟩:=HLx.out rfl;obtain ⟨cb,hcb⟩:∃cb,iM ⟨hv,fva,ha,fa⟩ lv tg asd gl=cb:=⟨_,rfl⟩;have hst:cx ⟨hv,fva,ha,fa⟩ ⟨true,lv,tg,asd,gl,pt⟩=if cb=true then cH else ⟨true,lv,tg,asd,gl,pt⟩:=by simp [cx,hcb]
     have HSt:Hid _:=hst;have HCv:Hid (∀u:World,u.heap[pf]?=some (.cells #[.bool hv,VU fva,.bool ha,VU fa] 59 (0,0))->u.heap[pv]?=some (.cells #[VU fva] 260 (0,0))->Calls Tryz.prog 147 #[.agg #[VI lv,VU tg,VU asd,.bool gl],PT pf 0,PT pv 0] u fun e w'=>e=.returned (.bool cb)∧Bw u w'):=fun u h1 h2=>by
      have:=ze hv fva ha fa lv tg asd gl pf pv u (by omega) hv0 hv1 h1 h2;rw [wU _ _ _ _ _ hcan,hcb] at this;exact this
     have F5:=aB hF hgb5 hpf;have V5:=aB hV hgb5 hpv;clear hcb hst;go_wp2_with fail;first
      | (replace mL:=mL;generalize wr.alloc (Obj.cells #[VI lv,VU tg,VU asd,.bool gl,.bool true,VU pt] 246)=v5 at n5 hgb5 F5 V5 |-)
      | (replace mP:=mP;generalize wr.alloc (Obj.cells #[VI lv,VU tg,VU asd,.bool gl,.bool true,VU pt] 251)=v5 at n5 hgb5 F5 V5 |-)
     refine (HCv.out v5 F5 V5).mono ?_;rintro e v6 ⟨rfl,n6⟩;have n56:=bst n5 n6;have hgb6:=fY hgb n56;first
      | (replace mL:=mL;have SO:Hid (v6.ownsRow base 246 6 (SL g n n) n (aI (bO ⟨hv,fva,ha,fa⟩ k es))):=aj PO.out n56)
      | (replace mP:=mP;have SO:Hid (v6.ownsRow base 251 6 (SL g n n) n (aI (bO ⟨hv,fva,ha,fa⟩ k es))):=aj PO.out n56)
     clear g0 g1 g2 g3 g4 g5 r2 F5 V5 n5 n6 hgb5 hgb;have r2:=pQ hgb6 c2 hbl hbg;cases cb
     ·go_wp2;go_roundw
      case rel=>exact ⟨k+1,by omega,by go_num,hgb6,by rw [HNx.out,HSt.out];simp only [Bool.false_eq_true,if_false];rw [HSm.out];exact SO.out⟩
      case measure=>simp [intOf];omega
     ·
      have q0:=aE SO.out (k*6) _ (geg (by omega));have q1:=aE SO.out (k*6+1) _ (geg (by omega));have q2:=aE SO.out (k*6+2) _ (geg (by omega));have q3:=aE SO.out (k*6+3) _ (geg (by omega));have q4:=aE SO.out (k*6+4) _ (geg (by omega));have q5:=aE SO.out (k*6+5) _ (geg (by omega));generalize (aI (bO ⟨hv,fva,ha,fa⟩ k es))[k*6]'_=y0 at q0;generalize (aI (bO ⟨hv,fva,ha,fa⟩ k es))[k*6+1]'_=y1 at q1;generalize (aI (bO ⟨hv,fva,ha,fa⟩ k es))[k*6+2]'_=y2 at q2;generalize (aI (bO ⟨hv,fva,ha,fa⟩ k es))[k*6+3]'_=y3 at q3;generalize (aI (bO ⟨hv,fva,ha,fa⟩ k es))[k*6+4]'_=y4 at q4;generalize (aI (bO ⟨hv,fva,ha,fa⟩ k es))[k*6+5]'_=y5 at q5;have s0:=aQ SO.out (k*6);have s1:=aQ SO.out (k*6+1);have s2:=aQ SO.out (k*6+2);have s3:=aQ SO.out (k*6+3);have s4:=aQ SO.out (k*6+4);have s5:=aQ SO.out (k*6+5);go_wp2;go_roundw
      case rel=>
       refine ⟨k+1,by omega,by go_num,aq (aq (aq (aq (aq (aq hgb6 _ _) _ _) _ _) _ _) _ _) _ _,?_⟩;rw [HNx.out,HSt.out,if_pos (by trivial),iG _ _ _ (by rw [jP,HN.out];exact hlt)];exact aF (aF (aF (aF (aF (aF SO.out _ _) _ _) _ _) _ _) _ _) _ _
      case measure=>simp [intOf];omega
   ·have hkn:k=n:=by omega
    subst hkn;go_wp2;go_end0;refine ⟨rfl,?_,hgb⟩;have hO:=PO.out;have hsn:bO ⟨hv,fva,ha,fa⟩ k es=es.map (cx ⟨hv,fva,ha,fa⟩):=by
     have hq:=HN.out;unfold bO;rw [<-hq,List.take_length,List.drop_length,List.append_nil]
    rw [hsn] at hO;exact hO
def py (z0:Nat) (z1:Nat):Prop:=∀(hv:Bool) (fva:Int) (ha:Bool) (fa:Int) (pf pv b o g n base:Nat) (es:List EntM) (sets ways:Int) (w:World) (hn:es.length=n) (hn1:n<=1048576) (hbl:b<w.heap.size) (hbg:b≠g)
 (c2:w.cell? ⟨b,o+2,none⟩=some (SL g n n)) (ho:w.ownsRow base z1 6 (SL g n n) n (aI es)) (hlv:∀(j:Nat) (x:EntM),es[j]?=some x->x.valid=true->0<=x.level∧x.level<=2),Calls Tryz.prog z0 #[PT b o,.func (.func 146) #[] #[]] w fun x w'=>x=.returned (.tuple #[])∧w'.ownsRow base z1 6 (SL g n n) n (aI (es))∧w.grownBy w' (some g)
theorem qR:py 248 246∧py 249 251:=by
 refine ⟨?_,?_⟩;have mL:=trivial
 rotate_left
 have mP:=trivial
 rotate_left
 all_goals
  intro hv fva ha fa pf pv b o g n base es sets ways w hn hn1 hbl hbg c2 ho hlv;first
   | (replace mL:=mL;have HO:Hid (w.ownsRow base 246 6 (SL g n n) n (aI es)):=ho)
   | (replace mP:=mP;have HO:Hid (w.ownsRow base 251 6 (SL g n n) n (aI es)):=ho)
  have HN:=hid hn;have HLv:=hid hlv;have hg:=(bI ho).2.2;simp only at hg;clear ho hn hlv;first
   | (replace mL:=mL;go_enter Tryz.func248,Tryz.ntmps248)
   | (replace mP:=mP;go_enter Tryz.func249,Tryz.ntmps249)
  go_wp2_with fail;first
   | (replace mL:=mL;go_loopw [11] (fun i wr=>∃k:Nat,k<=n∧i=VI k∧w.grownBy wr (some g)∧wr.ownsRow base 246 6 (SL g n n) n (aI (es))) (fun i _=>n-(intOf i).toNat))
   | (replace mP:=mP;go_loopw [11] (fun i wr=>∃k:Nat,k<=n∧i=VI k∧w.grownBy wr (some g)∧wr.ownsRow base 251 6 (SL g n n) n (aI (es))) (fun i _=>n-(intOf i).toNat))
  case atStart=>exact ⟨0,Nat.zero_le _,rfl,aw _ _,HO.out⟩
  case round=>
   obtain ⟨k,hk,rfl,hgb,hO⟩:=hrel;first
    | (replace mL:=mL;have PO:Hid (wr.ownsRow base 246 6 (SL g n n) n (aI (es))):=hO)
    | (replace mP:=mP;have PO:Hid (wr.ownsRow base 251 6 (SL g n n) n (aI (es))):=hO)
   have lr:=hgb.size;have hfl:=hO.1;clear hO;have r2:=pQ hgb c2 hbl hbg;by_cases hlt:k<n
   ·obtain ⟨⟨vv,lv,tg,asd,gl,pt⟩,hx⟩:∃x,es[k]?=some x:=⟨_,geg (by rw [HN.out];exact hlt)⟩;have hx':(es)[k]?=some ⟨vv,lv,tg,asd,gl,pt⟩:=by
     first
      | exact hx
      | (unfold bO
         have hkl:k<=es.length:=by rw [HN.out];omega
         rw [List.getElem?_append_right (by simp;omega),List.length_map,List.length_take,Nat.min_eq_left hkl,Nat.sub_self,List.getElem?_drop,Nat.add_zero,hx])
    have HXk:=hid hx;have CE:∀j u,j<6->(fG ⟨vv,lv,tg,asd,gl,pt⟩)[j]?=some u->wr.cell? ⟨g,k*6+j,none⟩=some u:=fun j u hj hu=>qy PO.out (by have:=hfl;rw [eN] at this;omega) k _ hx' j u hj hu;have g0:wr.cell? ⟨g,k*6,none⟩=some (VI lv):=CE 0 _ (by omega) rfl;have g1:wr.cell? ⟨g,k*6+1,none⟩=some (VU tg):=CE 1 _ (by omega) rfl;have g2:wr.cell? ⟨g,k*6+2,none⟩=some (VU asd):=CE 2 _ (by omega) rfl;have g3:wr.cell? ⟨g,k*6+3,none⟩=some (.bool gl):=CE 3 _ (by omega) rfl;have g4:wr.cell? ⟨g,k*6+4,none⟩=some (.bool vv):=CE 4 _ (by omega) rfl;have g5:wr.cell? ⟨g,k*6+5,none⟩=some (VU pt):=CE 5 _ (by omega) rfl;have HSm:Hid ((es).set k ⟨vv,lv,tg,asd,gl,pt⟩=es):=by
     show _=_;apply List.ext_getElem?;intro j;rw [List.getElem?_set];by_cases hj:k=j
     ·subst hj;have hkl:=(List.getElem?_eq_some_iff.1 hx').1;rw [if_pos rfl,if_pos hkl,hx']
     ·rw [if_neg hj]
    have HLx:Hid (vv=true->0<=lv∧lv<=2):=fun h=>HLv.out k _ hx h;clear CE hx hx';first
     | (replace mL:=mL;have n5:=(Below.refl wr.heap.size wr).alloc nle (Obj.cells #[VI lv,VU tg,VU asd,.bool gl,.bool vv,VU pt] 246))
     | (replace mP:=mP;have n5:=(Below.refl wr.heap.size wr).alloc nle (Obj.cells #[VI lv,VU tg,VU asd,.bool gl,.bool vv,VU pt] 251))
    have hgb5:=fY hgb n5;cases vv
    ·go_wp2;go_roundw
     case rel=>exact ⟨k+1,by omega,by go_num,hgb5,aj PO.out n5⟩
     case measure=>simp [intOf];omega
    ·go_wp2_with fail;first
      | (replace mL:=mL;generalize wr.alloc (Obj.cells #[VI lv,VU tg,VU asd,.bool gl,.bool true,VU pt] 246)=v5 at n5 hgb5 |-)
      | (replace mP:=mP;generalize wr.alloc (Obj.cells #[VI lv,VU tg,VU asd,.bool gl,.bool true,VU pt] 251)=v5 at n5 hgb5 |-)
     refine (zd lv tg asd gl v5).mono ?_;rintro e v6 ⟨rfl,n6⟩;have n56:=bst n5 n6;have hgb6:=fY hgb n56;go_wp2;go_roundw
     case rel=>exact ⟨k+1,by omega,by go_num,hgb6,aj PO.out n56⟩
     case measure=>simp [intOf];omega
   ·have hkn:k=n:=by omega
    subst hkn;go_wp2;go_end0;refine ⟨rfl,?_,hgb⟩;have hO:=PO.out;exact hO
end
theorem kq {w w':World} {e:TypeId} {size base n g c:Nat} {cs:List Value} (h:w.ownsRow base e size (SL g n c) n cs) (hg:w'.heap[g]?=w.heap[g]?):w'.ownsRow base e size (SL g n c) n cs:=by
 obtain ⟨h1,h2⟩:=h;refine ⟨h1,?_⟩;rcases h2 with h2 | ⟨g',cap',cur,h2,hb,hh,r⟩
 ·exact .inl h2
 ·refine .inr ⟨g',cap',cur,h2,hb,?_,r⟩;have:g=g':=by
   simp only [Value.slice.injEq,Option.some.injEq,Addr.mk.injEq] at h2;exact h2.1.1
  subst this;rw [hg,hh]
def cX (m:MP) (pb:Nat) (i:Nat):Prop:=i=m.gi∨i=m.gd∨i=m.gp∨i=pb
def cA (m:MP) (pb base:Nat) (pick:Int) (k:KM) (w:World):Prop:=
 RowsAt w base m.gi m.gd m.gp k∧w.heap[pb]?=some (.cells #[PT m.b 20,VI pick] 211 (0,0))
theorem cA.frame {m:MP} {pb base:Nat} {pick:Int} {k:KM} {w w':World} (h:cA m pb base pick k w) (hx:∀i,cX m pb i->w'.heap[i]?=w.heap[i]?):cA m pb base pick k w':=
 ⟨⟨kq h.1.1 (hx _ (.inl rfl)),kq h.1.2.1 (hx _ (.inr (.inl rfl))),kq h.1.2.2.1 (hx _ (.inr (.inr (.inl rfl)))),h.1.2.2.2⟩,(hx _ (.inr (.inr (.inr rfl)))).trans h.2⟩
structure CDist (m:MP) (pb:Nat):Prop where
 pd:m.pd=209
 px:m.px=PT pb 0
 bi:m.b≠m.gi
 bd:m.b≠m.gd
 bp:m.b≠m.gp
 pi:pb≠m.gi
 pdd:pb≠m.gd
 pp:pb≠m.gp
theorem xO (pb:Nat) (w:World):(method 444 209 (PT pb 0) "loop.example/s0051/impl.phys").run Tryz.prog w=.ok (244,PT pb 0) w:=by kernel_rfl
theorem vK (pb:Nat) (w:World):(method 444 209 (PT pb 0) "loop.example/s0051/impl.fence").run Tryz.prog w=.ok (243,PT pb 0) w:=by kernel_rfl
theorem vL (pb:Nat) (w:World):(method 444 209 (PT pb 0) "loop.example/s0051/impl.begin").run Tryz.prog w=.ok (242,PT pb 0) w:=by kernel_rfl
theorem zu (args:Array Value) (w:World):(callFunc 244 args).run Tryz.prog w=.ok (.enter 244 args) w:=by kernel_rfl
theorem xP (args:Array Value) (w:World):(callFunc 243 args).run Tryz.prog w=.ok (.enter 243 args) w:=by kernel_rfl
theorem xQ (args:Array Value) (w:World):(callFunc 242 args).run Tryz.prog w=.ok (.enter 242 args) w:=by kernel_rfl
theorem Eo (m:MP) (pb base:Nat) (pick:Int) (hd:CDist m pb) (r:RunM) (sv:Value) (kind va:Int) (w:World) (hA:cA m pb base pick r.h.k w) (hC:CellsM w m.b (iw r.h.k m.gi m.gd m.gp)) (hs:SrcAt w sv r.h.mem) (hr:ROk r) (hpk:0<=pick∧pick<=255) (hk0:0<=kind) (hk2:kind<=2) (hv:inU va):
 Calls Tryz.prog 244 #[PT pb 0,sv,rl r.h,VI kind,VU va] w fun e w'=>∃pa code,e=.returned (.tuple #[VU pa,cM code])∧(code=1∨code=2∨code=3)∧(bu false pick r.h kind va).1=(if code=1 then 0 else if code=2 then eR kind else bP kind,pa)∧cA m pb base pick (bu false pick r.h kind va).2 w'∧Kp (cX m pb) w w':=by
 obtain ⟨v1,Ev1,F⟩:=ax1 w #[VI r.h.mode,.bool r.h.sum,.bool r.h.mxr,VU r.h.satp] 134;have HA:Hid _:=hA;have HC:Hid _:=hC;have HS:Hid _:=hs;have HR:Hid _:=hr;have HD:Hid _:=hd;have hpl:=(hpl hA.2);have hbp:=hA.2;obtain ⟨hv0,hv1⟩:=hv;clear hA hC hs hr hd;unfold rl;go_enter Tryz.func244,Tryz.ntmps244;go_upto_region 1 with fail;rw [Ev1.out];clear Ev1;obtain ⟨f1,f2,n1⟩:=F;have HP1:=hid (ag hbp n1 hpl);have HF1:Hid _:=f1;have HN1:Hid _:=n1;clear hbp f1 f2 n1;have J0:=fun (u:Has2 pb (.cells #[PT m.b 20,VI pick] 211 (0,0)) w.heap.size (.cells #[VI r.h.mode,.bool r.h.sum,.bool r.h.mxr,VU r.h.satp] 134 (0,0)))=>ab u.h 0 rfl;have J1:=fun (u:Has2 pb (.cells #[PT m.b 20,VI pick] 211 (0,0)) w.heap.size (.cells #[VI r.h.mode,.bool r.h.sum,.bool r.h.mxr,VU r.h.satp] 134 (0,0)))=>ab u.h 1 rfl;have I0:=fun (u:Has2 pb (.cells #[PT m.b 20,VI pick] 211 (0,0)) w.heap.size (.cells #[VI r.h.mode,.bool r.h.sum,.bool r.h.mxr,VU r.h.satp] 134 (0,0)))=>ab u.h' 0 rfl;have I1:=fun (u:Has2 pb (.cells #[PT m.b 20,VI pick] 211 (0,0)) w.heap.size (.cells #[VI r.h.mode,.bool r.h.sum,.bool r.h.mxr,VU r.h.satp] 134 (0,0)))=>ab u.h' 1 rfl;have I2:=fun (u:Has2 pb (.cells #[PT m.b 20,VI pick] 211 (0,0)) w.heap.size (.cells #[VI r.h.mode,.bool r.h.sum,.bool r.h.mxr,VU r.h.satp] 134 (0,0)))=>ab u.h' 2 rfl;have I3:=fun (u:Has2 pb (.cells #[PT m.b 20,VI pick] 211 (0,0)) w.heap.size (.cells #[VI r.h.mode,.bool r.h.sum,.bool r.h.mxr,VU r.h.satp] 134 (0,0)))=>ab u.h' 3 rfl;have ne:Nonempty (Has2 pb (.cells #[PT m.b 20,VI pick] 211 (0,0)) w.heap.size (.cells #[VI r.h.mode,.bool r.h.sum,.bool r.h.mxr,VU r.h.satp] 134 (0,0))):=⟨⟨v1,HP1.out,HF1.out⟩⟩;refine aN (fun w'=>∃u:Has2 pb (.cells #[PT m.b 20,VI pick] 211 (0,0)) w.heap.size (.cells #[VI r.h.mode,.bool r.h.sum,.bool r.h.mxr,VU r.h.satp] 134 (0,0)),w'=u.w) 16 ?_;refine eZ (fuel:=5) ⟨⟨v1.drew,HP1.out,HF1.out⟩,rfl⟩ [0,1,2,3,4,5,6,7,8,9,10,11] ?_;simp only [gX,List.getElem?_toArray,List.getElem?_cons_zero,List.getElem?_cons_succ];repeat (go_big_quiet_step (fail))
 refine wpQuiet_nil ?_;have n2:Bw w v1.drew:=bst HN1.out (brf).drew;have hk:=HR.out.h.ks;have hg:=HR.out.h.v;have S2:SetM v1.drew m.b base m.gi m.gd m.gp r.h.k:=⟨CellsM.keep HC.out n2,HA.out.1.keep n2,HD.out.bi,HD.out.bd,HD.out.bp⟩;refine eh 12 24 rfl ((FI m.b base m.gi m.gd m.gp r.h.k sv r.h.mem r.h.mode r.h.sum r.h.mxr r.h.satp kind va pick v1.drew S2 hg.ks hk.1.1 hk.2.1.1 hk.2.2.1 hk.1.2.2.2 hk.2.1.2.2.2 hk.2.2.2.2.2 (SrcAt.keep HS.out n2) hv0 hv1 HR.out.h.satp.1 HR.out.h.satp.2 hpk.1 hpk.2 hg.mode ⟨hk0,hk2⟩).mono ?_);rintro e v3 ⟨pa,code,rfl,hcode,hans,hset,hkp⟩;have l1:=(bI HA.out.1.1).2.2;have l2:=(bI HA.out.1.2.1).2.2;have l3:=(bI HA.out.1.2.2.1).2.2;simp only at l1 l2 l3;have HP3:=hid (hkp.heap HP1.out HD.out.pi HD.out.pdd HD.out.pp);have HF3:=hid (hkp.heap HF1.out (by omega) (by omega) (by omega));have HFin:Hid ((code=1∨code=2∨code=3)∧(bu false pick r.h kind va).1=(if code=1 then 0 else if code=2 then eR kind else bP kind,pa)∧cA m pb base pick (bu false pick r.h kind va).2 v3∧Kp (cX m pb) w v3):=
  ⟨hcode,hans,⟨hset.2.1,HP3.out⟩,(Kp.of_below _ n2).trans (Kp.of_keeps hkp (.inl rfl) (.inr (.inl rfl)) (.inr (.inr (.inl rfl))))⟩
 clear hcode hans hset hkp S2 n2 hk hg l1 l2 l3;refine .inl ⟨_,rfl,fun _=>⟨⟨v3,HP3.out,HF3.out⟩,rfl⟩,?_⟩
 go_frame
 refine eZ (fuel:=1) ⟨⟨v3,HP3.out,HF3.out⟩,rfl⟩ [13,14,15] ?_;simp only [gX,List.getElem?_toArray,List.getElem?_cons_zero,List.getElem?_cons_succ];repeat (go_big_quiet_step (fail))
 refine wpQuiet_nil ?_;refine ik 16 11 (cM code) rfl (fun _=>⟨⟨v3,HP3.out,HF3.out⟩,rfl⟩) ?_
 go_frame
 refine dt ?_;clear J0 J1 I0 I1 I2 I3 ne;go_wp2_with fail;exact bodyPost_ret (v:=.tuple #[VU pa,cM code]) (by simp [results,Tryz.results244,go_sem]) rfl ⟨pa,code,rfl,HFin.out⟩
theorem qY {f:FenceM} (h1:f.hasVa=true) (h2:dC f.va=false) (es:List EntM):es.map (cx f)=es:=by
 have:∀e,cx f e=e:=fun e=>by unfold cx iM;simp [h1,h2]
 rw [show cx f=id from funext this,List.map_id]
theorem dH {w w':World} {e:TypeId} {size base n g c r:Nat} {cs:List Value} (h:w.ownsRow base e size (SL g n c) n cs) (hg:w.grownBy w' (some r)) (hne:g≠r):w'.ownsRow base e size (SL g n c) n cs:=
 (Kp.of_gb (O:=fun i=>i=r) hg rfl).own h fun g' e he=>hne (by
  have:g=g':=by simpa [Value.ownBlock] using e
  exact this.trans he)
def F0 (z0 z1:Nat):Prop:=∀(X:Nat->Prop) (f:FenceM) (cv:Value) (b o g n base:Nat) (es:List EntM) (w:World) (hn:es.length=n) (hn1:n<=1048576) (hbl:b<w.heap.size) (hbg:b≠g) (hv:inU f.va) (hcv:CovFree X w cv f) (hX:X g)
 (c2:w.cell? ⟨b,o+2,none⟩=some (SL g n n)) (ho:w.ownsRow base z1 6 (SL g n n) n (aI es)) (hlv:∀(j:Nat) (x:EntM),es[j]?=some x->x.valid=true->0<=x.level∧x.level<=2),
 Calls Tryz.prog z0 #[PT b o,cv] w fun x w'=>x=.returned (.tuple #[])∧w'.ownsRow base z1 6 (SL g n n) n (aI (es.map (cx f)))∧w.grownBy w' (some g)
theorem flC:F0 248 246∧F0 249 251:=by
 refine ⟨?_,?_⟩
 ·intro X f cv b o g n base es w hn hn1 hbl hbg hv hcv hX c2 ho hlv;rcases hcv with ⟨h1,h2,rfl⟩ | ⟨h1,pf,pv,rfl,xf,xv,hF,hV⟩
  ·rw [qY h1 h2];exact qR.1 f.hasVa f.va f.hasAsid f.asid 0 0 b o g n base es 0 0 w hn hn1 hbl hbg c2 ho hlv
  ·exact qQ.1 f.hasVa f.va f.hasAsid f.asid pf pv b o g n base es 0 0 w hn hn1 hbl hbg hv.1 hv.2 h1 (fun e=>xf (e ▸ hX)) (fun e=>xv (e ▸ hX)) hF hV c2 ho hlv
 ·intro X f cv b o g n base es w hn hn1 hbl hbg hv hcv hX c2 ho hlv;rcases hcv with ⟨h1,h2,rfl⟩ | ⟨h1,pf,pv,rfl,xf,xv,hF,hV⟩
  ·rw [qY h1 h2];exact qR.2 f.hasVa f.va f.hasAsid f.asid 0 0 b o g n base es 0 0 w hn hn1 hbl hbg c2 ho hlv
  ·exact qQ.2 f.hasVa f.va f.hasAsid f.asid pf pv b o g n base es 0 0 w hn hn1 hbl hbg hv.1 hv.2 h1 (fun e=>xf (e ▸ hX)) (fun e=>xv (e ▸ hX)) hF hV c2 ho hlv
theorem zy {w w1 w2 w3:World} {base gi gd gp:Nat} {k:KM} {f:FenceM} (hk:bJ k=true) (h:RowsAt w base gi gd gp k)
 (h1:w1.ownsRow base 246 6 (SL gi k.i.es.length k.i.es.length) k.i.es.length (aI (k.i.es.map (cx f)))) (h2:w2.ownsRow base 246 6 (SL gd k.d.es.length k.d.es.length) k.d.es.length (aI (k.d.es.map (cx f)))) (h3:w3.ownsRow base 251 6 (SL gp k.p.es.length k.p.es.length) k.p.es.length (aI (k.p.es.map (cx f))))
 (g2:w1.grownBy w2 (some gd)) (g3:w2.grownBy w3 (some gp)):RowsAt w3 base gi gd gp (dD k f):=by
 have hk':=hk;simp only [bJ,Bool.and_eq_true] at hk';have n:=h.2.2.2;unfold dD eO;rw [if_pos (ee hk'.1.1),if_pos (ee hk'.1.2),if_pos (ee hk'.2)];refine ⟨?_,?_,?_,n⟩
 ·show w3.ownsRow base _ 6 (SL gi (k.i.es.map (cx f)).length (k.i.es.map (cx f)).length) (k.i.es.map (cx f)).length _;rw [List.length_map];exact dH (dH h1 g2 n.1) g3 n.2.1
 ·show w3.ownsRow base _ 6 (SL gd (k.d.es.map (cx f)).length (k.d.es.map (cx f)).length) (k.d.es.map (cx f)).length _;rw [List.length_map];exact dH h2 g3 n.2.2
 ·show w3.ownsRow base _ 6 (SL gp (k.p.es.map (cx f)).length (k.p.es.map (cx f)).length) (k.p.es.map (cx f)).length _;rw [List.length_map];exact h3
theorem Eu (X:Nat->Prop) (b base gi gd gp:Nat) (k:KM) (f:FenceM) (cv:Value) (w:World) (hS:SetM w b base gi gd gp k) (hk:bJ k=true) (hl:k.i.es.length<=1048576∧k.d.es.length<=1048576∧k.p.es.length<=1048576) (hv:inU f.va) (hcv:CovFree X w cv f) (hx:X gi∧X gd∧X gp):
 Calls Tryz.prog 247 #[PT b 20,cv] w fun e w'=>e=.returned (.tuple #[])∧RowsAt w' base gi gd gp (dD k f)∧Kp X w w':=by
 have hk':=hk;simp only [bJ,Bool.and_eq_true] at hk';have HKg:Hid _:=hk;have HV:Hid (aR k.i false=true∧aR k.d false=true∧aR k.p true=true):=⟨hk'.1.1,hk'.1.2,hk'.2⟩;have HS:=hid hS;have HL:Hid _:=hl;have HU:=hid hv;have HCv:=hid hcv;have HX:Hid _:=hx;clear hk hk' hS hl hv hcv hx;go_enter Tryz.func247,Tryz.ntmps247;go_wp2_with fail;refine (flC.1 X f cv b 20 gi _ base k.i.es w rfl HL.out.1 HS.out.lt HS.out.2.2.1 HU.out HCv.out HX.out.1 HS.out.cellI.2.2 HS.out.2.1.1 (ew (ee HV.out.1))).mono ?_;rintro e w1 ⟨rfl,o1,g1⟩;have O1:Hid _:=o1;have G1:Hid _:=g1;have C1:=hid (HCv.out.kp (Kp.of_gb g1 HX.out.1));have A1:=hid (HS.out.1.gb g1 HS.out.2.2.1);have L1:=hid (ltl HS.out.lt g1.size);clear o1 g1;go_wp2_with fail;refine (flC.1 X f cv b 23 gd _ base k.d.es w1 rfl HL.out.2.1 L1.out HS.out.2.2.2.1 HU.out C1.out HX.out.2.1 (A1.out.cell 5 _ _ rfl rfl) (dH HS.out.2.1.2.1 G1.out HS.out.2.1.2.2.2.1.symm) (ew (ee HV.out.2.1))).mono ?_;rintro e w2 ⟨rfl,o2,g2⟩;have O2:Hid _:=o2;have G2:Hid _:=g2;have C2:=hid (C1.out.kp (Kp.of_gb g2 HX.out.2.1));have A2:=hid (A1.out.gb g2 HS.out.2.2.2.1);have L2:=hid (ltl L1.out g2.size);clear o2 g2;go_wp2_with fail;refine (flC.2 X f cv b 26 gp _ base k.p.es w2 rfl HL.out.2.2 L2.out HS.out.2.2.2.2 HU.out C2.out HX.out.2.2 (A2.out.cell 8 _ _ rfl rfl) (dH (dH HS.out.2.1.2.2.1 G1.out HS.out.2.1.2.2.2.2.1.symm) G2.out HS.out.2.1.2.2.2.2.2.symm) (ew (ee HV.out.2.2))).mono ?_;rintro e w3 ⟨rfl,o3,g3⟩;have FIN:Hid (RowsAt w3 base gi gd gp (dD k f)∧Kp X w w3):=⟨zy HKg.out HS.out.2.1 O1.out O2.out o3 G2.out g3,((Kp.of_gb G1.out HX.out.1).trans (Kp.of_gb G2.out HX.out.2.1)).trans (Kp.of_gb g3 HX.out.2.2)⟩;clear o3 g3;go_wp2_with fail;exact ⟨rfl,.tuple #[],by kernel_rfl,rfl,FIN.out⟩
theorem De (m:MP) (pb base:Nat) (pick:Int) (hd:CDist m pb) (r:RunM) (cv:Value) (f:FenceM) (w:World) (hA:cA m pb base pick r.h.k w) (hC:CellsM w m.b (iw r.h.k m.gi m.gd m.gp)) (hcv:CovFree (cX m pb) w cv f) (hr:ROk r) (hv:inU f.va):
 Calls Tryz.prog 243 #[PT pb 0,cv] w fun e w'=>e=.returned (.tuple #[])∧cA m pb base pick (dD r.h.k f) w'∧Kp (cX m pb) w w':=by
 have HA:=hid hA;have HD:=hid hd;have hk:=hr.h.ks;have HF:Hid _:=Eu (fun i=>i=m.gi∨i=m.gd∨i=m.gp) m.b base m.gi m.gd m.gp r.h.k f cv w ⟨hC,hA.1,hd.bi,hd.bd,hd.bp⟩ hr.h.v.ks ⟨hk.1.2.2.2,hk.2.1.2.2.2,hk.2.2.2.2.2⟩ hv (by
  rcases hcv with h | ⟨h1,pf,pv,rfl,xf,xv,hF,hV⟩
  ·exact .inl h
  ·refine .inr ⟨h1,pf,pv,rfl,fun h=>xf ?_,fun h=>xv ?_,hF,hV⟩;all_goals (rcases h with h | h | h <;> simp [cX,h])) ⟨.inl rfl,.inr (.inl rfl),.inr (.inr rfl)⟩
 have c0:=ab hA.2 0 (v:=PT m.b 20) rfl;clear hA hC hcv hr hv hk hd;go_enter Tryz.func243,Tryz.ntmps243;go_wp2_with fail;refine Calls.mono HF.out ?_;rintro e w1 ⟨rfl,o1,k1⟩;have FIN:Hid (cA m pb base pick (dD r.h.k f) w1∧Kp (cX m pb) w w1):=⟨⟨o1,k1.heap HA.out.2 (by
  rintro (h | h | h)
  ·exact HD.out.pi h
  ·exact HD.out.pdd h
  ·exact HD.out.pp h)⟩,k1.mono (by
  rintro i (h | h | h)
  ·exact .inl h
  ·exact .inr (.inl h)
  ·exact .inr (.inr (.inl h)))⟩
 clear o1 k1 c0;go_wp2_with fail;exact ⟨rfl,.tuple #[],by kernel_rfl,rfl,FIN.out⟩
end Go.Proofs.YtkenjknmfhoppaaGreat
