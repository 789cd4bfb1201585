import Derived.Test.YtpdddbobhndbjaaGreatPk25
namespace Go.Proofs.YtpdddbobhndbjaaGreat
open Go.RowKit
set_option linter.unusedVariables false
set_option maxHeartbeats 6400000
set_option maxRecDepth 20000
def Dq (w w':World) (e:Ending) (b base gi gd gp:Nat) (kind:Int) (X:(Int × Int) × KM):Prop:=
 ∃pa code,e=.returned (.tuple #[.int .u64 pa,cF code])∧(code=1∨code=2∨code=3)∧X.1=(if code=1 then 0 else if code=2 then eA kind else bL kind,pa)∧SetM w' b base gi gd gp X.2∧Keeps w w' gi gd gp
theorem Dr (b base gi gd gp:Nat) (k:KM) (sv:Value) (zs:List Int) (mode:Int) (sum mxr:Bool) (satp kind va pick:Int) (w:World) (hS:SetM w b base gi gd gp k) (hk:bW k=true) (hki:∀e∈k.i.es,eU e) (hkd:∀e∈k.d.es,eU e) (hko:∀e∈k.p.es,eU e) (hli:k.i.es.length<=1048576) (hld:k.d.es.length<=1048576) (hkl:k.p.es.length<=1048576)
 (hB:SrcAt w sv zs) (hv0:0<=va) (hv1:va<=18446744073709551615) (hr0:0<=satp) (hr1:satp<=18446744073709551615) (hp0:0<=pick) (hp1:pick<=255) (hm:0<=mode∧mode<=2) (hkk:0<=kind∧kind<=2):
 Calls Tryz.prog 160 #[.pointer (some ⟨b,20,none⟩),sv,.agg #[.int .i64 mode,.bool sum,.bool mxr,.int .u64 satp],.int .i64 kind,.int .u64 va,.int .i64 pick] w fun e w'=>Dq w w' e b base gi gd gp kind (cD zs mode sum mxr satp k kind va pick):=by
 have hvs:aQ k.i false=true∧aQ k.d false=true∧aQ k.p true=true:=by
  have hk':=hk;simp only [bW,Bool.and_eq_true] at hk';exact ⟨hk'.1.1,hk'.1.2,hk'.2⟩
 obtain ⟨vI,vD,vP⟩:=hvs;have HS:=hid hS;have HB:=hid hB;have HT0:Hid (cD zs mode sum mxr satp k kind va pick=if onM mode satp=false then ((0,va),k) else if du va=false then ((eA kind,0),k) else if (ba (eQ k kind) va (aM satp)).1=true then (eV (ba (eQ k kind) va (aM satp)).2.2.2 (ba (eQ k kind) va (aM satp)).2.2.1 mode sum mxr kind va,k)
  else (cV (bj zs satp va (ba k.p va (aM satp))) mode sum mxr kind va,if (cV (bj zs satp va (ba k.p va (aM satp))) mode sum mxr kind va).1=0 then sX ⟨k.i,k.d,cG va satp pick (bj zs satp va (ba k.p va (aM satp))).2.2.2 k.p⟩ kind (dg (eQ k kind) (eH (bj zs satp va (ba k.p va (aM satp))).2.1 va satp (bj zs satp va (ba k.p va (aM satp))).2.2.1) pick) else ⟨k.i,k.d,cG va satp pick (bj zs satp va (ba k.p va (aM satp))).2.2.2 k.p⟩)):=by
  show _=_;rw [cD,if_neg (by rw [hk];simp;omega)]
 obtain ⟨onb,hon⟩:∃onb,onM mode satp=onb:=⟨_,rfl⟩;obtain ⟨cnb,hcan⟩:∃cnb,du va=cnb:=⟨_,rfl⟩;have HOn:Hid (∀u:World,Calls Tryz.prog 161 #[.agg #[.int .i64 mode,.bool sum,.bool mxr,.int .u64 satp]] u fun e w'=>e=.returned (.bool onb)∧Bw u w'):=fun u=>by
  have:=jm mode sum mxr satp u hr0 hr1;rw [hon] at this;exact this
 have HCn:Hid (∀u:World,Calls Tryz.prog 104 #[.int .u64 va] u fun e w'=>e=.returned (.bool cnb)∧w'=u):=fun u=>by
  have:=iK va u hv0 hv1;rw [hcan] at this;exact this
 have HLv:=hid fun (u:World)=>vn b kind u;obtain ⟨v1,Ev1,n1,H1,_⟩:=al1 w #[.int .i64 mode,.bool sum,.bool mxr,.int .u64 satp] 172;clear hS hB;have HOnE:=hid hon;have HCnE:=hid hcan;clear hon hcan;go_enter Tryz.func160,Tryz.ntmps160;go_wp2_with fail;rw [Ev1.out];clear Ev1;refine (HOn.out v1).mono ?_;rintro e v2 ⟨rfl,n2⟩;have A2:=bst n1 n2;have H2:=ah H1 n2;clear n1 n2 H1 HOn;cases onb
 ·have hon:=HOnE.out;go_wp2_with fail;refine bodyPost_ret (v:=.tuple #[.int .u64 va,.nilIface]) (by simp [results,Tryz.results160,go_sem]) rfl ⟨va,1,rfl,.inl rfl,?_,?_,Keeps.of_below _ _ _ A2⟩
  ·rw [HT0.out,if_pos hon];simp
  ·rw [HT0.out,if_pos hon];exact HS.out.keep A2
 have hon:=HOnE.out;go_wp2_with fail;refine (HCn.out v2).mono ?_;rintro e v2' ⟨rfl,hv2⟩;rw [hv2];clear hv2 v2';cases cnb
 ·have hcan:=HCnE.out;go_wp2_with fail;refine bodyPost_ret (v:=.tuple #[.int .u64 0,.iface 248 (.agg #[])]) (by simp [results,Tryz.results160,go_sem]) rfl ⟨0,2,rfl,.inr (.inl rfl),?_,?_,Keeps.of_below _ _ _ A2⟩
  ·rw [HT0.out,if_neg (by rw [hon];simp),if_pos hcan];simp
  ·rw [HT0.out,if_neg (by rw [hon];simp),if_pos hcan];exact HS.out.keep A2
 have hcan:=HCnE.out;go_wp2_with fail;refine (HLv.out v2).mono ?_;have A3:=A2;have H3:=H2;clear A2 H2 HLv HCn;obtain ⟨⟨c0,c1,c2,c3⟩,_,_,_,_⟩:=az H3.out;by_cases hkz:kind=0
 ·subst hkz;rw [if_pos rfl];rintro e v3' ⟨rfl,hv3⟩;rw [hv3];clear hv3 v3';have hpk:eQ k 0=k.i:=by unfold eQ;rw [if_pos rfl]
  obtain ⟨⟨fd,ix,lv,pt⟩,hX⟩:∃X,ba k.i va (aM satp)=X:=⟨_,rfl⟩;have HX:=hid hX;have S3:=HS.out.keep A3;obtain ⟨p0,p1,p2⟩:=S3.cellI;have HF:Hid (∀u,Bw w u->Calls Tryz.prog 163 #[.pointer (some ⟨b,20,none⟩),.int .u64 va,.int .u64 (aM satp)] u fun e w'=>e=.returned (.tuple #[.int .i64 ix,.bool fd])∧Bw u w'):=fun u hu=>by
   have S:=HS.out.keep hu;obtain ⟨c0,c1,c2⟩:=S.cellI;have:=pF.1 b 20 gi k.i.es.length k.i va (aM satp) u rfl hli vI S.lt c0 c1 c2 (ef S.2.1.1) hv0 hv1;rw [hX] at this;exact this
  clear hX;go_wp2_with fail;refine (lN satp v2 hr0 hr1).mono ?_;rintro e u ⟨rfl,hu⟩;rw [hu];clear hu u;go_wp2_with fail;refine (HF.out v2 A3).mono ?_;rintro e v4 ⟨rfl,n4⟩;have A4:=bst A3 n4;have H4:=ah H3 n4;clear c0 c1 c2 c3 p0 p1 p2 H3 n4;obtain ⟨⟨c0,c1,c2,c3⟩,_,_,_,_⟩:=az H4.out;cases fd
  ·have hres:cD zs mode sum mxr satp k 0 va pick=(cV (bj zs satp va (ba k.p va (aM satp))) mode sum mxr 0 va,if (cV (bj zs satp va (ba k.p va (aM satp))) mode sum mxr 0 va).1=0 then fh k 0 va satp pick (bj zs satp va (ba k.p va (aM satp))) 1 else fh k 0 va satp pick (bj zs satp va (ba k.p va (aM satp))) 2):=by
    rw [HT0.out,if_neg (by rw [hon];simp),if_neg (by rw [hcan];simp),hpk,if_neg (by rw [HX.out];simp)];simp only [fh,if_true,hpk,show ¬((2:Int)=1) by decide,if_false]
   have HRes:Hid _:=hres;clear hres;go_wp2_with fail;refine (mx b base gi gd gp k sv zs mode sum mxr satp 0 va pick v4 (HS.out.keep A4) hk hko hli hld hkl (HB.out.keep A4) hv0 hv1 hr0 hr1 hp0 hp1).mono ?_;rintro e v5 hw;obtain ⟨pa,code,rfl,hcode,hans,hset,hkp⟩:=hw;have HT5:Hid (SetM v5 b base gi gd gp (cD zs mode sum mxr satp k 0 va pick).2):=by
    rw [HRes.out,hans];simp only;rcases hcode with rfl | rfl | rfl
    ·simp only [if_true];exact hset
    ·have hne:=sg 0;simp only [show ¬((2:Int)=1) by decide,if_false,if_true,hne];exact hset
    ·have hne:=iY 0;simp only [show ¬((3:Int)=1) by decide,show ¬((3:Int)=2) by decide,if_false,hne];have:fh k 0 va satp pick (bj zs satp va (ba k.p va (aM satp))) 3=fh k 0 va satp pick (bj zs satp va (ba k.p va (aM satp))) 2:=by simp [fh]
     rw [<-this];exact hset
   have HA5:Hid ((cD zs mode sum mxr satp k 0 va pick).1=(if code=1 then 0 else if code=2 then eA 0 else bL 0,pa)):=by
    show _=_;rw [HRes.out];exact hans
   have HK5:=hid ((Keeps.of_below _ _ _ A4).trans hkp);obtain ⟨fv,hfv⟩:∃fv,cF code=fv:=⟨_,rfl⟩;have HFv:=hid hfv;rw [hfv];clear hfv hans hset hkp HRes;go_wp2_with fail;exact bodyPost_ret (v:=.tuple #[.int .u64 pa,fv]) (by simp [results,Tryz.results160,go_sem]) rfl ⟨pa,code,by rw [HFv.out],hcode,HA5.out,HT5.out,HK5.out⟩
  ·obtain ⟨q,x,hx,hi,hlv,hpt,_,hxv⟩:=lX k.i va (aM satp) (by rw [HX.out]);rw [HX.out] at hi hlv hpt;simp only at hi hlv hpt;subst hi hlv hpt;have hres:cD zs mode sum mxr satp k 0 va pick=(eV x.pte x.level mode sum mxr 0 va,k):=by
    rw [HT0.out,if_neg (by rw [hon];simp),if_neg (by rw [hcan];simp),hpk,if_pos (by rw [HX.out]),HX.out]
   have HRes:Hid _:=hres;have hok:=hki x (List.mem_of_getElem? hx);have hlx:=dY (dM vI) q x hx hxv;have S4:=HS.out.keep A4;have hql:q<k.i.es.length:=(List.getElem?_eq_some_iff.1 hx).1;obtain ⟨_,_,p2⟩:=S4.cellI;have p2':v4.cell? ⟨b,22,none⟩=some (.slice (some ⟨gi,0,none⟩) k.i.es.length k.i.es.length):=p2;have CE:∀j u,j<6->(fz x)[j]?=some u->v4.cell? ⟨gi,q*6+j,none⟩=some u:=fun j u hj hu=>iM (ef S4.2.1.1) rfl q _ hx j u hj hu;have g0:v4.cell? ⟨gi,q*6,none⟩=some (.int .i64 x.level):=CE 0 _ (by omega) rfl;have g1:v4.cell? ⟨gi,q*6+1,none⟩=some (.int .u64 x.tag):=CE 1 _ (by omega) rfl;have g2:v4.cell? ⟨gi,q*6+2,none⟩=some (.int .u64 x.asid):=CE 2 _ (by omega) rfl;have g3:v4.cell? ⟨gi,q*6+3,none⟩=some (.bool x.glob):=CE 3 _ (by omega) rfl;have g4:v4.cell? ⟨gi,q*6+4,none⟩=some (.bool x.valid):=CE 4 _ (by omega) rfl;have g5:v4.cell? ⟨gi,q*6+5,none⟩=some (.int .u64 x.pte):=CE 5 _ (by omega) rfl;have HTL:Hid (∀u:World,Calls Tryz.prog 166 #[.int .u64 x.pte,.int .i64 x.level,.agg #[.int .i64 mode,.bool sum,.bool mxr,.int .u64 satp],.int .i64 0,.int .u64 va] u fun e w'=>e=.returned (.tuple #[.int .u64 (if dm x.pte 0 mode sum mxr=true then fP x.pte x.level va else 0),cF (if dm x.pte 0 mode sum mxr=true then 1 else 2)])∧Bw u w'):=fun u=>fS x.pte x.level mode sum mxr satp 0 va u hok.2.2.2.1 hok.2.2.2.2 hv0 hv1 (by omega);clear CE p2 hres hx hxv;obtain ⟨v5,Ev5,n5,_,_⟩:=al1 v4 #[.int .i64 x.level,.int .u64 x.tag,.int .u64 x.asid,.bool x.glob,.bool x.valid,.int .u64 x.pte] 190;have lw:w.heap.size<v4.heap.size:=(hpl H4.out);go_wp2_with fail;rw [Ev5.out];clear Ev5;refine (HTL.out v5).mono ?_;have A5:=bst A4 n5;by_cases hgr:dm x.pte 0 mode sum mxr=true
   ·rw [if_pos hgr,if_pos hgr,show cF 1=.nilIface from rfl];rintro e v6 ⟨rfl,N6⟩;have A6:=bst A5 N6;go_wp2_with fail;refine bodyPost_ret (v:=.tuple #[.int .u64 (fP x.pte x.level va),.nilIface]) (by simp [results,Tryz.results160,go_sem]) rfl ⟨_,1,rfl,.inl rfl,?_,?_,Keeps.of_below _ _ _ A6⟩
    ·rw [HRes.out];simp [eV,hgr]
    ·rw [HRes.out];exact HS.out.keep A6
   ·rw [if_neg hgr,if_neg hgr,show cF 2=.iface 248 (.agg #[]) from rfl];rintro e v6 ⟨rfl,N6⟩;have A6:=bst A5 N6;go_wp2_with fail;refine bodyPost_ret (v:=.tuple #[.int .u64 0,.iface 248 (.agg #[])]) (by simp [results,Tryz.results160,go_sem]) rfl ⟨0,2,rfl,.inr (.inl rfl),?_,?_,Keeps.of_below _ _ _ A6⟩
    ·rw [HRes.out];simp [eV,hgr]
    ·rw [HRes.out];exact HS.out.keep A6
 ·rw [if_neg hkz];rintro e v3' ⟨rfl,hv3⟩;rw [hv3];clear hv3 v3';have hpk:eQ k kind=k.d:=by unfold eQ;rw [if_neg hkz]
  obtain ⟨⟨fd,ix,lv,pt⟩,hX⟩:∃X,ba k.d va (aM satp)=X:=⟨_,rfl⟩;have HX:Hid (ba k.d va (aM satp)=(fd,ix,lv,pt)):=hX;have S3:=HS.out.keep A3;obtain ⟨p0,p1,p2⟩:=S3.cellD;have HF:Hid (∀u,Bw w u->Calls Tryz.prog 163 #[.pointer (some ⟨b,23,none⟩),.int .u64 va,.int .u64 (aM satp)] u fun e w'=>e=.returned (.tuple #[.int .i64 ix,.bool fd])∧Bw u w'):=fun u hu=>by
   have S:=HS.out.keep hu;obtain ⟨c0,c1,c2⟩:=S.cellD;have:=pF.1 b 23 gd k.d.es.length k.d va (aM satp) u rfl hld vD S.lt c0 c1 c2 (ef S.2.1.2.1) hv0 hv1;rw [hX] at this;exact this
  clear hX;go_wp2_with fail;refine (lN satp v2 hr0 hr1).mono ?_;rintro e u ⟨rfl,hu⟩;rw [hu];clear hu u;go_wp2_with fail;refine (HF.out v2 A3).mono ?_;rintro e v4 ⟨rfl,n4⟩;have A4:=bst A3 n4;have H4:=ah H3 n4;clear c0 c1 c2 c3 p0 p1 p2 H3 n4;obtain ⟨⟨c0,c1,c2,c3⟩,_,_,_,_⟩:=az H4.out;cases fd
  ·have hres:cD zs mode sum mxr satp k kind va pick=(cV (bj zs satp va (ba k.p va (aM satp))) mode sum mxr kind va,if (cV (bj zs satp va (ba k.p va (aM satp))) mode sum mxr kind va).1=0 then fh k kind va satp pick (bj zs satp va (ba k.p va (aM satp))) 1 else fh k kind va satp pick (bj zs satp va (ba k.p va (aM satp))) 2):=by
    rw [HT0.out,if_neg (by rw [hon];simp),if_neg (by rw [hcan];simp),hpk,if_neg (by rw [HX.out];simp)];simp only [fh,if_true,hpk,show ¬((2:Int)=1) by decide,if_false]
   have HRes:Hid _:=hres;clear hres;go_wp2_with fail;refine (mx b base gi gd gp k sv zs mode sum mxr satp kind va pick v4 (HS.out.keep A4) hk hko hli hld hkl (HB.out.keep A4) hv0 hv1 hr0 hr1 hp0 hp1).mono ?_;rintro e v5 hw;obtain ⟨pa,code,rfl,hcode,hans,hset,hkp⟩:=hw;have HT5:Hid (SetM v5 b base gi gd gp (cD zs mode sum mxr satp k kind va pick).2):=by
    rw [HRes.out,hans];simp only;rcases hcode with rfl | rfl | rfl
    ·simp only [if_true];exact hset
    ·have hne:=sg kind;simp only [show ¬((2:Int)=1) by decide,if_false,if_true,hne];exact hset
    ·have hne:=iY kind;simp only [show ¬((3:Int)=1) by decide,show ¬((3:Int)=2) by decide,if_false,hne];have:fh k kind va satp pick (bj zs satp va (ba k.p va (aM satp))) 3=fh k kind va satp pick (bj zs satp va (ba k.p va (aM satp))) 2:=by simp [fh]
     rw [<-this];exact hset
   have HA5:Hid ((cD zs mode sum mxr satp k kind va pick).1=(if code=1 then 0 else if code=2 then eA kind else bL kind,pa)):=by
    show _=_;rw [HRes.out];exact hans
   have HK5:Hid (Keeps w v5 gi gd gp):=(Keeps.of_below _ _ _ A4).trans hkp;obtain ⟨fv,hfv⟩:∃fv,cF code=fv:=⟨_,rfl⟩;have HFv:Hid (cF code=fv):=hfv;rw [hfv];clear hfv hans hset hkp HRes;go_wp2_with fail;exact bodyPost_ret (v:=.tuple #[.int .u64 pa,fv]) (by simp [results,Tryz.results160,go_sem]) rfl ⟨pa,code,by rw [HFv.out],hcode,HA5.out,HT5.out,HK5.out⟩
  ·obtain ⟨q,x,hx,hi,hlv,hpt,_,hxv⟩:=lX k.d va (aM satp) (by rw [HX.out]);rw [HX.out] at hi hlv hpt;simp only at hi hlv hpt;subst hi hlv hpt;have hres:cD zs mode sum mxr satp k kind va pick=(eV x.pte x.level mode sum mxr kind va,k):=by
    rw [HT0.out,if_neg (by rw [hon];simp),if_neg (by rw [hcan];simp),hpk,if_pos (by rw [HX.out]),HX.out]
   have HRes:Hid _:=hres;have hok:=hkd x (List.mem_of_getElem? hx);have hlx:=dY (dM vD) q x hx hxv;have S4:=HS.out.keep A4;have hql:q<k.d.es.length:=(List.getElem?_eq_some_iff.1 hx).1;obtain ⟨_,_,p2⟩:=S4.cellD;have p2':v4.cell? ⟨b,25,none⟩=some (.slice (some ⟨gd,0,none⟩) k.d.es.length k.d.es.length):=p2;have CE:∀j u,j<6->(fz x)[j]?=some u->v4.cell? ⟨gd,q*6+j,none⟩=some u:=fun j u hj hu=>iM (ef S4.2.1.2.1) rfl q _ hx j u hj hu;have g0:v4.cell? ⟨gd,q*6,none⟩=some (.int .i64 x.level):=CE 0 _ (by omega) rfl;have g1:v4.cell? ⟨gd,q*6+1,none⟩=some (.int .u64 x.tag):=CE 1 _ (by omega) rfl;have g2:v4.cell? ⟨gd,q*6+2,none⟩=some (.int .u64 x.asid):=CE 2 _ (by omega) rfl;have g3:v4.cell? ⟨gd,q*6+3,none⟩=some (.bool x.glob):=CE 3 _ (by omega) rfl;have g4:v4.cell? ⟨gd,q*6+4,none⟩=some (.bool x.valid):=CE 4 _ (by omega) rfl;have g5:v4.cell? ⟨gd,q*6+5,none⟩=some (.int .u64 x.pte):=CE 5 _ (by omega) rfl;have HTL:Hid (∀u:World,Calls Tryz.prog 166 #[.int .u64 x.pte,.int .i64 x.level,.agg #[.int .i64 mode,.bool sum,.bool mxr,.int .u64 satp],.int .i64 kind,.int .u64 va] u fun e w'=>e=.returned (.tuple #[.int .u64 (if dm x.pte kind mode sum mxr=true then fP x.pte x.level va else 0),cF (if dm x.pte kind mode sum mxr=true then 1 else 2)])∧Bw u w'):=fun u=>fS x.pte x.level mode sum mxr satp kind va u hok.2.2.2.1 hok.2.2.2.2 hv0 hv1 (by omega);clear CE p2 hres hx hxv;obtain ⟨v5,Ev5,n5,_,_⟩:=al1 v4 #[.int .i64 x.level,.int .u64 x.tag,.int .u64 x.asid,.bool x.glob,.bool x.valid,.int .u64 x.pte] 190;have lw:w.heap.size<v4.heap.size:=(hpl H4.out);go_wp2_with fail;rw [Ev5.out];clear Ev5;refine (HTL.out v5).mono ?_;have A5:=bst A4 n5;by_cases hgr:dm x.pte kind mode sum mxr=true
   ·rw [if_pos hgr,if_pos hgr,show cF 1=.nilIface from rfl];rintro e v6 ⟨rfl,N6⟩;have A6:=bst A5 N6;go_wp2_with fail;refine bodyPost_ret (v:=.tuple #[.int .u64 (fP x.pte x.level va),.nilIface]) (by simp [results,Tryz.results160,go_sem]) rfl ⟨_,1,rfl,.inl rfl,?_,?_,Keeps.of_below _ _ _ A6⟩
    ·rw [HRes.out];simp [eV,hgr]
    ·rw [HRes.out];exact HS.out.keep A6
   ·rw [if_neg hgr,if_neg hgr,show cF 2=.iface 248 (.agg #[]) from rfl];rintro e v6 ⟨rfl,N6⟩;have A6:=bst A5 N6;go_wp2_with fail;refine bodyPost_ret (v:=.tuple #[.int .u64 0,.iface 248 (.agg #[])]) (by simp [results,Tryz.results160,go_sem]) rfl ⟨0,2,rfl,.inr (.inl rfl),?_,?_,Keeps.of_below _ _ _ A6⟩
    ·rw [HRes.out];simp [eV,hgr]
    ·rw [HRes.out];exact HS.out.keep A6
section
attribute [local go_sem ↓] Go.wp_at_zero Go.wp_at_succ
def nf (z0:Nat) (z1:Nat):Prop:=∀(hv:Bool) (fva:Int) (ha:Bool) (fa:Int) (pf pv b o g n base:Nat) (es:List EntM) (sets ways:Int) (w:World) (hn:es.length=n) (hn1:n<=1048576) (hbl:b<w.heap.size) (hbg:b≠g) (hv0:0<=fva) (hv1:fva<=18446744073709551615) (hcan:hv=false∨du fva=true) (hpf:pf≠g) (hpv:pv≠g) (hF:w.heap[pf]?=some (.cells #[.bool hv,.int .u64 fva,.bool ha,.int .u64 fa] 49 (0,0))) (hV:w.heap[pv]?=some (.cells #[.int .u64 fva] 205 (0,0)))
 (c2:w.cell? ⟨b,o+2,none⟩=some (.slice (some ⟨g,0,none⟩) n n)) (ho:w.ownsRow base z1 6 (.slice (some ⟨g,0,none⟩) n n) n (aH es)) (hlv:∀(j:Nat) (x:EntM),es[j]?=some x->x.valid=true->0<=x.level∧x.level<=2),Calls Tryz.prog z0 #[.pointer (some ⟨b,o,none⟩),.func (.func 106) #[] #[.pointer (some ⟨pf,0,none⟩),.pointer (some ⟨pv,0,none⟩)]] w fun x w'=>x=.returned (.tuple #[])∧w'.ownsRow base z1 6 (.slice (some ⟨g,0,none⟩) n n) n (aH (es.map (cj ⟨hv,fva,ha,fa⟩)))∧w.grownBy w' (some g)
theorem pP:nf 204 190∧nf 205 195:=by
 refine ⟨?_,?_⟩;have mL:=trivial
 rotate_left
 have mP:=trivial
 rotate_left
 all_goals
  intro hv fva ha fa pf pv b o g n base es sets ways w hn hn1 hbl hbg hv0 hv1 hcan hpf hpv hF hV c2 ho hlv;first
   | (replace mL:=mL;have HO:Hid (w.ownsRow base 190 6 (.slice (some ⟨g,0,none⟩) n n) n (aH es)):=ho)
   | (replace mP:=mP;have HO:Hid (w.ownsRow base 195 6 (.slice (some ⟨g,0,none⟩) n n) n (aH es)):=ho)
  have HN:=hid hn;have HLv:=hid hlv;have hg:=(bZ ho).2.2;simp only at hg;clear ho hn hlv;first
   | (replace mL:=mL;go_enter Tryz.func204,Tryz.ntmps204)
   | (replace mP:=mP;go_enter Tryz.func205,Tryz.ntmps205)
  go_wp2_with fail;first
   | (replace mL:=mL;go_loopw [11] (fun i wr=>∃k:Nat,k<=n∧i=.int .i64 k∧w.grownBy wr (some g)∧wr.ownsRow base 190 6 (.slice (some ⟨g,0,none⟩) n n) n (aH (bH ⟨hv,fva,ha,fa⟩ k es))) (fun i _=>n-(intOf i).toNat))
   | (replace mP:=mP;go_loopw [11] (fun i wr=>∃k:Nat,k<=n∧i=.int .i64 k∧w.grownBy wr (some g)∧wr.ownsRow base 195 6 (.slice (some ⟨g,0,none⟩) n n) n (aH (bH ⟨hv,fva,ha,fa⟩ k es))) (fun i _=>n-(intOf i).toNat))
  case atStart=>exact ⟨0,Nat.zero_le _,rfl,aq _ _,by rw [show bH ⟨hv,fva,ha,fa⟩ 0 es=es by simp [bH]];exact HO.out⟩
  case round=>
   obtain ⟨k,hk,rfl,hgb,hO⟩:=hrel;first
    | (replace mL:=mL;have PO:Hid (wr.ownsRow base 190 6 (.slice (some ⟨g,0,none⟩) n n) n (aH (bH ⟨hv,fva,ha,fa⟩ k es))):=hO)
    | (replace mP:=mP;have PO:Hid (wr.ownsRow base 195 6 (.slice (some ⟨g,0,none⟩) n n) n (aH (bH ⟨hv,fva,ha,fa⟩ k es))):=hO)
   have lr:=hgb.size;have hfl:=hO.1;clear hO;have r2:=oh hgb c2 hbl hbg;by_cases hlt:k<n
   ·obtain ⟨⟨vv,lv,tg,asd,gl,pt⟩,hx⟩:∃x,es[k]?=some x:=⟨_,List.getElem?_eq_getElem (by rw [HN.out];exact hlt)⟩;have hx':(bH ⟨hv,fva,ha,fa⟩ k es)[k]?=some ⟨vv,lv,tg,asd,gl,pt⟩:=by
     first
      | exact hx
      | (unfold bH
         have hkl:k<=es.length:=by rw [HN.out];omega
         rw [List.getElem?_append_right (by simp;omega),List.length_map,List.length_take,Nat.min_eq_left hkl,Nat.sub_self,List.getElem?_drop,Nat.add_zero,hx])
    have HXk:=hid hx;have CE:∀j u,j<6->(fz ⟨vv,lv,tg,asd,gl,pt⟩)[j]?=some u->wr.cell? ⟨g,k*6+j,none⟩=some u:=fun j u hj hu=>po PO.out (by have:=hfl;rw [et] at this;omega) k _ hx' j u hj hu;have g0:wr.cell? ⟨g,k*6,none⟩=some (.int .i64 lv):=CE 0 _ (by omega) rfl;have g1:wr.cell? ⟨g,k*6+1,none⟩=some (.int .u64 tg):=CE 1 _ (by omega) rfl;have g2:wr.cell? ⟨g,k*6+2,none⟩=some (.int .u64 asd):=CE 2 _ (by omega) rfl;have g3:wr.cell? ⟨g,k*6+3,none⟩=some (.bool gl):=CE 3 _ (by omega) rfl;have g4:wr.cell? ⟨g,k*6+4,none⟩=some (.bool vv):=CE 4 _ (by omega) rfl;have g5:wr.cell? ⟨g,k*6+5,none⟩=some (.int .u64 pt):=CE 5 _ (by omega) rfl;have HNx:Hid _:=nU ⟨hv,fva,ha,fa⟩ k es _ hx;have HSm:Hid ((bH ⟨hv,fva,ha,fa⟩ k es).set k ⟨vv,lv,tg,asd,gl,pt⟩=bH ⟨hv,fva,ha,fa⟩ k es):=by
     show _=_;apply List.ext_getElem?;intro j;rw [List.getElem?_set];by_cases hj:k=j
     ·subst hj;have hkl:=(List.getElem?_eq_some_iff.1 hx').1;rw [if_pos rfl,if_pos hkl,hx']
     ·rw [if_neg hj]
    have HLx:Hid (vv=true->0<=lv∧lv<=2):=fun h=>HLv.out k _ hx h;clear CE hx hx';first
     | (replace mL:=mL;have n5:=(Below.refl wr.heap.size wr).alloc nle (Obj.cells #[.int .i64 lv,.int .u64 tg,.int .u64 asd,.bool gl,.bool vv,.int .u64 pt] 190))
     | (replace mP:=mP;have n5:=(Below.refl wr.heap.size wr).alloc nle (Obj.cells #[.int .i64 lv,.int .u64 tg,.int .u64 asd,.bool gl,.bool vv,.int .u64 pt] 195))
    have hgb5:=fE hgb n5;cases vv
    ·have hst:cj ⟨hv,fva,ha,fa⟩ ⟨false,lv,tg,asd,gl,pt⟩=⟨false,lv,tg,asd,gl,pt⟩:=by simp [cj]
     go_wp2_with fail;go_roundw
     case rel=>exact ⟨k+1,by omega,by go_num,hgb5,by rw [HNx.out,hst,HSm.out];exact aj PO.out n5⟩
     case measure=>simp [intOf];omega
    ·obtain ⟨hl0,hl2⟩:=HLx.out rfl;obtain ⟨cb,hcb⟩:∃cb,il ⟨hv,fva,ha,fa⟩ lv tg asd gl=cb:=⟨_,rfl⟩;have hst:cj ⟨hv,fva,ha,fa⟩ ⟨true,lv,tg,asd,gl,pt⟩=if cb=true then cK else ⟨true,lv,tg,asd,gl,pt⟩:=by simp [cj,hcb]
     have HSt:Hid _:=hst;have HCv:Hid (∀u:World,u.heap[pf]?=some (.cells #[.bool hv,.int .u64 fva,.bool ha,.int .u64 fa] 49 (0,0))->u.heap[pv]?=some (.cells #[.int .u64 fva] 205 (0,0))->Calls Tryz.prog 106 #[.agg #[.int .i64 lv,.int .u64 tg,.int .u64 asd,.bool gl],.pointer (some ⟨pf,0,none⟩),.pointer (some ⟨pv,0,none⟩)] u fun e w'=>e=.returned (.bool cb)∧Bw u w'):=fun u h1 h2=>by
      have:=xC hv fva ha fa lv tg asd gl pf pv u (by omega) hv0 hv1 h1 h2;rw [vf _ _ _ _ _ hcan,hcb] at this;exact this
     have F5:=aC hF hgb5 hpf;have V5:=aC hV hgb5 hpv;clear hcb hst;go_wp2_with fail;first
      | (replace mL:=mL;generalize wr.alloc (Obj.cells #[.int .i64 lv,.int .u64 tg,.int .u64 asd,.bool gl,.bool true,.int .u64 pt] 190)=v5 at n5 hgb5 F5 V5 |-)
      | (replace mP:=mP;generalize wr.alloc (Obj.cells #[.int .i64 lv,.int .u64 tg,.int .u64 asd,.bool gl,.bool true,.int .u64 pt] 195)=v5 at n5 hgb5 F5 V5 |-)
     refine (HCv.out v5 F5 V5).mono ?_;rintro e v6 ⟨rfl,n6⟩;have n56:=bst n5 n6;have hgb6:=fE hgb n56;first
      | (replace mL:=mL;have SO:Hid (v6.ownsRow base 190 6 (.slice (some ⟨g,0,none⟩) n n) n (aH (bH ⟨hv,fva,ha,fa⟩ k es))):=aj PO.out n56)
      | (replace mP:=mP;have SO:Hid (v6.ownsRow base 195 6 (.slice (some ⟨g,0,none⟩) n n) n (aH (bH ⟨hv,fva,ha,fa⟩ k es))):=aj PO.out n56)
     clear g0 g1 g2 g3 g4 g5 r2 F5 V5 n5 n6 hgb5 hgb;have r2:=oh hgb6 c2 hbl hbg;cases cb
     ·go_wp2_with fail;go_roundw
      case rel=>exact ⟨k+1,by omega,by go_num,hgb6,by rw [HNx.out,HSt.out];simp only [Bool.false_eq_true,if_false];rw [HSm.out];exact SO.out⟩
      case measure=>simp [intOf];omega
     ·
      have q0:=aB SO.out (k*6) _ (List.getElem?_eq_getElem (by omega));have q1:=aB SO.out (k*6+1) _ (List.getElem?_eq_getElem (by omega));have q2:=aB SO.out (k*6+2) _ (List.getElem?_eq_getElem (by omega));have q3:=aB SO.out (k*6+3) _ (List.getElem?_eq_getElem (by omega));have q4:=aB SO.out (k*6+4) _ (List.getElem?_eq_getElem (by omega));have q5:=aB SO.out (k*6+5) _ (List.getElem?_eq_getElem (by omega));generalize (aH (bH ⟨hv,fva,ha,fa⟩ k es))[k*6]'_=y0 at q0;generalize (aH (bH ⟨hv,fva,ha,fa⟩ k es))[k*6+1]'_=y1 at q1;generalize (aH (bH ⟨hv,fva,ha,fa⟩ k es))[k*6+2]'_=y2 at q2;generalize (aH (bH ⟨hv,fva,ha,fa⟩ k es))[k*6+3]'_=y3 at q3;generalize (aH (bH ⟨hv,fva,ha,fa⟩ k es))[k*6+4]'_=y4 at q4;generalize (aH (bH ⟨hv,fva,ha,fa⟩ k es))[k*6+5]'_=y5 at q5;have s0:=aO SO.out (k*6);have s1:=aO SO.out (k*6+1);have s2:=aO SO.out (k*6+2);have s3:=aO SO.out (k*6+3);have s4:=aO SO.out (k*6+4);have s5:=aO SO.out (k*6+5);go_wp2_with fail;go_roundw
      case rel=>
       refine ⟨k+1,by omega,by go_num,ak (ak (ak (ak (ak (ak hgb6 _ _) _ _) _ _) _ _) _ _) _ _,?_⟩;rw [HNx.out,HSt.out,if_pos (by trivial),ic _ _ _ (by rw [jj,HN.out];exact hlt)];exact aF (aF (aF (aF (aF (aF SO.out _ _) _ _) _ _) _ _) _ _) _ _
      case measure=>simp [intOf];omega
   ·have hkn:k=n:=by omega
    subst hkn;go_wp2_with fail;go_end0;refine ⟨rfl,?_,hgb⟩;have hO:=PO.out;have hsn:bH ⟨hv,fva,ha,fa⟩ k es=es.map (cj ⟨hv,fva,ha,fa⟩):=by
     have hq:=HN.out;unfold bH;rw [<-hq,List.take_length,List.drop_length,List.append_nil]
    rw [hsn] at hO;exact hO
def nh (z0:Nat) (z1:Nat):Prop:=∀(hv:Bool) (fva:Int) (ha:Bool) (fa:Int) (pf pv b o g n base:Nat) (es:List EntM) (sets ways:Int) (w:World) (hn:es.length=n) (hn1:n<=1048576) (hbl:b<w.heap.size) (hbg:b≠g)
 (c2:w.cell? ⟨b,o+2,none⟩=some (.slice (some ⟨g,0,none⟩) n n)) (ho:w.ownsRow base z1 6 (.slice (some ⟨g,0,none⟩) n n) n (aH es)) (hlv:∀(j:Nat) (x:EntM),es[j]?=some x->x.valid=true->0<=x.level∧x.level<=2),Calls Tryz.prog z0 #[.pointer (some ⟨b,o,none⟩),.func (.func 105) #[] #[]] w fun x w'=>x=.returned (.tuple #[])∧w'.ownsRow base z1 6 (.slice (some ⟨g,0,none⟩) n n) n (aH (es))∧w.grownBy w' (some g)
theorem pQ:nh 204 190∧nh 205 195:=by
 refine ⟨?_,?_⟩;have mL:=trivial
 rotate_left
 have mP:=trivial
 rotate_left
 all_goals
  intro hv fva ha fa pf pv b o g n base es sets ways w hn hn1 hbl hbg c2 ho hlv;first
   | (replace mL:=mL;have HO:Hid (w.ownsRow base 190 6 (.slice (some ⟨g,0,none⟩) n n) n (aH es)):=ho)
   | (replace mP:=mP;have HO:Hid (w.ownsRow base 195 6 (.slice (some ⟨g,0,none⟩) n n) n (aH es)):=ho)
  have HN:=hid hn;have HLv:=hid hlv;have hg:=(bZ ho).2.2;simp only at hg;clear ho hn hlv;first
   | (replace mL:=mL;go_enter Tryz.func204,Tryz.ntmps204)
   | (replace mP:=mP;go_enter Tryz.func205,Tryz.ntmps205)
  go_wp2_with fail;first
   | (replace mL:=mL;go_loopw [11] (fun i wr=>∃k:Nat,k<=n∧i=.int .i64 k∧w.grownBy wr (some g)∧wr.ownsRow base 190 6 (.slice (some ⟨g,0,none⟩) n n) n (aH (es))) (fun i _=>n-(intOf i).toNat))
   | (replace mP:=mP;go_loopw [11] (fun i wr=>∃k:Nat,k<=n∧i=.int .i64 k∧w.grownBy wr (some g)∧wr.ownsRow base 195 6 (.slice (some ⟨g,0,none⟩) n n) n (aH (es))) (fun i _=>n-(intOf i).toNat))
  case atStart=>exact ⟨0,Nat.zero_le _,rfl,aq _ _,HO.out⟩
  case round=>
   obtain ⟨k,hk,rfl,hgb,hO⟩:=hrel;first
    | (replace mL:=mL;have PO:Hid (wr.ownsRow base 190 6 (.slice (some ⟨g,0,none⟩) n n) n (aH (es))):=hO)
    | (replace mP:=mP;have PO:Hid (wr.ownsRow base 195 6 (.slice (some ⟨g,0,none⟩) n n) n (aH (es))):=hO)
   have lr:=hgb.size;have hfl:=hO.1;clear hO;have r2:=oh hgb c2 hbl hbg;by_cases hlt:k<n
   ·obtain ⟨⟨vv,lv,tg,asd,gl,pt⟩,hx⟩:∃x,es[k]?=some x:=⟨_,List.getElem?_eq_getElem (by rw [HN.out];exact hlt)⟩;have hx':(es)[k]?=some ⟨vv,lv,tg,asd,gl,pt⟩:=by
     first
      | exact hx
      | (unfold bH
         have hkl:k<=es.length:=by rw [HN.out];omega
         rw [List.getElem?_append_right (by simp;omega),List.length_map,List.length_take,Nat.min_eq_left hkl,Nat.sub_self,List.getElem?_drop,Nat.add_zero,hx])
    have HXk:=hid hx;have CE:∀j u,j<6->(fz ⟨vv,lv,tg,asd,gl,pt⟩)[j]?=some u->wr.cell? ⟨g,k*6+j,none⟩=some u:=fun j u hj hu=>po PO.out (by have:=hfl;rw [et] at this;omega) k _ hx' j u hj hu;have g0:wr.cell? ⟨g,k*6,none⟩=some (.int .i64 lv):=CE 0 _ (by omega) rfl;have g1:wr.cell? ⟨g,k*6+1,none⟩=some (.int .u64 tg):=CE 1 _ (by omega) rfl;have g2:wr.cell? ⟨g,k*6+2,none⟩=some (.int .u64 asd):=CE 2 _ (by omega) rfl;have g3:wr.cell? ⟨g,k*6+3,none⟩=some (.bool gl):=CE 3 _ (by omega) rfl;have g4:wr.cell? ⟨g,k*6+4,none⟩=some (.bool vv):=CE 4 _ (by omega) rfl;have g5:wr.cell? ⟨g,k*6+5,none⟩=some (.int .u64 pt):=CE 5 _ (by omega) rfl;have HSm:Hid ((es).set k ⟨vv,lv,tg,asd,gl,pt⟩=es):=by
     show _=_;apply List.ext_getElem?;intro j;rw [List.getElem?_set];by_cases hj:k=j
     ·subst hj;have hkl:=(List.getElem?_eq_some_iff.1 hx').1;rw [if_pos rfl,if_pos hkl,hx']
     ·rw [if_neg hj]
    have HLx:Hid (vv=true->0<=lv∧lv<=2):=fun h=>HLv.out k _ hx h;clear CE hx hx';first
     | (replace mL:=mL;have n5:=(Below.refl wr.heap.size wr).alloc nle (Obj.cells #[.int .i64 lv,.int .u64 tg,.int .u64 asd,.bool gl,.bool vv,.int .u64 pt] 190))
     | (replace mP:=mP;have n5:=(Below.refl wr.heap.size wr).alloc nle (Obj.cells #[.int .i64 lv,.int .u64 tg,.int .u64 asd,.bool gl,.bool vv,.int .u64 pt] 195))
    have hgb5:=fE hgb n5;cases vv
    ·go_wp2_with fail;go_roundw
     case rel=>exact ⟨k+1,by omega,by go_num,hgb5,aj PO.out n5⟩
     case measure=>simp [intOf];omega
    ·go_wp2_with fail;first
      | (replace mL:=mL;generalize wr.alloc (Obj.cells #[.int .i64 lv,.int .u64 tg,.int .u64 asd,.bool gl,.bool true,.int .u64 pt] 190)=v5 at n5 hgb5 |-)
      | (replace mP:=mP;generalize wr.alloc (Obj.cells #[.int .i64 lv,.int .u64 tg,.int .u64 asd,.bool gl,.bool true,.int .u64 pt] 195)=v5 at n5 hgb5 |-)
     refine (xB lv tg asd gl v5).mono ?_;rintro e v6 ⟨rfl,n6⟩;have n56:=bst n5 n6;have hgb6:=fE hgb n56;go_wp2_with fail;go_roundw
     case rel=>exact ⟨k+1,by omega,by go_num,hgb6,aj PO.out n56⟩
     case measure=>simp [intOf];omega
   ·have hkn:k=n:=by omega
    subst hkn;go_wp2_with fail;go_end0;refine ⟨rfl,?_,hgb⟩;have hO:=PO.out;exact hO
end
end Go.Proofs.YtpdddbobhndbjaaGreat
