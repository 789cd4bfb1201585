import Derived.Test.YthdgiakgepmabaaGreatDk16
namespace Go.Proofs.YthdgiakgepmabaaGreat
open Go.RowKit
set_option linter.unusedVariables false
set_option maxHeartbeats 6400000
set_option maxRecDepth 20000
def Gg (w w':World) (e:Ending) (b base gi gd gp:Nat) (k:KM) (r:Int × Int × Int × List aP) (mode:Int) (sum mxr:Bool) (satp kind va pick:Int):Prop:=
 ∃pa code,e=.returned (.tuple #[VU pa,cu code])∧(code=1∨code=2∨code=3)∧cK r mode sum mxr kind va=(if code=1 then 0 else if code=2 then eU kind else bO kind,pa)∧SetM w' b base gi gd gp (fo k kind va satp pick r code)∧Keeps w w' gi gd gp
theorem mY (b base gi gd gp:Nat) (k:KM) (sv:Value) (zs:List Int) (mode:Int) (sum mxr:Bool) (satp kind va pick:Int) (w:World) (hS:SetM w b base gi gd gp k) (hk:cz k=true) (hko:∀e∈k.p.es,iH e) (hli:k.i.es.length<=1048576) (hld:k.d.es.length<=1048576) (hkl:k.p.es.length<=1048576)
 (hB:SrcAt w sv zs) (hv0:0<=va) (hv1:va<=18446744073709551615) (hr0:0<=satp) (hr1:satp<=18446744073709551615) (hp0:0<=pick) (hp1:pick<=255):
 Calls Tryz.prog 197 #[PT b 20,sv,.agg #[VI mode,.bool sum,.bool mxr,VU satp],VI kind,VU va,VI pick] w fun e w'=>Gg w w' e b base gi gd gp k (aX zs satp va (bX k.p va (aN satp))) mode sum mxr satp kind va pick:=by
 have hvs:aY k.i false=true∧aY k.d false=true∧aY k.p true=true:=by
  simp only [cz,Bool.and_eq_true] at hk;exact ⟨hk.1.1,hk.1.2,hk.2⟩
 obtain ⟨vI,vD,vP⟩:=hvs;obtain ⟨ps,hsp,hpl⟩:=mV zs satp va k.p (aN satp) vP hB.bd;have HS:=hid hS;have HB:=hid hB;have hb:=hS.lt;have lgi:=(cQ hS.2.1.1).2.2;have lgd:=(cQ hS.2.1.2.1).2.2;have lgp:=(cQ hS.2.1.2.2.1).2.2;simp only at lgi lgd lgp;have HWk:=hid fun u (hu:Bw w u)=>Dg b base gi gd gp k sv zs satp va u (HS.out.keep hu) vP hko hkl (HB.out.keep hu) hv0 hv1 hr0 hr1;have HA:=hid fun (u:World)=>kj satp u hr0 hr1;generalize aX zs satp va (bX k.p va (aN satp))=r at *;have HSp:=hid hsp;obtain ⟨v1,Ev1,n1,H1,l1⟩:=al1 w #[VI mode,.bool sum,.bool mxr,VU satp] 110;clear hS hB hsp;go_enter Tryz.func197,Tryz.ntmps197;go_wp2_with fail;rw [Ev1.out];clear Ev1;refine (HA.out v1).mono ?_;rintro e v1' ⟨rfl,rfl⟩;rename World=>v1;obtain ⟨⟨c0,c1,c2,c3⟩,_,_,_,_⟩:=aO H1.out;go_wp2_with fail;refine (HWk.out v1 n1).mono ?_;rintro e v2 ⟨hw,n2⟩;obtain ⟨ra,rc,rfl,o2⟩:=hw;obtain ⟨cd,lv,lf,rs⟩:=r;simp only at o2 |-;obtain ⟨fv,hfv⟩:∃fv,cu cd=fv:=⟨_,rfl⟩;have HFv:=hid hfv;rw [hfv];clear hfv;have n3:=n2.alloc n2.size (Obj.cells #[VI lv,VU lf,.slice ra rs.length rc] 284);have n3':=(Below.refl v2.heap.size v2).alloc nle (Obj.cells #[VI lv,VU lf,.slice ra rs.length rc] 284);have H3:=ah H1 n3;have W3:Hid ((v2.alloc (Obj.cells #[VI lv,VU lf,.slice ra rs.length rc] 284)).heap[v2.heap.size]?=some (.cells #[VI lv,VU lf,.slice ra rs.length rc] 284 (0,0))):=fC v2 _;have RO3:=aq o2 n3';have A3:=bst n1 n3;have s2:=n2.size;have s1:=n1.size;have s3:=n3'.size;clear c0 c1 c2 c3 n1 n2 n3 n3' o2 HWk HA;go_wp2_with fail;generalize v2.alloc (Obj.cells #[VI lv,VU lf,.slice ra rs.length rc] 284)=v3 at H3 W3 RO3 A3 s3 |-;have HPt:Hid (Calls Tryz.prog 166 #[.agg #[VI lv,VU lf,.slice ra rs.length rc]] v3 fun e w'=>(∃gr,e=.returned (.slice gr ps.length rc)∧(0<ps.length->∃gq,gr=some (AD gq 0)∧v1.heap.size<=gq∧gq<v3.heap.size∧RowC v3 (some (AD gq 0)) rs.length 3 (cj rs)))∧Bw v3 w'):=by
  rcases HSp.out.2 with ⟨e1,⟨ad,e2⟩,e3,e4,e5,e6⟩ | ⟨e1,e2,e3⟩
  ·simp only at e1 e2 e3 e4 e5 e6;have hlf:lf≠0:=by rintro rfl;exact absurd e3 (sa _)
   have hrl:rs.length=ps.length+1:=by rw [e2];simp
   rcases RO3.2 with ⟨h2,h3⟩ | ⟨gq,cq,cur,h2,hb2,hg2,hc1,hc2,_⟩
   ·omega
   ·cases h2;have hat:=cQ RO3;have:=nh lv lf gq ps.length rc v3 hlf (by omega) (by omega) (by unfold maxLen at hc2;omega);rw [hrl];refine this.mono ?_;rintro e w' ⟨rfl,nb⟩;exact ⟨⟨_,rfl,fun _=>⟨gq,rfl,hb2,hat.2.2,by rw [<-hrl];exact eC RO3⟩⟩,nb⟩
  ·simp only at e1 e2 e3;subst e2;subst e3;refine (mZ lv ra rs.length rc v3).mono ?_;rintro e w' ⟨rfl,nb⟩;refine ⟨⟨_,rfl,fun hpos=>?_⟩,nb⟩;rcases RO3.2 with ⟨h2,h3⟩ | ⟨gq,cq,cur,h2,hb2,hg2,hc1,hc2,_⟩
   ·omega
   ·cases h2;exact ⟨gq,rfl,hb2,(cQ RO3).2.2,eC RO3⟩
 refine HPt.out.mono ?_;rintro e v4 ⟨⟨gr,rfl,hgr⟩,n4⟩;have HGr:=hid hgr;have H4:=ah H3 n4;have W4:=ah W3 n4;have A4:=bst A3 n4;have S4:=HS.out.keep A4;have HN4:=hid n4;have s4:=n4.size;clear hgr HPt H3 W3 RO3 n4 A3;go_wp2;go_loopw [35] (fun i wr=>∃j:Nat,j<=ps.length∧i=VI j∧SetM wr b base gi gd gp ⟨k.i,k.d,db va satp pick (ps.take j) k.p⟩∧Keeps v4 wr gi gd gp) (fun i _=>ps.length-(intOf i).toNat)
 case atStart=>exact ⟨0,Nat.zero_le _,rfl,by simpa [db] using S4,Keeps.refl _ _ _ _⟩
 case round=>
  obtain ⟨j,hj,rfl,hSr,hKr⟩:=hrel;have SR:=hid hSr;have KR:=hid hKr;have sr:=hKr.2.2.2.1;clear hSr hKr;by_cases hlt:j<ps.length
  ·obtain ⟨gq,rfl,hq1,hq2,hq3⟩:=HGr.out (by omega);obtain ⟨q,hq⟩:∃q,ps[j]?=some q:=⟨_,geg hlt⟩;have hrq:rs[j]?=some q:=by
    rcases HSp.out.2 with ⟨_,⟨ad,e2⟩,_⟩ | ⟨_,e2,_⟩
    ·simp only at e2;rw [e2,List.getElem?_append_left hlt];exact hq
    ·simp only at e2;rw [e2];exact hq
   have hrl:=(List.getElem?_eq_some_iff.1 hrq).1;have RQ:=Keeps.row (hq3.keep HN4.out) KR.out (by omega) (by omega) (by omega);obtain ⟨f0,f1,f2⟩:=Aj rs j q hrq;have hcell:∀i v,(cj rs)[i]?=some v->wr.cell? (AD gq i)=some v:=fun i v h=>by
    rcases RQ.2 with h0 | ⟨b',o',e',_,hc⟩
    ·omega
    ·cases e';have:=hc i v h;rwa [Nat.zero_add] at this
   have g0:=hcell _ _ f0;have g1:=hcell _ _ f1;have g2:=hcell _ _ f2;obtain ⟨hkd,hq0,hq2',hv0',hv1'⟩:=HSp.out.1 q (List.mem_of_getElem? hq);have HQ:=hid hq;have hrlc:rs.length<=rc∨True:=.inr trivial;clear RQ f0 f1 f2 hcell hq3 hrq hq;obtain ⟨v5,Ev5,n5,E5,_⟩:=al1 wr #[VI q.1,VU q.2.1,VU q.2.2] 118;go_wp2_with fail;rw [Ev5.out];clear Ev5;have S5:=SR.out.keep n5;obtain ⟨⟨g0,g1,g2⟩,_,_,_⟩:=aF E5.out;go_still_tail 10,(by kernel_rfl);go_wp2_with fail;have D5:=bdr v5;have S5d:=S5.keep D5;have hpl5:=sd va satp pick (ps.take j) k.p;have hval:=ox va satp pick (ps.take j) k.p vP;have hsh:=fS hval;obtain ⟨p0,p1,p2⟩:=S5d.cellP;have hwant:aU q.2.2 q.1=qG true:=by rw [hkd];rfl
   refine (qh.2 b 26 gp (db va satp pick (ps.take j) k.p).es.length base (db va satp pick (ps.take j) k.p) q.2.2 q.1 va (aN satp) pick v5.drew rfl (by rw [hpl5.1];exact hkl) hsh.1 hsh.2.1 hsh.2.2.1 hsh.2.2.2 S5d.lt S5d.2.2.2.2 p0 p1 p2 S5d.2.1.2.2.1 (by omega) hv0 hv1 hv0' hv1' hp0 hp1).mono ?_;rintro e v6 ⟨rfl,o6,m6⟩;have hins:=nz hval (kC q.1 va satp q.2.2 true hwant) ⟨hp0,hp1⟩;have hnew:db va satp pick (ps.take (j+1)) k.p=⟨(db va satp pick (ps.take j) k.p).sets,(db va satp pick (ps.take j) k.p).ways,(db va satp pick (ps.take j) k.p).es.set (gn (db va satp pick (ps.take j) k.p) (iL q.1 va satp q.2.2)+oz (db va satp pick (ps.take j) k.p) (iL q.1 va satp q.2.2) pick) (iL q.1 va satp q.2.2)⟩:=by
    rw [Bn va satp pick ps j q k.p HQ.out hkd,hins]
   have R6:=RowsAt.putP S5d.2.1 m6 List.length_set o6;have B6:=CellsM.gb S5d.1 m6 S5d.2.2.2.2;have K6:=(KR.out.trans (Keeps.of_below _ _ _ (bst n5 D5))).trans (Keeps.of_gb gi gd gp m6 (.inr (.inr rfl)));have HR6:Hid (SetM v6 b base gi gd gp ⟨k.i,k.d,db va satp pick (ps.take (j+1)) k.p⟩):=by
    rw [hnew];refine ⟨?_,R6,S5d.2.2⟩;simpa only [gX,List.length_set] using B6
   have HK6:=hid K6;clear S5 S5d hpl5 hval hsh p0 p1 p2 hwant o6 m6 hins hnew R6 B6 K6 g0 g1 g2 E5 n5 D5;go_wp2;go_roundw
   case rel=>exact ⟨j+1,by omega,by go_num,HR6.out,HK6.out⟩
   case measure=>simp [intOf];omega
  ·have hje:j=ps.length:=by omega
   subst hje;have q1:=FY;have q2:=FZ;have q3:=F0;have SE:SetM wr b base gi gd gp ⟨k.i,k.d,db va satp pick rs k.p⟩:=by
    have h:=SR.out;rw [List.take_length] at h;have:=zr va satp pick k.p HSp.out;simp only at this;rw [this];exact h
   have WE:=hid (KR.out.heap W4.out (by omega) (by omega) (by omega));have CE:=hid (KR.out.heap H4.out (by omega) (by omega) (by omega));have KE:=(Keeps.of_below _ _ _ A4).trans KR.out;rcases HSp.out.2 with ⟨e1,⟨ad,e2⟩,e3,e4,e5,e6⟩ | ⟨e1,e2,e3⟩
   ·simp only at e1 e2 e3 e4 e5 e6;subst e1;obtain rfl:fv=.nilIface:=by rw [<-HFv.out];rfl
    obtain ⟨⟨c0,c1,c2,c3⟩,_,_,_,_⟩:=aO CE.out;obtain ⟨⟨d0,d1,d2⟩,_,_,_⟩:=aF WE.out;have HTL:=hid fun (u:World)=>fV lf lv mode sum mxr satp kind va u e6.1 e6.2 hv0 hv1 (by omega);go_wp2_with fail;refine (HTL.out wr).mono ?_;by_cases hgr:cG lf kind mode sum mxr=true
    ·rw [if_pos hgr,if_pos hgr,show cu 1=.nilIface from rfl];rintro e v6 ⟨rfl,N6⟩;have W6:=ah WE N6;have D6:=bdr v6;have N6d:=bst N6 D6;have S6:=SE.keep N6d;clear c0 c1 c2 c3 d0 d1 d2;obtain ⟨⟨d0,d1,d2⟩,_,_,_⟩:=aF W6.out;have HLv:=hid fun (u:World)=>xh b kind u;go_wp2_with fail;refine dl 10 (by kernel_rfl) (by kernel_rfl) ?_;simp only [List.take_succ_cons,List.take_zero,List.drop_succ_cons,List.drop_zero];repeat still_step
     still_call (HLv.out _)
     repeat still_step
     refine wpStill_nil ?_;by_cases hkz:kind=0
     ·rw [if_pos hkz];go_wp2_with fail;have hsh:=fS vI;refine (qh.1 b 20 gi k.i.es.length base k.i lf lv va (aN satp) pick v6.drew rfl hli hsh.1 hsh.2.1 hsh.2.2.1 hsh.2.2.2 S6.lt S6.2.2.1 (S6.cellI).1 (S6.cellI).2.1 (S6.cellI).2.2 S6.2.1.1 (by omega) hv0 hv1 e6.1 e6.2 hp0 hp1).mono ?_;rintro e v7 ⟨rfl,o7,m7⟩;have hins:=nz vI (kC lv va satp lf false e3) ⟨hp0,hp1⟩;have R7:=RowsAt.putI S6.2.1 m7 List.length_set o7;have B7:=CellsM.gb S6.1 m7 S6.2.2.1;have K7:=(KE.trans (Keeps.of_below _ _ _ N6d)).trans (Keeps.of_gb gi gd gp m7 (.inl rfl));have T7:Hid (SetM v7 b base gi gd gp (fo k kind va satp pick (1,lv,lf,rs) 1)):=by
       have hkm:fo k kind va satp pick (1,lv,lf,rs) 1=⟨⟨k.i.sets,k.i.ways,k.i.es.set (gn k.i (iL lv va satp lf)+oz k.i (iL lv va satp lf) pick) (iL lv va satp lf)⟩,k.d,db va satp pick rs k.p⟩:=by
        unfold fo vU eY;simp only [if_true];first
         | (rw [if_pos hkz,if_pos hkz,hins])
         | (rw [if_neg hkz,if_neg hkz,hins])
       rw [hkm];refine ⟨?_,R7,S6.2.2⟩;simpa only [gX,List.length_set] using B7
      have HK7:=hid K7;clear o7 m7 hins R7 B7 K7;go_wp2_with fail;refine bodyPost_ret (v:=.tuple #[VU (fH lf lv va),.nilIface]) (by simp [results,Tryz.results197,go_sem]) rfl ⟨_,1,rfl,.inl rfl,?_,T7.out,HK7.out⟩;simp only [cK,fT,if_pos hgr];simp
     ·rw [if_neg hkz];go_wp2_with fail;have hsh:=fS vD;refine (qh.1 b 23 gd k.d.es.length base k.d lf lv va (aN satp) pick v6.drew rfl hld hsh.1 hsh.2.1 hsh.2.2.1 hsh.2.2.2 S6.lt S6.2.2.2.1 (S6.cellD).1 (S6.cellD).2.1 (S6.cellD).2.2 S6.2.1.2.1 (by omega) hv0 hv1 e6.1 e6.2 hp0 hp1).mono ?_;rintro e v7 ⟨rfl,o7,m7⟩;have hins:=nz vD (kC lv va satp lf false e3) ⟨hp0,hp1⟩;have R7:=RowsAt.putD S6.2.1 m7 List.length_set o7;have B7:=CellsM.gb S6.1 m7 S6.2.2.2.1;have K7:=(KE.trans (Keeps.of_below _ _ _ N6d)).trans (Keeps.of_gb gi gd gp m7 (.inr (.inl rfl)));have T7:Hid (SetM v7 b base gi gd gp (fo k kind va satp pick (1,lv,lf,rs) 1)):=by
       have hkm:fo k kind va satp pick (1,lv,lf,rs) 1=⟨k.i,⟨k.d.sets,k.d.ways,k.d.es.set (gn k.d (iL lv va satp lf)+oz k.d (iL lv va satp lf) pick) (iL lv va satp lf)⟩,db va satp pick rs k.p⟩:=by
        unfold fo vU eY;simp only [if_true];first
         | (rw [if_pos hkz,if_pos hkz,hins])
         | (rw [if_neg hkz,if_neg hkz,hins])
       rw [hkm];refine ⟨?_,R7,S6.2.2⟩;simpa only [gX,List.length_set] using B7
      have HK7:=hid K7;clear o7 m7 hins R7 B7 K7;go_wp2_with fail;refine bodyPost_ret (v:=.tuple #[VU (fH lf lv va),.nilIface]) (by simp [results,Tryz.results197,go_sem]) rfl ⟨_,1,rfl,.inl rfl,?_,T7.out,HK7.out⟩;simp only [cK,fT,if_pos hgr];simp
    ·rw [if_neg hgr,if_neg hgr,show cu 2=.iface 260 (.agg #[]) from rfl];rintro e v6 ⟨rfl,N6⟩;go_wp2_with fail;refine bodyPost_ret (v:=.tuple #[VU 0,.iface 260 (.agg #[])]) (by simp [results,Tryz.results197,go_sem]) rfl ⟨0,2,rfl,.inr (.inl rfl),?_,?_,KE.trans (Keeps.of_below _ _ _ N6)⟩
     ·simp only [cK,fT,if_neg hgr];simp
     ·have hkm:fo k kind va satp pick (1,lv,lf,rs) 2=⟨k.i,k.d,db va satp pick rs k.p⟩:=by simp [fo]
      rw [hkm];exact SE.keep N6
   ·simp only at e1 e2 e3;rcases e1 with rfl | rfl
    ·obtain rfl:fv=.iface 260 (.agg #[]):=by rw [<-HFv.out];rfl
     go_wp2_with fail;refine bodyPost_ret (v:=.tuple #[VU 0,.iface 260 (.agg #[])]) (by simp [results,Tryz.results197,go_sem]) rfl ⟨0,2,rfl,.inr (.inl rfl),by simp [cK],?_,KE⟩;have hkm:fo k kind va satp pick (2,lv,lf,rs) 2=⟨k.i,k.d,db va satp pick rs k.p⟩:=by simp [fo]
     rw [hkm];exact SE
    ·obtain rfl:fv=.iface 261 (.agg #[]):=by rw [<-HFv.out];rfl
     go_wp2_with fail;refine bodyPost_ret (v:=.tuple #[VU 0,.iface 261 (.agg #[])]) (by simp [results,Tryz.results197,go_sem]) rfl ⟨0,3,rfl,.inr (.inr rfl),by simp [cK],?_,KE⟩;have hkm:fo k kind va satp pick (3,lv,lf,rs) 3=⟨k.i,k.d,db va satp pick rs k.p⟩:=by simp [fo]
     rw [hkm];exact SE
def Gs (w w':World) (e:Ending) (b base gi gd gp:Nat) (kind:Int) (X:(Int × Int) × KM):Prop:=
 ∃pa code,e=.returned (.tuple #[VU pa,cu code])∧(code=1∨code=2∨code=3)∧X.1=(if code=1 then 0 else if code=2 then eU kind else bO kind,pa)∧SetM w' b base gi gd gp X.2∧Keeps w w' gi gd gp
theorem Gt (b base gi gd gp:Nat) (k:KM) (sv:Value) (zs:List Int) (mode:Int) (sum mxr:Bool) (satp kind va pick:Int) (w:World) (hS:SetM w b base gi gd gp k) (hk:cz k=true) (hki:∀e∈k.i.es,iH e) (hkd:∀e∈k.d.es,iH e) (hko:∀e∈k.p.es,iH e) (hli:k.i.es.length<=1048576) (hld:k.d.es.length<=1048576) (hkl:k.p.es.length<=1048576)
 (hB:SrcAt w sv zs) (hv0:0<=va) (hv1:va<=18446744073709551615) (hr0:0<=satp) (hr1:satp<=18446744073709551615) (hp0:0<=pick) (hp1:pick<=255) (hm:0<=mode∧mode<=2) (hkk:0<=kind∧kind<=2):
 Calls Tryz.prog 194 #[PT b 20,sv,.agg #[VI mode,.bool sum,.bool mxr,VU satp],VI kind,VU va,VI pick] w fun e w'=>Gs w w' e b base gi gd gp kind (bZ zs mode sum mxr satp k kind va pick):=by
 have hvs:aY k.i false=true∧aY k.d false=true∧aY k.p true=true:=by
  have hk':=hk;simp only [cz,Bool.and_eq_true] at hk';exact ⟨hk'.1.1,hk'.1.2,hk'.2⟩
 obtain ⟨vI,vD,vP⟩:=hvs;have HS:=hid hS;have HB:=hid hB;have HT0:Hid (bZ zs mode sum mxr satp k kind va pick=if onM mode satp=false then ((0,va),k) else if cR va=false then ((eU kind,0),k) else if (bX (eY k kind) va (aN satp)).1=true then (fT (bX (eY k kind) va (aN satp)).2.2.2 (bX (eY k kind) va (aN satp)).2.2.1 mode sum mxr kind va,k)
  else (cK (aX zs satp va (bX k.p va (aN satp))) mode sum mxr kind va,if (cK (aX zs satp va (bX k.p va (aN satp))) mode sum mxr kind va).1=0 then vU ⟨k.i,k.d,db va satp pick (aX zs satp va (bX k.p va (aN satp))).2.2.2 k.p⟩ kind (eE (eY k kind) (iL (aX zs satp va (bX k.p va (aN satp))).2.1 va satp (aX zs satp va (bX k.p va (aN satp))).2.2.1) pick) else ⟨k.i,k.d,db va satp pick (aX zs satp va (bX k.p va (aN satp))).2.2.2 k.p⟩)):=by
  show _=_;rw [bZ,if_neg (by rw [hk];simp;omega)]
 obtain ⟨onb,hon⟩:∃onb,onM mode satp=onb:=⟨_,rfl⟩;obtain ⟨cnb,hcan⟩:∃cnb,cR va=cnb:=⟨_,rfl⟩;have HOn:Hid (∀u:World,Calls Tryz.prog 158 #[.agg #[VI mode,.bool sum,.bool mxr,VU satp]] u fun e w'=>e=.returned (.bool onb)∧Bw u w'):=fun u=>by
  have:=iu mode sum mxr satp u hr0 hr1;rw [hon] at this;exact this
 have HCn:Hid (∀u:World,Calls Tryz.prog 111 #[VU va] u fun e w'=>e=.returned (.bool cnb)∧w'=u):=fun u=>by
  have:=gN va u hv0 hv1;rw [hcan] at this;exact this
 have HLv:=hid fun (u:World)=>xh b kind u;obtain ⟨v1,Ev1,n1,H1,_⟩:=al1 w #[VI mode,.bool sum,.bool mxr,VU satp] 110;clear hS hB;have HOnE:=hid hon;have HCnE:=hid hcan;clear hon hcan;go_enter Tryz.func194,Tryz.ntmps194;go_wp2_with fail;rw [Ev1.out];clear Ev1;refine (HOn.out v1).mono ?_;rintro e v2 ⟨rfl,n2⟩;have A2:=bst n1 n2;have H2:=ah H1 n2;clear n1 n2 H1 HOn;cases onb
 ·have hon:=HOnE.out;go_wp2_with fail;refine bodyPost_ret (v:=.tuple #[VU va,.nilIface]) (by simp [results,Tryz.results194,go_sem]) rfl ⟨va,1,rfl,.inl rfl,?_,?_,Keeps.of_below _ _ _ A2⟩
  ·rw [HT0.out,if_pos hon];simp
  ·rw [HT0.out,if_pos hon];exact HS.out.keep A2
 have hon:=HOnE.out;go_wp2_with fail;refine (HCn.out v2).mono ?_;rintro e v2' ⟨rfl,hv2⟩;rw [hv2];clear hv2 v2';cases cnb
 ·have hcan:=HCnE.out;go_wp2_with fail;refine bodyPost_ret (v:=.tuple #[VU 0,.iface 260 (.agg #[])]) (by simp [results,Tryz.results194,go_sem]) rfl ⟨0,2,rfl,.inr (.inl rfl),?_,?_,Keeps.of_below _ _ _ A2⟩
  ·rw [HT0.out,if_neg (by rw [hon];simp),if_pos hcan];simp
  ·rw [HT0.out,if_neg (by rw [hon];simp),if_pos hcan];exact HS.out.keep A2
 have hcan:=HCnE.out;go_wp2_with fail;refine (HLv.out v2).mono ?_;have A3:=A2;have H3:=H2;clear A2 H2 HLv HCn;obtain ⟨⟨c0,c1,c2,c3⟩,_,_,_,_⟩:=aO H3.out;by_cases hkz:kind=0
 ·subst hkz;rw [if_pos rfl];rintro e v3' ⟨rfl,hv3⟩;rw [hv3];clear hv3 v3';have hpk:eY k 0=k.i:=by unfold eY;rw [if_pos rfl]
  obtain ⟨⟨fd,ix,lv,pt⟩,hX⟩:∃X,bX k.i va (aN satp)=X:=⟨_,rfl⟩;have HX:=hid hX;have S3:=HS.out.keep A3;obtain ⟨p0,p1,p2⟩:=S3.cellI;have HF:Hid (∀u,Bw w u->Calls Tryz.prog 196 #[PT b 20,VU va,VU (aN satp)] u fun e w'=>e=.returned (.tuple #[VI ix,.bool fd])∧Bw u w'):=fun u hu=>by
   have S:=HS.out.keep hu;obtain ⟨c0,c1,c2⟩:=S.cellI;have:=qg.1 b 20 gi k.i.es.length k.i va (aN satp) u rfl hli vI S.lt c0 c1 c2 (eC S.2.1.1) hv0 hv1;rw [hX] at this;exact this
  clear hX;go_wp2_with fail;refine (kj satp v2 hr0 hr1).mono ?_;rintro e u ⟨rfl,hu⟩;rw [hu];clear hu u;go_wp2_with fail;refine (HF.out v2 A3).mono ?_;rintro e v4 ⟨rfl,n4⟩;have A4:=bst A3 n4;have H4:=ah H3 n4;clear c0 c1 c2 c3 p0 p1 p2 H3 n4;obtain ⟨⟨c0,c1,c2,c3⟩,_,_,_,_⟩:=aO H4.out;cases fd
  ·have hres:bZ zs mode sum mxr satp k 0 va pick=(cK (aX zs satp va (bX k.p va (aN satp))) mode sum mxr 0 va,if (cK (aX zs satp va (bX k.p va (aN satp))) mode sum mxr 0 va).1=0 then fo k 0 va satp pick (aX zs satp va (bX k.p va (aN satp))) 1 else fo k 0 va satp pick (aX zs satp va (bX k.p va (aN satp))) 2):=by
    rw [HT0.out,if_neg (by rw [hon];simp),if_neg (by rw [hcan];simp),hpk,if_neg (by rw [HX.out];simp)];simp only [fo,if_true,hpk,show ¬((2:Int)=1) by decide,if_false]
   have HRes:Hid _:=hres;clear hres;go_wp2_with fail;refine (mY b base gi gd gp k sv zs mode sum mxr satp 0 va pick v4 (HS.out.keep A4) hk hko hli hld hkl (HB.out.keep A4) hv0 hv1 hr0 hr1 hp0 hp1).mono ?_;rintro e v5 hw;obtain ⟨pa,code,rfl,hcode,hans,hset,hkp⟩:=hw;have HT5:Hid (SetM v5 b base gi gd gp (bZ zs mode sum mxr satp k 0 va pick).2):=by
    rw [HRes.out,hans];simp only;rcases hcode with rfl | rfl | rfl
    ·simp only [if_true];exact hset
    ·have hne:=mh 0;simp only [show ¬((2:Int)=1) by decide,if_false,if_true,hne];exact hset
    ·have hne:=ir 0;simp only [show ¬((3:Int)=1) by decide,show ¬((3:Int)=2) by decide,if_false,hne];have:fo k 0 va satp pick (aX zs satp va (bX k.p va (aN satp))) 3=fo k 0 va satp pick (aX zs satp va (bX k.p va (aN satp))) 2:=by simp [fo]
     rw [<-this];exact hset
   have HA5:Hid ((bZ zs mode sum mxr satp k 0 va pick).1=(if code=1 then 0 else if code=2 then eU 0 else bO 0,pa)):=by
    show _=_;rw [HRes.out];exact hans
   have HK5:=hid ((Keeps.of_below _ _ _ A4).trans hkp);obtain ⟨fv,hfv⟩:∃fv,cu code=fv:=⟨_,rfl⟩;have HFv:=hid hfv;rw [hfv];clear hfv hans hset hkp HRes;go_wp2_with fail;exact bodyPost_ret (v:=.tuple #[VU pa,fv]) (by simp [results,Tryz.results194,go_sem]) rfl ⟨pa,code,by rw [HFv.out],hcode,HA5.out,HT5.out,HK5.out⟩
  ·obtain ⟨q,x,hx,hi,hlv,hpt,_,hxv⟩:=mK k.i va (aN satp) (by rw [HX.out]);rw [HX.out] at hi hlv hpt;simp only at hi hlv hpt;subst hi hlv hpt;have hres:bZ zs mode sum mxr satp k 0 va pick=(fT x.pte x.level mode sum mxr 0 va,k):=by
    rw [HT0.out,if_neg (by rw [hon];simp),if_neg (by rw [hcan];simp),hpk,if_pos (by rw [HX.out]),HX.out]
   have HRes:Hid _:=hres;have hok:=hki x (List.mem_of_getElem? hx);have hlx:=eZ (dS vI) q x hx hxv;have S4:=HS.out.keep A4;have hql:q<k.i.es.length:=(List.getElem?_eq_some_iff.1 hx).1;obtain ⟨_,_,p2⟩:=S4.cellI;have p2':v4.cell? (AD b 22)=some (SL gi k.i.es.length k.i.es.length):=p2;have CE:∀j u,j<6->(fB x)[j]?=some u->v4.cell? ⟨gi,q*6+j,none⟩=some u:=fun j u hj hu=>jb (eC S4.2.1.1) rfl q _ hx j u hj hu;have g0:v4.cell? ⟨gi,q*6,none⟩=some (VI x.level):=CE 0 _ (by omega) rfl;have g1:v4.cell? ⟨gi,q*6+1,none⟩=some (VU x.tag):=CE 1 _ (by omega) rfl;have g2:v4.cell? ⟨gi,q*6+2,none⟩=some (VU x.asid):=CE 2 _ (by omega) rfl;have g3:v4.cell? ⟨gi,q*6+3,none⟩=some (.bool x.glob):=CE 3 _ (by omega) rfl;have g4:v4.cell? ⟨gi,q*6+4,none⟩=some (.bool x.valid):=CE 4 _ (by omega) rfl;have g5:v4.cell? ⟨gi,q*6+5,none⟩=some (VU x.pte):=CE 5 _ (by omega) rfl;have HTL:Hid (∀u:World,Calls Tryz.prog 176 #[VU x.pte,VI x.level,.agg #[VI mode,.bool sum,.bool mxr,VU satp],VI 0,VU va] u fun e w'=>e=.returned (.tuple #[VU (if cG x.pte 0 mode sum mxr=true then fH x.pte x.level va else 0),cu (if cG x.pte 0 mode sum mxr=true then 1 else 2)])∧Bw u w'):=fun u=>fV x.pte x.level mode sum mxr satp 0 va u hok.2.2.2.1 hok.2.2.2.2 hv0 hv1 (by omega);clear CE p2 hres hx hxv;obtain ⟨v5,Ev5,n5,_,_⟩:=al1 v4 #[VI x.level,VU x.tag,VU x.asid,.bool x.glob,.bool x.valid,VU x.pte] 216;have lw:w.heap.size<v4.heap.size:=(hpl H4.out);go_wp2_with fail;rw [Ev5.out];clear Ev5;refine (HTL.out v5).mono ?_;have A5:=bst A4 n5;by_cases hgr:cG x.pte 0 mode sum mxr=true
   ·rw [if_pos hgr,if_pos hgr,show cu 1=.nilIface from rfl];rintro e v6 ⟨rfl,N6⟩;have A6:=bst A5 N6;go_wp2_with fail;refine bodyPost_ret (v:=.tuple #[VU (fH x.pte x.level va),.nilIface]) (by simp [results,Tryz.results194,go_sem]) rfl ⟨_,1,rfl,.inl rfl,?_,?_,Keeps.of_below _ _ _ A6⟩
    ·rw [HRes.out];simp [fT,hgr]
    ·rw [HRes.out];exact HS.out.keep A6
   ·rw [if_neg hgr,if_neg hgr,show cu 2=.iface 260 (.agg #[]) from rfl];rintro e v6 ⟨rfl,N6⟩;have A6:=bst A5 N6;go_wp2_with fail;refine bodyPost_ret (v:=.tuple #[VU 0,.iface 260 (.agg #[])]) (by simp [results,Tryz.results194,go_sem]) rfl ⟨0,2,rfl,.inr (.inl rfl),?_,?_,Keeps.of_below _ _ _ A6⟩
    ·rw [HRes.out];simp [fT,hgr]
    ·rw [HRes.out];exact HS.out.keep A6
 ·rw [if_neg hkz];rintro e v3' ⟨rfl,hv3⟩;rw [hv3];clear hv3 v3';have hpk:eY k kind=k.d:=by unfold eY;rw [if_neg hkz]
  obtain ⟨⟨fd,ix,lv,pt⟩,hX⟩:∃X,bX k.d va (aN satp)=X:=⟨_,rfl⟩;have HX:Hid (bX k.d va (aN satp)=(fd,ix,lv,pt)):=hX;have S3:=HS.out.keep A3;obtain ⟨p0,p1,p2⟩:=S3.cellD;have HF:Hid (∀u,Bw w u->Calls Tryz.prog 196 #[PT b 23,VU va,VU (aN satp)] u fun e w'=>e=.returned (.tuple #[VI ix,.bool fd])∧Bw u w'):=fun u hu=>by
   have S:=HS.out.keep hu;obtain ⟨c0,c1,c2⟩:=S.cellD;have:=qg.1 b 23 gd k.d.es.length k.d va (aN satp) u rfl hld vD S.lt c0 c1 c2 (eC S.2.1.2.1) hv0 hv1;rw [hX] at this;exact this
  clear hX;go_wp2_with fail;refine (kj satp v2 hr0 hr1).mono ?_;rintro e u ⟨rfl,hu⟩;rw [hu];clear hu u;go_wp2_with fail;refine (HF.out v2 A3).mono ?_;rintro e v4 ⟨rfl,n4⟩;have A4:=bst A3 n4;have H4:=ah H3 n4;clear c0 c1 c2 c3 p0 p1 p2 H3 n4;obtain ⟨⟨c0,c1,c2,c3⟩,_,_,_,_⟩:=aO H4.out;cases fd
  ·have hres:bZ zs mode sum mxr satp k kind va pick=(cK (aX zs satp va (bX k.p va (aN satp))) mode sum mxr kind va,if (cK (aX zs satp va (bX k.p va (aN satp))) mode sum mxr kind va).1=0 then fo k kind va satp pick (aX zs satp va (bX k.p va (aN satp))) 1 else fo k kind va satp pick (aX zs satp va (bX k.p va (aN satp))) 2):=by
    rw [HT0.out,if_neg (by rw [hon];simp),if_neg (by rw [hcan];simp),hpk,if_neg (by rw [HX.out];simp)];simp only [fo,if_true,hpk,show ¬((2:Int)=1) by decide,if_false]
   have HRes:Hid _:=hres;clear hres;go_wp2_with fail;refine (mY b base gi gd gp k sv zs mode sum mxr satp kind va pick v4 (HS.out.keep A4) hk hko hli hld hkl (HB.out.keep A4) hv0 hv1 hr0 hr1 hp0 hp1).mono ?_;rintro e v5 hw;obtain ⟨pa,code,rfl,hcode,hans,hset,hkp⟩:=hw;have HT5:Hid (SetM v5 b base gi gd gp (bZ zs mode sum mxr satp k kind va pick).2):=by
    rw [HRes.out,hans];simp only;rcases hcode with rfl | rfl | rfl
    ·simp only [if_true];exact hset
    ·have hne:=mh kind;simp only [show ¬((2:Int)=1) by decide,if_false,if_true,hne];exact hset
    ·have hne:=ir kind;simp only [show ¬((3:Int)=1) by decide,show ¬((3:Int)=2) by decide,if_false,hne];have:fo k kind va satp pick (aX zs satp va (bX k.p va (aN satp))) 3=fo k kind va satp pick (aX zs satp va (bX k.p va (aN satp))) 2:=by simp [fo]
     rw [<-this];exact hset
   have HA5:Hid ((bZ zs mode sum mxr satp k kind va pick).1=(if code=1 then 0 else if code=2 then eU kind else bO kind,pa)):=by
    show _=_;rw [HRes.out];exact hans
   have HK5:Hid (Keeps w v5 gi gd gp):=(Keeps.of_below _ _ _ A4).trans hkp;obtain ⟨fv,hfv⟩:∃fv,cu code=fv:=⟨_,rfl⟩;have HFv:Hid (cu code=fv):=hfv;rw [hfv];clear hfv hans hset hkp HRes;go_wp2_with fail;exact bodyPost_ret (v:=.tuple #[VU pa,fv]) (by simp [results,Tryz.results194,go_sem]) rfl ⟨pa,code,by rw [HFv.out],hcode,HA5.out,HT5.out,HK5.out⟩
  ·obtain ⟨q,x,hx,hi,hlv,hpt,_,hxv⟩:=mK k.d va (aN satp) (by rw [HX.out]);rw [HX.out] at hi hlv hpt;simp only at hi hlv hpt;subst hi hlv hpt;have hres:bZ zs mode sum mxr satp k kind va pick=(fT x.pte x.level mode sum mxr kind va,k):=by
    rw [HT0.out,if_neg (by rw [hon];simp),if_neg (by rw [hcan];simp),hpk,if_pos (by rw [HX.out]),HX.out]
   have HRes:Hid _:=hres;have hok:=hkd x (List.mem_of_getElem? hx);have hlx:=eZ (dS vD) q x hx hxv;have S4:=HS.out.keep A4;have hql:q<k.d.es.length:=(List.getElem?_eq_some_iff.1 hx).1;obtain ⟨_,_,p2⟩:=S4.cellD;have p2':v4.cell? (AD b 25)=some (SL gd k.d.es.length k.d.es.length):=p2;have CE:∀j u,j<6->(fB x)[j]?=some u->v4.cell? ⟨gd,q*6+j,none⟩=some u:=fun j u hj hu=>jb (eC S4.2.1.2.1) rfl q _ hx j u hj hu;have g0:v4.cell? ⟨gd,q*6,none⟩=some (VI x.level):=CE 0 _ (by omega) rfl;have g1:v4.cell? ⟨gd,q*6+1,none⟩=some (VU x.tag):=CE 1 _ (by omega) rfl;have g2:v4.cell? ⟨gd,q*6+2,none⟩=some (VU x.asid):=CE 2 _ (by omega) rfl;have g3:v4.cell? ⟨gd,q*6+3,none⟩=some (.bool x.glob):=CE 3 _ (by omega) rfl;have g4:v4.cell? ⟨gd,q*6+4,none⟩=some (.bool x.valid):=CE 4 _ (by omega) rfl;have g5:v4.cell? ⟨gd,q*6+5,none⟩=some (VU x.pte):=CE 5 _ (by omega) rfl;have HTL:Hid (∀u:World,Calls Tryz.prog 176 #[VU x.pte,VI x.level,.agg #[VI mode,.bool sum,.bool mxr,VU satp],VI kind,VU va] u fun e w'=>e=.returned (.tuple #[VU (if cG x.pte kind mode sum mxr=true then fH x.pte x.level va else 0),cu (if cG x.pte kind mode sum mxr=true then 1 else 2)])∧Bw u w'):=fun u=>fV x.pte x.level mode sum mxr satp kind va u hok.2.2.2.1 hok.2.2.2.2 hv0 hv1 (by omega);clear CE p2 hres hx hxv;obtain ⟨v5,Ev5,n5,_,_⟩:=al1 v4 #[VI x.level,VU x.tag,VU x.asid,.bool x.glob,.bool x.valid,VU x.pte] 216;have lw:w.heap.size<v4.heap.size:=(hpl H4.out);go_wp2_with fail;rw [Ev5.out];clear Ev5;refine (HTL.out v5).mono ?_;have A5:=bst A4 n5;by_cases hgr:cG x.pte kind mode sum mxr=true
   ·rw [if_pos hgr,if_pos hgr,show cu 1=.nilIface from rfl];rintro e v6 ⟨rfl,N6⟩;have A6:=bst A5 N6;go_wp2_with fail;refine bodyPost_ret (v:=.tuple #[VU (fH x.pte x.level va),.nilIface]) (by simp [results,Tryz.results194,go_sem]) rfl ⟨_,1,rfl,.inl rfl,?_,?_,Keeps.of_below _ _ _ A6⟩
    ·rw [HRes.out];simp [fT,hgr]
    ·rw [HRes.out];exact HS.out.keep A6
   ·rw [if_neg hgr,if_neg hgr,show cu 2=.iface 260 (.agg #[]) from rfl];rintro e v6 ⟨rfl,N6⟩;have A6:=bst A5 N6;go_wp2_with fail;refine bodyPost_ret (v:=.tuple #[VU 0,.iface 260 (.agg #[])]) (by simp [results,Tryz.results194,go_sem]) rfl ⟨0,2,rfl,.inr (.inl rfl),?_,?_,Keeps.of_below _ _ _ A6⟩
    ·rw [HRes.out];simp [fT,hgr]
    ·rw [HRes.out];exact HS.out.keep A6
section
attribute [local go_sem ↓] Go.wp_at_zero Go.wp_at_succ
def oE (z0:Nat) (z1:Nat):Prop:=∀(hv:Bool) (fva:Int) (ha:Bool) (fa:Int) (pf pv b o g n base:Nat) (es:List EntM) (sets ways:Int) (w:World) (hn:es.length=n) (hn1:n<=1048576) (hbl:b<w.heap.size) (hbg:b≠g) (hv0:0<=fva) (hv1:fva<=18446744073709551615) (hcan:hv=false∨cR fva=true) (hpf:pf≠g) (hpv:pv≠g) (hF:w.heap[pf]?=some (.cells #[.bool hv,VU fva,.bool ha,VU fa] 52 (0,0))) (hV:w.heap[pv]?=some (.cells #[VU fva] 230 (0,0)))
 (c2:w.cell? ⟨b,o+2,none⟩=some (SL g n n)) (ho:w.ownsRow base z1 6 (SL g n n) n (aC es)) (hlv:∀(j:Nat) (x:EntM),es[j]?=some x->x.valid=true->0<=x.level∧x.level<=2),Calls Tryz.prog z0 #[PT b o,.func (.func 113) #[] #[PT pf 0,PT pv 0]] w fun x w'=>x=.returned (.tuple #[])∧w'.ownsRow base z1 6 (SL g n n) n (aC (es.map (cS ⟨hv,fva,ha,fa⟩)))∧w.grownBy w' (some g)
theorem qr:oE 215 216∧oE 216 221:=by
 refine ⟨?_,?_⟩;have mL:=trivial
 rotate_left
 have mP:=trivial
 rotate_left
 all_goals
  intro hv fva ha fa pf pv b o g n base es sets ways w hn hn1 hbl hbg hv0 hv1 hcan hpf hpv hF hV c2 ho hlv;first
   | (replace mL:=mL;have HO:Hid (w.ownsRow base 216 6 (SL g n n) n (aC es)):=ho)
   | (replace mP:=mP;have HO:Hid (w.ownsRow base 221 6 (SL g n n) n (aC es)):=ho)
  have HN:=hid hn;have HLv:=hid hlv;have hg:=(cQ ho).2.2;simp only at hg;clear ho hn hlv;first
   | (replace mL:=mL;go_enter Tryz.func215,Tryz.ntmps215)
   | (replace mP:=mP;go_enter Tryz.func216,Tryz.ntmps216)
  go_wp2_with fail;first
   | (replace mL:=mL;go_loopw [11] (fun i wr=>∃k:Nat,k<=n∧i=VI k∧w.grownBy wr (some g)∧wr.ownsRow base 216 6 (SL g n n) n (aC (dg ⟨hv,fva,ha,fa⟩ k es))) (fun i _=>n-(intOf i).toNat))
   | (replace mP:=mP;go_loopw [11] (fun i wr=>∃k:Nat,k<=n∧i=VI k∧w.grownBy wr (some g)∧wr.ownsRow base 221 6 (SL g n n) n (aC (dg ⟨hv,fva,ha,fa⟩ k es))) (fun i _=>n-(intOf i).toNat))
  case atStart=>exact ⟨0,Nat.zero_le _,rfl,ao _ _,by rw [show dg ⟨hv,fva,ha,fa⟩ 0 es=es by simp [dg]];exact HO.out⟩
  case round=>
   obtain ⟨k,hk,rfl,hgb,hO⟩:=hrel;first
    | (replace mL:=mL;have PO:Hid (wr.ownsRow base 216 6 (SL g n n) n (aC (dg ⟨hv,fva,ha,fa⟩ k es))):=hO)
    | (replace mP:=mP;have PO:Hid (wr.ownsRow base 221 6 (SL g n n) n (aC (dg ⟨hv,fva,ha,fa⟩ k es))):=hO)
   have lr:=hgb.size;have hfl:=hO.1;clear hO;have r2:=rl hgb c2 hbl hbg;by_cases hlt:k<n
   ·obtain ⟨⟨vv,lv,tg,asd,gl,pt⟩,hx⟩:∃x,es[k]?=some x:=⟨_,geg (by rw [HN.out];exact hlt)⟩;have hx':(dg ⟨hv,fva,ha,fa⟩ k es)[k]?=some ⟨vv,lv,tg,asd,gl,pt⟩:=by
     first
      | exact hx
      | (unfold dg
         have hkl:k<=es.length:=by rw [HN.out];omega
         rw [List.getElem?_append_right (by simp;omega),List.length_map,List.length_take,Nat.min_eq_left hkl,Nat.sub_self,List.getElem?_drop,Nat.add_zero,hx])
    have HXk:=hid hx;have CE:∀j u,j<6->(fB ⟨vv,lv,tg,asd,gl,pt⟩)[j]?=some u->wr.cell? ⟨g,k*6+j,none⟩=some u:=fun j u hj hu=>pV PO.out (by have:=hfl;rw [ex] at this;omega) k _ hx' j u hj hu;have g0:wr.cell? ⟨g,k*6,none⟩=some (VI lv):=CE 0 _ (by omega) rfl;have g1:wr.cell? ⟨g,k*6+1,none⟩=some (VU tg):=CE 1 _ (by omega) rfl;have g2:wr.cell? ⟨g,k*6+2,none⟩=some (VU asd):=CE 2 _ (by omega) rfl;have g3:wr.cell? ⟨g,k*6+3,none⟩=some (.bool gl):=CE 3 _ (by omega) rfl;have g4:wr.cell? ⟨g,k*6+4,none⟩=some (.bool vv):=CE 4 _ (by omega) rfl;have g5:wr.cell? ⟨g,k*6+5,none⟩=some (VU pt):=CE 5 _ (by omega) rfl;have HNx:Hid _:=vh ⟨hv,fva,ha,fa⟩ k es _ hx;have HSm:Hid ((dg ⟨hv,fva,ha,fa⟩ k es).set k ⟨vv,lv,tg,asd,gl,pt⟩=dg ⟨hv,fva,ha,fa⟩ k es):=by
     show _=_;apply List.ext_getElem?;intro j;rw [List.getElem?_set];by_cases hj:k=j
     ·subst hj;have hkl:=(List.getElem?_eq_some_iff.1 hx').1;rw [if_pos rfl,if_pos hkl,hx']
     ·rw [if_neg hj]
    have HLx:Hid (vv=true->0<=lv∧lv<=2):=fun h=>HLv.out k _ hx h;clear CE hx hx';first
     | (replace mL:=mL;have n5:=(Below.refl wr.heap.size wr).alloc nle (Obj.cells #[VI lv,VU tg,VU asd,.bool gl,.bool vv,VU pt] 216))
     | (replace mP:=mP;have n5:=(Below.refl wr.heap.size wr).alloc nle (Obj.cells #[VI lv,VU tg,VU asd,.bool gl,.bool vv,VU pt] 221))
    have hgb5:=lX hgb n5;cases vv
    ·have hst:cS ⟨hv,fva,ha,fa⟩ ⟨false,lv,tg,asd,gl,pt⟩=⟨false,lv,tg,asd,gl,pt⟩:=by simp [cS]
     go_wp2;go_roundw
     case rel=>exact ⟨k+1,by omega,by go_num,hgb5,by rw [HNx.out,hst,HSm.out];exact aq PO.out n5⟩
     case measure=>simp [intOf];omega
    ·obtain ⟨hl0,hl2⟩:=HLx.out rfl;obtain ⟨cb,hcb⟩:∃cb,eD ⟨hv,fva,ha,fa⟩ lv tg asd gl=cb:=⟨_,rfl⟩;have hst:cS ⟨hv,fva,ha,fa⟩ ⟨true,lv,tg,asd,gl,pt⟩=if cb=true then cM else ⟨true,lv,tg,asd,gl,pt⟩:=by simp [cS,hcb]
     have HSt:Hid _:=hst;have HCv:Hid (∀u:World,u.heap[pf]?=some (.cells #[.bool hv,VU fva,.bool ha,VU fa] 52 (0,0))->u.heap[pv]?=some (.cells #[VU fva] 230 (0,0))->Calls Tryz.prog 113 #[.agg #[VI lv,VU tg,VU asd,.bool gl],PT pf 0,PT pv 0] u fun e w'=>e=.returned (.bool cb)∧Bw u w'):=fun u h1 h2=>by
      have:=rR hv fva ha fa lv tg asd gl pf pv u (by omega) hv0 hv1 h1 h2;rw [qy _ _ _ _ _ hcan,hcb] at this;exact this
     have F5:=aA hF hgb5 hpf;have V5:=aA hV hgb5 hpv;clear hcb hst;go_wp2_with fail;first
      | (replace mL:=mL;generalize wr.alloc (Obj.cells #[VI lv,VU tg,VU asd,.bool gl,.bool true,VU pt] 216)=v5 at n5 hgb5 F5 V5 |-)
      | (replace mP:=mP;generalize wr.alloc (Obj.cells #[VI lv,VU tg,VU asd,.bool gl,.bool true,VU pt] 221)=v5 at n5 hgb5 F5 V5 |-)
     refine (HCv.out v5 F5 V5).mono ?_;rintro e v6 ⟨rfl,n6⟩;have n56:=bst n5 n6;have hgb6:=lX hgb n56;first
      | (replace mL:=mL;have SO:Hid (v6.ownsRow base 216 6 (SL g n n) n (aC (dg ⟨hv,fva,ha,fa⟩ k es))):=aq PO.out n56)
      | (replace mP:=mP;have SO:Hid (v6.ownsRow base 221 6 (SL g n n) n (aC (dg ⟨hv,fva,ha,fa⟩ k es))):=aq PO.out n56)
     clear g0 g1 g2 g3 g4 g5 r2 F5 V5 n5 n6 hgb5 hgb;have r2:=rl hgb6 c2 hbl hbg;cases cb
     ·go_wp2;go_roundw
      case rel=>exact ⟨k+1,by omega,by go_num,hgb6,by rw [HNx.out,HSt.out];simp only [Bool.false_eq_true,if_false];rw [HSm.out];exact SO.out⟩
      case measure=>simp [intOf];omega
     ·
      have q0:=aQ SO.out (k*6) _ (geg (by omega));have q1:=aQ SO.out (k*6+1) _ (geg (by omega));have q2:=aQ SO.out (k*6+2) _ (geg (by omega));have q3:=aQ SO.out (k*6+3) _ (geg (by omega));have q4:=aQ SO.out (k*6+4) _ (geg (by omega));have q5:=aQ SO.out (k*6+5) _ (geg (by omega));generalize (aC (dg ⟨hv,fva,ha,fa⟩ k es))[k*6]'_=y0 at q0;generalize (aC (dg ⟨hv,fva,ha,fa⟩ k es))[k*6+1]'_=y1 at q1;generalize (aC (dg ⟨hv,fva,ha,fa⟩ k es))[k*6+2]'_=y2 at q2;generalize (aC (dg ⟨hv,fva,ha,fa⟩ k es))[k*6+3]'_=y3 at q3;generalize (aC (dg ⟨hv,fva,ha,fa⟩ k es))[k*6+4]'_=y4 at q4;generalize (aC (dg ⟨hv,fva,ha,fa⟩ k es))[k*6+5]'_=y5 at q5;have s0:=bL SO.out (k*6);have s1:=bL SO.out (k*6+1);have s2:=bL SO.out (k*6+2);have s3:=bL SO.out (k*6+3);have s4:=bL SO.out (k*6+4);have s5:=bL SO.out (k*6+5);go_wp2;go_roundw
      case rel=>
       refine ⟨k+1,by omega,by go_num,au (au (au (au (au (au hgb6 _ _) _ _) _ _) _ _) _ _) _ _,?_⟩;rw [HNx.out,HSt.out,if_pos (by trivial),ik _ _ _ (by rw [xJ,HN.out];exact hlt)];exact br (br (br (br (br (br SO.out _ _) _ _) _ _) _ _) _ _) _ _
      case measure=>simp [intOf];omega
   ·have hkn:k=n:=by omega
    subst hkn;go_wp2;go_end0;refine ⟨rfl,?_,hgb⟩;have hO:=PO.out;have hsn:dg ⟨hv,fva,ha,fa⟩ k es=es.map (cS ⟨hv,fva,ha,fa⟩):=by
     have hq:=HN.out;unfold dg;rw [<-hq,List.take_length,List.drop_length,List.append_nil]
    rw [hsn] at hO;exact hO
def oF (z0:Nat) (z1:Nat):Prop:=∀(hv:Bool) (fva:Int) (ha:Bool) (fa:Int) (pf pv b o g n base:Nat) (es:List EntM) (sets ways:Int) (w:World) (hn:es.length=n) (hn1:n<=1048576) (hbl:b<w.heap.size) (hbg:b≠g)
 (c2:w.cell? ⟨b,o+2,none⟩=some (SL g n n)) (ho:w.ownsRow base z1 6 (SL g n n) n (aC es)) (hlv:∀(j:Nat) (x:EntM),es[j]?=some x->x.valid=true->0<=x.level∧x.level<=2),Calls Tryz.prog z0 #[PT b o,.func (.func 112) #[] #[]] w fun x w'=>x=.returned (.tuple #[])∧w'.ownsRow base z1 6 (SL g n n) n (aC (es))∧w.grownBy w' (some g)
theorem qu:oF 215 216∧oF 216 221:=by
 refine ⟨?_,?_⟩;have mL:=trivial
 rotate_left
 have mP:=trivial
 rotate_left
 all_goals
  intro hv fva ha fa pf pv b o g n base es sets ways w hn hn1 hbl hbg c2 ho hlv;first
   | (replace mL:=mL;have HO:Hid (w.ownsRow base 216 6 (SL g n n) n (aC es)):=ho)
   | (replace mP:=mP;have HO:Hid (w.ownsRow base 221 6 (SL g n n) n (aC es)):=ho)
  have HN:=hid hn;have HLv:=hid hlv;have hg:=(cQ ho).2.2;simp only at hg;clear ho hn hlv;first
   | (replace mL:=mL;go_enter Tryz.func215,Tryz.ntmps215)
   | (replace mP:=mP;go_enter Tryz.func216,Tryz.ntmps216)
  go_wp2_with fail;first
   | (replace mL:=mL;go_loopw [11] (fun i wr=>∃k:Nat,k<=n∧i=VI k∧w.grownBy wr (some g)∧wr.ownsRow base 216 6 (SL g n n) n (aC (es))) (fun i _=>n-(intOf i).toNat))
   | (replace mP:=mP;go_loopw [11] (fun i wr=>∃k:Nat,k<=n∧i=VI k∧w.grownBy wr (some g)∧wr.ownsRow base 221 6 (SL g n n) n (aC (es))) (fun i _=>n-(intOf i).toNat))
  case atStart=>exact ⟨0,Nat.zero_le _,rfl,ao _ _,HO.out⟩
  case round=>
   obtain ⟨k,hk,rfl,hgb,hO⟩:=hrel;first
    | (replace mL:=mL;have PO:Hid (wr.ownsRow base 216 6 (SL g n n) n (aC (es))):=hO)
    | (replace mP:=mP;have PO:Hid (wr.ownsRow base 221 6 (SL g n n) n (aC (es))):=hO)
   have lr:=hgb.size;have hfl:=hO.1;clear hO;have r2:=rl hgb c2 hbl hbg;by_cases hlt:k<n
   ·obtain ⟨⟨vv,lv,tg,asd,gl,pt⟩,hx⟩:∃x,es[k]?=some x:=⟨_,geg (by rw [HN.out];exact hlt)⟩;have hx':(es)[k]?=some ⟨vv,lv,tg,asd,gl,pt⟩:=by
     first
      | exact hx
      | (unfold dg
         have hkl:k<=es.length:=by rw [HN.out];omega
         rw [List.getElem?_append_right (by simp;omega),List.length_map,List.length_take,Nat.min_eq_left hkl,Nat.sub_self,List.getElem?_drop,Nat.add_zero,hx])
    have HXk:=hid hx;have CE:∀j u,j<6->(fB ⟨vv,lv,tg,asd,gl,pt⟩)[j]?=some u->wr.cell? ⟨g,k*6+j,none⟩=some u:=fun j u hj hu=>pV PO.out (by have:=hfl;rw [ex] at this;omega) k _ hx' j u hj hu;have g0:wr.cell? ⟨g,k*6,none⟩=some (VI lv):=CE 0 _ (by omega) rfl;have g1:wr.cell? ⟨g,k*6+1,none⟩=some (VU tg):=CE 1 _ (by omega) rfl;have g2:wr.cell? ⟨g,k*6+2,none⟩=some (VU asd):=CE 2 _ (by omega) rfl;have g3:wr.cell? ⟨g,k*6+3,none⟩=some (.bool gl):=CE 3 _ (by omega) rfl;have g4:wr.cell? ⟨g,k*6+4,none⟩=some (.bool vv):=CE 4 _ (by omega) rfl;have g5:wr.cell? ⟨g,k*6+5,none⟩=some (VU pt):=CE 5 _ (by omega) rfl;have HSm:Hid ((es).set k ⟨vv,lv,tg,asd,gl,pt⟩=es):=by
     show _=_;apply List.ext_getElem?;intro j;rw [List.getElem?_set];by_cases hj:k=j
     ·subst hj;have hkl:=(List.getElem?_eq_some_iff.1 hx').1;rw [if_pos rfl,if_pos hkl,hx']
     ·rw [if_neg hj]
    have HLx:Hid (vv=true->0<=lv∧lv<=2):=fun h=>HLv.out k _ hx h;clear CE hx hx';first
     | (replace mL:=mL;have n5:=(Below.refl wr.heap.size wr).alloc nle (Obj.cells #[VI lv,VU tg,VU asd,.bool gl,.bool vv,VU pt] 216))
     | (replace mP:=mP;have n5:=(Below.refl wr.heap.size wr).alloc nle (Obj.cells #[VI lv,VU tg,VU asd,.bool gl,.bool vv,VU pt] 221))
    have hgb5:=lX hgb n5;cases vv
    ·go_wp2;go_roundw
     case rel=>exact ⟨k+1,by omega,by go_num,hgb5,aq PO.out n5⟩
     case measure=>simp [intOf];omega
    ·go_wp2_with fail;first
      | (replace mL:=mL;generalize wr.alloc (Obj.cells #[VI lv,VU tg,VU asd,.bool gl,.bool true,VU pt] 216)=v5 at n5 hgb5 |-)
      | (replace mP:=mP;generalize wr.alloc (Obj.cells #[VI lv,VU tg,VU asd,.bool gl,.bool true,VU pt] 221)=v5 at n5 hgb5 |-)
     refine (rQ lv tg asd gl v5).mono ?_;rintro e v6 ⟨rfl,n6⟩;have n56:=bst n5 n6;have hgb6:=lX hgb n56;go_wp2;go_roundw
     case rel=>exact ⟨k+1,by omega,by go_num,hgb6,aq PO.out n56⟩
     case measure=>simp [intOf];omega
   ·have hkn:k=n:=by omega
    subst hkn;go_wp2;go_end0;refine ⟨rfl,?_,hgb⟩;have hO:=PO.out;exact hO
end
end Go.Proofs.YthdgiakgepmabaaGreat
