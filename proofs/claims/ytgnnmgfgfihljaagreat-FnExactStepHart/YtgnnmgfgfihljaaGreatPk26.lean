import Derived.Test.YtgnnmgfgfihljaaGreatPk25
namespace Go.Proofs.YtgnnmgfgfihljaaGreat
open Go.RowKit
set_option linter.unusedVariables false
set_option maxHeartbeats 6400000
set_option maxRecDepth 20000
def By (w w':World) (e:Ending) (b base gi gd gp:Nat) (k:KM) (r:Int × Int × Int × List dG) (mode:Int) (sum mxr:Bool) (satp kind va pick:Int):Prop:=
 ∃pa code,e=.returned (.tuple #[.int .u64 pa,bW code])∧(code=1∨code=2∨code=3)∧cK r mode sum mxr kind va=(if code=1 then 0 else if code=2 then dL kind else bE kind,pa)∧SetM w' b base gi gd gp (eC k kind va satp pick r code)∧Keeps w w' gi gd gp
theorem li (b base gi gd gp:Nat) (k:KM) (sv:Value) (zs:List Int) (mode:Int) (sum mxr:Bool) (satp kind va pick:Int) (w:World) (hS:SetM w b base gi gd gp k) (hk:bf k=true) (hko:∀e∈k.p.es,dS e) (hli:k.i.es.length<=1048576) (hld:k.d.es.length<=1048576) (hkl:k.p.es.length<=1048576)
 (hB:SrcAt w sv zs) (hv0:0<=va) (hv1:va<=18446744073709551615) (hr0:0<=satp) (hr1:satp<=18446744073709551615) (hp0:0<=pick) (hp1:pick<=255):
 Calls Tryz.prog 199 #[.pointer (some ⟨b,20,none⟩),sv,.agg #[.int .i64 mode,.bool sum,.bool mxr,.int .u64 satp],.int .i64 kind,.int .u64 va,.int .i64 pick] w fun e w'=>By w w' e b base gi gd gp k (aY zs satp va (aU k.p va (aG satp))) mode sum mxr satp kind va pick:=by
 have hvs:aL k.i false=true∧aL k.d false=true∧aL k.p true=true:=by
  simp only [bf,Bool.and_eq_true] at hk;exact ⟨hk.1.1,hk.1.2,hk.2⟩
 obtain ⟨vI,vD,vP⟩:=hvs;obtain ⟨ps,hsp,hpl⟩:=kZ zs satp va k.p (aG satp) vP hB.bd;have HS:Hid (SetM w b base gi gd gp k):=hS;have HB:Hid (SrcAt w sv zs):=hB;have hb:=hS.lt;have lgi:=(bC hS.2.1.1).2.2;have lgd:=(bC hS.2.1.2.1).2.2;have lgp:=(bC hS.2.1.2.2.1).2.2;simp only at lgi lgd lgp;have HWk:Hid (∀u,Below w.heap.size w u->Calls Tryz.prog 202 #[.pointer (some ⟨b,20,none⟩),sv,.int .u64 satp,.int .u64 va] u fun e w'=>ts u.heap.size w' e (aY zs satp va (aU k.p va (aG satp)))∧Below u.heap.size u w'):=fun u hu=>zu b base gi gd gp k sv zs satp va u (HS.out.keep hu) vP hko hkl (HB.out.keep hu) hv0 hv1 hr0 hr1;have HA:Hid (∀u:World,Calls Tryz.prog 198 #[.int .u64 satp] u fun e w'=>e=.returned (.int .u64 (aG satp))∧w'=u):=fun u=>kE satp u hr0 hr1;generalize aY zs satp va (aU k.p va (aG satp))=r at *;have HSp:Hid (oF r 2 ps):=hsp;have n1:=(Below.refl w.heap.size w).alloc nle (Obj.cells #[.int .i64 mode,.bool sum,.bool mxr,.int .u64 satp] 205);have H1:Hid ((w.alloc (Obj.cells #[.int .i64 mode,.bool sum,.bool mxr,.int .u64 satp] 205)).heap[w.heap.size]?=some (.cells #[.int .i64 mode,.bool sum,.bool mxr,.int .u64 satp] 205 (0,0))):=heap_alloc_new w _;have l1:w.heap.size<(w.alloc (Obj.cells #[.int .i64 mode,.bool sum,.bool mxr,.int .u64 satp] 205)).heap.size:=by simp
 clear hS hB hsp;go_enter Tryz.func199,Tryz.ntmps199;go_wp2_with fail;generalize w.alloc (Obj.cells #[.int .i64 mode,.bool sum,.bool mxr,.int .u64 satp] 205)=v1 at n1 H1 l1 |-;refine (HA.out v1).mono ?_;rintro e v1' ⟨rfl,rfl⟩;rename World=>v1;obtain ⟨⟨c0,c1,c2,c3⟩,_,_,_,_⟩:=av H1.out;go_wp2_with fail;refine (HWk.out v1 n1).mono ?_;rintro e v2 ⟨hw,n2⟩;obtain ⟨ra,rc,rfl,o2⟩:=hw;obtain ⟨cd,lv,lf,rs⟩:=r;simp only at o2 |-;obtain ⟨fv,hfv⟩:∃fv,bW cd=fv:=⟨_,rfl⟩;have HFv:Hid (bW cd=fv):=hfv;rw [hfv];clear hfv;have n3:=n2.alloc n2.size (Obj.cells #[.int .i64 lv,.int .u64 lf,.slice ra rs.length rc] 310);have n3':=(Below.refl v2.heap.size v2).alloc nle (Obj.cells #[.int .i64 lv,.int .u64 lf,.slice ra rs.length rc] 310);have H3:=ab H1 n3;have W3:Hid ((v2.alloc (Obj.cells #[.int .i64 lv,.int .u64 lf,.slice ra rs.length rc] 310)).heap[v2.heap.size]?=some (.cells #[.int .i64 lv,.int .u64 lf,.slice ra rs.length rc] 310 (0,0))):=heap_alloc_new v2 _;have RO3:=ag o2 n3';have A3:=bst n1 n3;have s2:=n2.size;have s1:=n1.size;have s3:=n3'.size;clear c0 c1 c2 c3 n1 n2 n3 n3' o2 HWk HA;go_wp2_with fail;generalize v2.alloc (Obj.cells #[.int .i64 lv,.int .u64 lf,.slice ra rs.length rc] 310)=v3 at H3 W3 RO3 A3 s3 |-;have HPt:Hid (Calls Tryz.prog 203 #[.agg #[.int .i64 lv,.int .u64 lf,.slice ra rs.length rc]] v3 fun e w'=>(∃gr,e=.returned (.slice gr ps.length rc)∧(0<ps.length->∃gq,gr=some ⟨gq,0,none⟩∧v1.heap.size<=gq∧gq<v3.heap.size∧RowC v3 (some ⟨gq,0,none⟩) rs.length 3 (cj rs)))∧Below v3.heap.size v3 w'):=by
  rcases HSp.out.2 with ⟨e1,⟨ad,e2⟩,e3,e4,e5,e6⟩ | ⟨e1,e2,e3⟩
  ·simp only at e1 e2 e3 e4 e5 e6;have hlf:lf≠0:=by rintro rfl;exact absurd e3 (wA _)
   have hrl:rs.length=ps.length+1:=by rw [e2];simp
   rcases RO3.2 with ⟨h2,h3⟩ | ⟨gq,cq,cur,h2,hb2,hg2,hc1,hc2,_⟩
   ·omega
   ·cases h2;have hat:=bC RO3;have:=rI lv lf gq ps.length rc v3 hlf (by omega) (by omega) (by unfold maxLen at hc2;omega);rw [hrl];refine this.mono ?_;rintro e w' ⟨rfl,nb⟩;exact ⟨⟨_,rfl,fun _=>⟨gq,rfl,hb2,hat.2.2,by rw [<-hrl];exact dv RO3⟩⟩,nb⟩
  ·simp only at e1 e2 e3;subst e2;subst e3;refine (rH lv ra rs.length rc v3).mono ?_;rintro e w' ⟨rfl,nb⟩;refine ⟨⟨_,rfl,fun hpos=>?_⟩,nb⟩;rcases RO3.2 with ⟨h2,h3⟩ | ⟨gq,cq,cur,h2,hb2,hg2,hc1,hc2,_⟩
   ·omega
   ·cases h2;exact ⟨gq,rfl,hb2,(bC RO3).2.2,dv RO3⟩
 refine HPt.out.mono ?_;rintro e v4 ⟨⟨gr,rfl,hgr⟩,n4⟩;have HGr:Hid (0<ps.length->∃gq,gr=some ⟨gq,0,none⟩∧v1.heap.size<=gq∧gq<v3.heap.size∧RowC v3 (some ⟨gq,0,none⟩) rs.length 3 (cj rs)):=hgr;have H4:=ab H3 n4;have W4:=ab W3 n4;have A4:=bst A3 n4;have S4:=HS.out.keep A4;have HN4:Hid (Below v3.heap.size v3 v4):=n4;have s4:=n4.size;clear hgr HPt H3 W3 RO3 n4 A3;go_wp2_with fail;go_loopw [35] (fun i wr=>∃j:Nat,j<=ps.length∧i=.int .i64 j∧SetM wr b base gi gd gp ⟨k.i,k.d,cx va satp pick (ps.take j) k.p⟩∧Keeps v4 wr gi gd gp) (fun i _=>ps.length-(intOf i).toNat)
 case atStart=>exact ⟨0,Nat.zero_le _,rfl,by simpa [cx] using S4,Keeps.refl _ _ _ _⟩
 case round=>
  obtain ⟨j,hj,rfl,hSr,hKr⟩:=hrel;have SR:Hid (SetM wr b base gi gd gp ⟨k.i,k.d,cx va satp pick (ps.take j) k.p⟩):=hSr;have KR:Hid (Keeps v4 wr gi gd gp):=hKr;have sr:=hKr.2.2.2.1;clear hSr hKr;by_cases hlt:j<ps.length
  ·obtain ⟨gq,rfl,hq1,hq2,hq3⟩:=HGr.out (by omega);obtain ⟨q,hq⟩:∃q,ps[j]?=some q:=⟨_,List.getElem?_eq_getElem hlt⟩;have hrq:rs[j]?=some q:=by
    rcases HSp.out.2 with ⟨_,⟨ad,e2⟩,_⟩ | ⟨_,e2,_⟩
    ·simp only at e2;rw [e2,List.getElem?_append_left hlt];exact hq
    ·simp only at e2;rw [e2];exact hq
   have hrl:j<rs.length:=(List.getElem?_eq_some_iff.1 hrq).1;have RQ:RowC wr (some ⟨gq,0,none⟩) rs.length 3 (cj rs):=Keeps.row (hq3.keep HN4.out) KR.out (by omega) (by omega) (by omega);obtain ⟨f0,f1,f2⟩:=xz rs j q hrq;have hcell:∀i v,(cj rs)[i]?=some v->wr.cell? ⟨gq,i,none⟩=some v:=fun i v h=>by
    rcases RQ.2 with h0 | ⟨b',o',e',_,hc⟩
    ·omega
    ·cases e';have:=hc i v h;rwa [Nat.zero_add] at this
   have g0:wr.cell? ⟨gq,j*3,none⟩=some (.int .i64 q.1):=hcell _ _ f0;have g1:wr.cell? ⟨gq,j*3+1,none⟩=some (.int .u64 q.2.1):=hcell _ _ f1;have g2:wr.cell? ⟨gq,j*3+2,none⟩=some (.int .u64 q.2.2):=hcell _ _ f2;obtain ⟨hkd,hq0,hq2',hv0',hv1'⟩:=HSp.out.1 q (List.mem_of_getElem? hq);have HQ:Hid (ps[j]?=some q):=hq;have hrlc:rs.length<=rc∨True:=.inr trivial;clear RQ f0 f1 f2 hcell hq3 hrq hq;have n5:=(Below.refl wr.heap.size wr).alloc nle (Obj.cells #[.int .i64 q.1,.int .u64 q.2.1,.int .u64 q.2.2] 261);have E5:Hid ((wr.alloc (Obj.cells #[.int .i64 q.1,.int .u64 q.2.1,.int .u64 q.2.2] 261)).heap[wr.heap.size]?=some (.cells #[.int .i64 q.1,.int .u64 q.2.1,.int .u64 q.2.2] 261 (0,0))):=heap_alloc_new wr _;go_wp2_with fail;generalize wr.alloc (Obj.cells #[.int .i64 q.1,.int .u64 q.2.1,.int .u64 q.2.2] 261)=v5 at n5 E5 |-;have S5:=SR.out.keep n5;obtain ⟨⟨g0,g1,g2⟩,_,_,_⟩:=ay E5.out;go_still_tail 10,(by kernel_rfl);go_wp2_with fail;have D5:=bdr v5;have S5d:=S5.keep D5;have hpl5:=jM va satp pick (ps.take j) k.p;have hval:=lY va satp pick (ps.take j) k.p vP;have hsh:=eL hval;obtain ⟨p0,p1,p2⟩:=S5d.cellP;have hwant:bu q.2.2 q.1=gD true:=by rw [hkd];rfl
   refine (nZ.2 b 26 gp (cx va satp pick (ps.take j) k.p).es.length base (cx va satp pick (ps.take j) k.p) q.2.2 q.1 va (aG satp) pick v5.drew rfl (by rw [hpl5.1];exact hkl) hsh.1 hsh.2.1 hsh.2.2.1 hsh.2.2.2 S5d.lt S5d.2.2.2.2 p0 p1 p2 S5d.2.1.2.2.1 (by omega) hv0 hv1 hv0' hv1' hp0 hp1).mono ?_;rintro e v6 ⟨rfl,o6,m6⟩;have hins:=lM hval (iW q.1 va satp q.2.2 true hwant) ⟨hp0,hp1⟩;have hnew:cx va satp pick (ps.take (j+1)) k.p=⟨(cx va satp pick (ps.take j) k.p).sets,(cx va satp pick (ps.take j) k.p).ways,(cx va satp pick (ps.take j) k.p).es.set (eA (cx va satp pick (ps.take j) k.p) (ee q.1 va satp q.2.2)+iq (cx va satp pick (ps.take j) k.p) (ee q.1 va satp q.2.2) pick) (ee q.1 va satp q.2.2)⟩:=by
    rw [ym va satp pick ps j q k.p HQ.out hkd,hins]
   have R6:=RowsAt.putP S5d.2.1 m6 List.length_set o6;have B6:=CellsM.gb S5d.1 m6 S5d.2.2.2.2;have K6:=(KR.out.trans (Keeps.of_below _ _ _ (bst n5 D5))).trans (Keeps.of_gb gi gd gp m6 (.inr (.inr rfl)));have HR6:Hid (SetM v6 b base gi gd gp ⟨k.i,k.d,cx va satp pick (ps.take (j+1)) k.p⟩):=by
    rw [hnew];refine ⟨?_,R6,S5d.2.2⟩;simpa only [eR,List.length_set] using B6
   have HK6:Hid (Keeps v4 v6 gi gd gp):=K6;clear S5 S5d hpl5 hval hsh p0 p1 p2 hwant o6 m6 hins hnew R6 B6 K6 g0 g1 g2 E5 n5 D5;go_wp2_with fail;go_roundw
   case rel=>exact ⟨j+1,by omega,by go_num,HR6.out,HK6.out⟩
   case measure=>simp [intOf];omega
  ·have hje:j=ps.length:=by omega
   subst hje;have q1:=Bl;have q2:=Bm;have q3:=Bn;have SE:SetM wr b base gi gd gp ⟨k.i,k.d,cx va satp pick rs k.p⟩:=by
    have h:=SR.out;rw [List.take_length] at h;have:=wC va satp pick k.p HSp.out;simp only at this;rw [this];exact h
   have WE:Hid (wr.heap[v2.heap.size]?=some (.cells #[.int .i64 lv,.int .u64 lf,.slice ra rs.length rc] 310 (0,0))):=KR.out.heap W4.out (by omega) (by omega) (by omega);have CE:Hid (wr.heap[w.heap.size]?=some (.cells #[.int .i64 mode,.bool sum,.bool mxr,.int .u64 satp] 205 (0,0))):=KR.out.heap H4.out (by omega) (by omega) (by omega);have KE:Keeps w wr gi gd gp:=(Keeps.of_below _ _ _ A4).trans KR.out;rcases HSp.out.2 with ⟨e1,⟨ad,e2⟩,e3,e4,e5,e6⟩ | ⟨e1,e2,e3⟩
   ·simp only at e1 e2 e3 e4 e5 e6;subst e1;obtain rfl:fv=.nilIface:=by rw [<-HFv.out];rfl
    obtain ⟨⟨c0,c1,c2,c3⟩,_,_,_,_⟩:=av CE.out;obtain ⟨⟨d0,d1,d2⟩,_,_,_⟩:=ay WE.out;have HTL:Hid (∀u:World,Calls Tryz.prog 200 #[.int .u64 lf,.int .i64 lv,.agg #[.int .i64 mode,.bool sum,.bool mxr,.int .u64 satp],.int .i64 kind,.int .u64 va] u fun e w'=>e=.returned (.tuple #[.int .u64 (if cF lf kind mode sum mxr=true then eX lf lv va else 0),bW (if cF lf kind mode sum mxr=true then 1 else 2)])∧Below u.heap.size u w'):=fun u=>fA lf lv mode sum mxr satp kind va u e6.1 e6.2 hv0 hv1 (by omega);go_wp2_with fail;refine (HTL.out wr).mono ?_;by_cases hgr:cF lf kind mode sum mxr=true
    ·rw [if_pos hgr,if_pos hgr,show bW 1=.nilIface from rfl];rintro e v6 ⟨rfl,N6⟩;have W6:=ab WE N6;have D6:=bdr v6;have N6d:=bst N6 D6;have S6:=SE.keep N6d;clear c0 c1 c2 c3 d0 d1 d2;obtain ⟨⟨d0,d1,d2⟩,_,_,_⟩:=ay W6.out;have HLv:Hid (∀u:World,Calls Tryz.prog 196 #[.pointer (some ⟨b,20,none⟩),.int .i64 kind] u fun e w'=>e=.returned (.pointer (some ⟨b,if kind=0 then 20 else 23,none⟩))∧w'=u):=fun u=>uq b kind u;go_wp2_with fail;refine cY 10 (by kernel_rfl) (by kernel_rfl) ?_;simp only [List.take_succ_cons,List.take_zero,List.drop_succ_cons,List.drop_zero];repeat still_step
     still_call (HLv.out _)
     repeat still_step
     refine wpStill_nil ?_;by_cases hkz:kind=0
     ·rw [if_pos hkz];go_wp2_with fail;have hsh:=eL vI;refine (nZ.1 b 20 gi k.i.es.length base k.i lf lv va (aG satp) pick v6.drew rfl hli hsh.1 hsh.2.1 hsh.2.2.1 hsh.2.2.2 S6.lt S6.2.2.1 (S6.cellI).1 (S6.cellI).2.1 (S6.cellI).2.2 S6.2.1.1 (by omega) hv0 hv1 e6.1 e6.2 hp0 hp1).mono ?_;rintro e v7 ⟨rfl,o7,m7⟩;have hins:=lM vI (iW lv va satp lf false e3) ⟨hp0,hp1⟩;have R7:=RowsAt.putI S6.2.1 m7 List.length_set o7;have B7:=CellsM.gb S6.1 m7 S6.2.2.1;have K7:=(KE.trans (Keeps.of_below _ _ _ N6d)).trans (Keeps.of_gb gi gd gp m7 (.inl rfl));have T7:Hid (SetM v7 b base gi gd gp (eC k kind va satp pick (1,lv,lf,rs) 1)):=by
       have hkm:eC k kind va satp pick (1,lv,lf,rs) 1=⟨⟨k.i.sets,k.i.ways,k.i.es.set (eA k.i (ee lv va satp lf)+iq k.i (ee lv va satp lf) pick) (ee lv va satp lf)⟩,k.d,cx va satp pick rs k.p⟩:=by
        unfold eC rJ ep;simp only [if_true];first
         | (rw [if_pos hkz,if_pos hkz,hins])
         | (rw [if_neg hkz,if_neg hkz,hins])
       rw [hkm];refine ⟨?_,R7,S6.2.2⟩;simpa only [eR,List.length_set] using B7
      have HK7:Hid (Keeps w v7 gi gd gp):=K7;clear o7 m7 hins R7 B7 K7;go_wp2_with fail;refine bodyPost_ret (v:=.tuple #[.int .u64 (eX lf lv va),.nilIface]) (by simp [results,Tryz.results199,go_sem]) rfl ⟨_,1,rfl,.inl rfl,?_,T7.out,HK7.out⟩;simp only [cK,er,if_pos hgr];simp
     ·rw [if_neg hkz];go_wp2_with fail;have hsh:=eL vD;refine (nZ.1 b 23 gd k.d.es.length base k.d lf lv va (aG satp) pick v6.drew rfl hld hsh.1 hsh.2.1 hsh.2.2.1 hsh.2.2.2 S6.lt S6.2.2.2.1 (S6.cellD).1 (S6.cellD).2.1 (S6.cellD).2.2 S6.2.1.2.1 (by omega) hv0 hv1 e6.1 e6.2 hp0 hp1).mono ?_;rintro e v7 ⟨rfl,o7,m7⟩;have hins:=lM vD (iW lv va satp lf false e3) ⟨hp0,hp1⟩;have R7:=RowsAt.putD S6.2.1 m7 List.length_set o7;have B7:=CellsM.gb S6.1 m7 S6.2.2.2.1;have K7:=(KE.trans (Keeps.of_below _ _ _ N6d)).trans (Keeps.of_gb gi gd gp m7 (.inr (.inl rfl)));have T7:Hid (SetM v7 b base gi gd gp (eC k kind va satp pick (1,lv,lf,rs) 1)):=by
       have hkm:eC k kind va satp pick (1,lv,lf,rs) 1=⟨k.i,⟨k.d.sets,k.d.ways,k.d.es.set (eA k.d (ee lv va satp lf)+iq k.d (ee lv va satp lf) pick) (ee lv va satp lf)⟩,cx va satp pick rs k.p⟩:=by
        unfold eC rJ ep;simp only [if_true];first
         | (rw [if_pos hkz,if_pos hkz,hins])
         | (rw [if_neg hkz,if_neg hkz,hins])
       rw [hkm];refine ⟨?_,R7,S6.2.2⟩;simpa only [eR,List.length_set] using B7
      have HK7:Hid (Keeps w v7 gi gd gp):=K7;clear o7 m7 hins R7 B7 K7;go_wp2_with fail;refine bodyPost_ret (v:=.tuple #[.int .u64 (eX lf lv va),.nilIface]) (by simp [results,Tryz.results199,go_sem]) rfl ⟨_,1,rfl,.inl rfl,?_,T7.out,HK7.out⟩;simp only [cK,er,if_pos hgr];simp
    ·rw [if_neg hgr,if_neg hgr,show bW 2=.iface 282 (.agg #[]) from rfl];rintro e v6 ⟨rfl,N6⟩;go_wp2_with fail;refine bodyPost_ret (v:=.tuple #[.int .u64 0,.iface 282 (.agg #[])]) (by simp [results,Tryz.results199,go_sem]) rfl ⟨0,2,rfl,.inr (.inl rfl),?_,?_,KE.trans (Keeps.of_below _ _ _ N6)⟩
     ·simp only [cK,er,if_neg hgr];simp
     ·have hkm:eC k kind va satp pick (1,lv,lf,rs) 2=⟨k.i,k.d,cx va satp pick rs k.p⟩:=by simp [eC]
      rw [hkm];exact SE.keep N6
   ·simp only at e1 e2 e3;rcases e1 with rfl | rfl
    ·obtain rfl:fv=.iface 282 (.agg #[]):=by rw [<-HFv.out];rfl
     go_wp2_with fail;refine bodyPost_ret (v:=.tuple #[.int .u64 0,.iface 282 (.agg #[])]) (by simp [results,Tryz.results199,go_sem]) rfl ⟨0,2,rfl,.inr (.inl rfl),by simp [cK],?_,KE⟩;have hkm:eC k kind va satp pick (2,lv,lf,rs) 2=⟨k.i,k.d,cx va satp pick rs k.p⟩:=by simp [eC]
     rw [hkm];exact SE
    ·obtain rfl:fv=.iface 283 (.agg #[]):=by rw [<-HFv.out];rfl
     go_wp2_with fail;refine bodyPost_ret (v:=.tuple #[.int .u64 0,.iface 283 (.agg #[])]) (by simp [results,Tryz.results199,go_sem]) rfl ⟨0,3,rfl,.inr (.inr rfl),by simp [cK],?_,KE⟩;have hkm:eC k kind va satp pick (3,lv,lf,rs) 3=⟨k.i,k.d,cx va satp pick rs k.p⟩:=by simp [eC]
     rw [hkm];exact SE
end Go.Proofs.YtgnnmgfgfihljaaGreat
