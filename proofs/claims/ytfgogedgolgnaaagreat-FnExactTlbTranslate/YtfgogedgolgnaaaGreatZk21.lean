import Derived.Test.YtfgogedgolgnaaaGreatZk20
namespace Go.Proofs.YtfgogedgolgnaaaGreat
open Go.RowKit
set_option linter.unusedVariables false
set_option maxHeartbeats 6400000
set_option maxRecDepth 20000
section
attribute [local go_sem ↓] Go.wp_at_zero Go.wp_at_succ
theorem Keeps.row {w w':World} {x y z g n size:Nat} {cs:List Value} (h:RowC w (some ⟨g,0,none⟩) n size cs) (hk:Keeps w w' x y z) (h1:g≠x) (h2:g≠y) (h3:g≠z):RowC w' (some ⟨g,0,none⟩) n size cs:=by
 obtain ⟨a,b⟩:=h;refine ⟨a,?_⟩;rcases b with b | ⟨q,o,e,hlt,hc⟩
 ·exact .inl b
 ·cases e;exact .inr ⟨g,0,rfl,Nat.lt_of_lt_of_le hlt hk.2.2.2.1,fun i v hi=>(World.cell?_of_block (hk.2.2.2.2 g hlt h1 h2 h3)).trans (hc i v hi)⟩
theorem kh:∀(rs:List bF) (j:Nat) (r:bF),rs[j]?=some r->(aP rs)[j*3]?=some (.int .i64 r.1)∧(aP rs)[j*3+1]?=some (.int .u64 r.2.1)∧(aP rs)[j*3+2]?=some (.int .u64 r.2.2)
 | x::rs,0,r,h=>by
  simp at h;subst h;simp [aP,fO]
 | x::rs,j+1,r,h=>by
  have ih:=kh rs j r (by simpa using h);have e0:(j+1)*3=j*3+3:=by omega
  rw [e0];simpa [aP,fO] using ih
theorem ky (va satp pick:Int) (ps:List bF) (j:Nat) (r:bF) (p:TlbM) (h:ps[j]?=some r) (hk:aH r.2.2 r.1=1):aR va satp pick (ps.take (j+1)) p=be (aR va satp pick (ps.take j) p) (bB r.1 va satp r.2.2) pick:=by
 rw [List.take_add_one,h,dh];simp only [Option.toList,aR];rw [if_pos hk]
theorem eB {t:TlbM} {e:EntM} {pick:Int} {p:Bool} (hv:aA t p=true) (hg:ay e p=true) (hp:0<=pick∧pick<=255):be t e pick=⟨t.sets,t.ways,t.es.set (bD t e+cG t e pick) e⟩:=by
 have hf:dK t e=true:=by
  simp only [dK,Bool.or_eq_true,Bool.and_eq_true];cases p
  ·exact .inr ⟨hv,hg⟩
  ·exact .inl ⟨hv,hg⟩
 unfold be;rw [if_pos ⟨hf,hp.1,hp.2⟩]
def bY (k:KM) (kind va satp pick:Int) (r:Int × Int × Int × List bF) (code:Int):KM:=
 if code=1 then iN ⟨k.i,k.d,aR va satp pick r.2.2.2 k.p⟩ kind (be (cj k kind) (bB r.2.1 va satp r.2.2.1) pick) else ⟨k.i,k.d,aR va satp pick r.2.2.2 k.p⟩
def mt (w w':World) (e:Ending) (b base gi gd gp:Nat) (k:KM) (r:Int × Int × Int × List bF) (mode:Int) (sum mxr:Bool) (satp kind va pick:Int):Prop:=
 ∃pa code,e=.returned (.tuple #[.int .u64 pa,bv code])∧(code=1∨code=2∨code=3)∧bx r mode sum mxr kind va=(if code=1 then 0 else if code=2 then ck kind else bN kind,pa)∧SetAt w' b base gi gd gp (bY k kind va satp pick r code)∧Keeps w w' gi gd gp
theorem dM (b base gi gd gp:Nat) (k:KM) (sv:Value) (zs:List Int) (mode:Int) (sum mxr:Bool) (satp kind va pick:Int) (w:World) (hS:SetAt w b base gi gd gp k) (hk:bn k=true) (hko:∀e∈k.p.es,bf e) (hli:k.i.es.length<=1048576) (hld:k.d.es.length<=1048576) (hkl:k.p.es.length<=1048576)
 (hB:SrcAt w sv zs) (hv0:0<=va) (hv1:va<=18446744073709551615) (hr0:0<=satp) (hr1:satp<=18446744073709551615) (hp0:0<=pick) (hp1:pick<=255):
 Calls Tryz.prog 67 #[.pointer (some ⟨b,0,none⟩),sv,.agg #[.int .i64 mode,.bool sum,.bool mxr,.int .u64 satp],.int .i64 kind,.int .u64 va,.int .i64 pick] w fun e w'=>mt w w' e b base gi gd gp k (aK zs satp va (aD k.p va (au satp))) mode sum mxr satp kind va pick:=by
 have hvs:aA k.i false=true∧aA k.d false=true∧aA k.p true=true:=by
  simp only [bn,Bool.and_eq_true] at hk;exact ⟨hk.1.1,hk.1.2,hk.2⟩
 obtain ⟨vI,vD,vP⟩:=hvs;obtain ⟨ps,hsp,hpl⟩:=eu zs satp va k.p (au satp) vP hB.bd;have HS:Hid (SetAt w b base gi gd gp k):=hS;have HB:Hid (SrcAt w sv zs):=hB;have hb:=hS.lt;have lgi:=(aE hS.2.1.1).2.2;have lgd:=(aE hS.2.1.2.1).2.2;have lgp:=(aE hS.2.1.2.2.1).2.2;simp only at lgi lgd lgp;have HWk:Hid (∀u,Below w.heap.size w u->Calls Tryz.prog 87 #[.pointer (some ⟨b,0,none⟩),sv,.int .u64 satp,.int .u64 va] u fun e w'=>iH u.heap.size w' e (aK zs satp va (aD k.p va (au satp)))∧Below u.heap.size u w'):=fun u hu=>jX b base gi gd gp k sv zs satp va u (HS.out.keep hu) vP hko hkl (HB.out.keep hu) hv0 hv1 hr0 hr1;have HA:Hid (∀u:World,Calls Tryz.prog 66 #[.int .u64 satp] u fun e w'=>e=.returned (.int .u64 (au satp))∧w'=u):=fun u=>eh satp u hr0 hr1;generalize aK zs satp va (aD k.p va (au satp))=r at *;have HSp:Hid (fw r 2 ps):=hsp;have n1:=(Below.refl w.heap.size w).alloc (Nat.le_refl _) (Obj.cells #[.int .i64 mode,.bool sum,.bool mxr,.int .u64 satp] 41);have H1:Hid ((w.alloc (Obj.cells #[.int .i64 mode,.bool sum,.bool mxr,.int .u64 satp] 41)).heap[w.heap.size]?=some (.cells #[.int .i64 mode,.bool sum,.bool mxr,.int .u64 satp] 41 (0,0))):=heap_alloc_new w _;have l1:w.heap.size<(w.alloc (Obj.cells #[.int .i64 mode,.bool sum,.bool mxr,.int .u64 satp] 41)).heap.size:=by simp
 clear hS hB hsp;go_enter Tryz.func67,Tryz.ntmps67;go_wp2_with fail;generalize w.alloc (Obj.cells #[.int .i64 mode,.bool sum,.bool mxr,.int .u64 satp] 41)=v1 at n1 H1 l1 |-;refine (HA.out v1).mono ?_;rintro e v1' ⟨rfl,rfl⟩;rename World=>v1;obtain ⟨⟨c0,c1,c2,c3⟩,_,_,_,_⟩:=ag H1.out;go_wp2_with fail;refine (HWk.out v1 n1).mono ?_;rintro e v2 ⟨hw,n2⟩;obtain ⟨ra,rc,rfl,o2⟩:=hw;obtain ⟨cd,lv,lf,rs⟩:=r;simp only at o2 |-;obtain ⟨fv,hfv⟩:∃fv,bv cd=fv:=⟨_,rfl⟩;have HFv:Hid (bv cd=fv):=hfv;rw [hfv];clear hfv;have n3:=n2.alloc n2.size (Obj.cells #[.int .i64 lv,.int .u64 lf,.slice ra rs.length rc] 158);have n3':=(Below.refl v2.heap.size v2).alloc (Nat.le_refl _) (Obj.cells #[.int .i64 lv,.int .u64 lf,.slice ra rs.length rc] 158);have H3:=aa H1 n3;have W3:Hid ((v2.alloc (Obj.cells #[.int .i64 lv,.int .u64 lf,.slice ra rs.length rc] 158)).heap[v2.heap.size]?=some (.cells #[.int .i64 lv,.int .u64 lf,.slice ra rs.length rc] 158 (0,0))):=heap_alloc_new v2 _;have RO3:=ae o2 n3';have A3:=Below.step n1 n3 (Nat.le_refl _);have s2:=n2.size;have s1:=n1.size;have s3:=n3'.size;clear c0 c1 c2 c3 n1 n2 n3 n3' o2 HWk HA;go_wp2_with fail;generalize v2.alloc (Obj.cells #[.int .i64 lv,.int .u64 lf,.slice ra rs.length rc] 158)=v3 at H3 W3 RO3 A3 s3 |-;have HPt:Hid (Calls Tryz.prog 88 #[.agg #[.int .i64 lv,.int .u64 lf,.slice ra rs.length rc]] v3 fun e w'=>(∃gr,e=.returned (.slice gr ps.length rc)∧(0<ps.length->∃gq,gr=some ⟨gq,0,none⟩∧v1.heap.size<=gq∧gq<v3.heap.size∧RowC v3 (some ⟨gq,0,none⟩) rs.length 3 (aP rs)))∧Below v3.heap.size v3 w'):=by
  rcases HSp.out.2 with ⟨e1,⟨ad,e2⟩,e3,e4,e5,e6⟩ | ⟨e1,e2,e3⟩
  ·simp only at e1 e2 e3 e4 e5 e6;have hlf:lf≠0:=by rintro rfl;exact absurd e3 (jO _)
   have hrl:rs.length=ps.length+1:=by rw [e2];simp
   rcases RO3.2 with ⟨h2,h3⟩ | ⟨gq,cq,cur,h2,hb2,hg2,hc1,hc2,_⟩
   ·omega
   ·cases h2;have hat:=aE RO3;have:=gM lv lf gq ps.length rc v3 hlf (by omega) (by omega) (by unfold maxLen at hc2;omega);rw [hrl];refine this.mono ?_;rintro e w' ⟨rfl,nb⟩;exact ⟨⟨_,rfl,fun _=>⟨gq,rfl,hb2,hat.2.2,by rw [<-hrl];exact bW RO3⟩⟩,nb⟩
  ·simp only at e1 e2 e3;subst e2;subst e3;refine (gL lv ra rs.length rc v3).mono ?_;rintro e w' ⟨rfl,nb⟩;refine ⟨⟨_,rfl,fun hpos=>?_⟩,nb⟩;rcases RO3.2 with ⟨h2,h3⟩ | ⟨gq,cq,cur,h2,hb2,hg2,hc1,hc2,_⟩
   ·omega
   ·cases h2;exact ⟨gq,rfl,hb2,(aE RO3).2.2,bW RO3⟩
 refine HPt.out.mono ?_;rintro e v4 ⟨⟨gr,rfl,hgr⟩,n4⟩;have HGr:Hid (0<ps.length->∃gq,gr=some ⟨gq,0,none⟩∧v1.heap.size<=gq∧gq<v3.heap.size∧RowC v3 (some ⟨gq,0,none⟩) rs.length 3 (aP rs)):=hgr;have H4:=aa H3 n4;have W4:=aa W3 n4;have A4:=Below.step A3 n4 (Nat.le_refl _);have S4:=HS.out.keep A4;have HN4:Hid (Below v3.heap.size v3 v4):=n4;have s4:=n4.size;clear hgr HPt H3 W3 RO3 n4 A3;go_wp2_with fail;go_loopw [35] (fun i wr=>∃j:Nat,j<=ps.length∧i=.int .i64 j∧SetAt wr b base gi gd gp ⟨k.i,k.d,aR va satp pick (ps.take j) k.p⟩∧Keeps v4 wr gi gd gp) (fun i _=>ps.length-(intOf i).toNat)
 case atStart=>exact ⟨0,Nat.zero_le _,rfl,by simpa [aR] using S4,Keeps.refl _ _ _ _⟩
 case round=>
  obtain ⟨j,hj,rfl,hSr,hKr⟩:=hrel;have SR:Hid (SetAt wr b base gi gd gp ⟨k.i,k.d,aR va satp pick (ps.take j) k.p⟩):=hSr;have KR:Hid (Keeps v4 wr gi gd gp):=hKr;have sr:=hKr.2.2.2.1;clear hSr hKr;by_cases hlt:j<ps.length
  ·obtain ⟨gq,rfl,hq1,hq2,hq3⟩:=HGr.out (by omega);obtain ⟨q,hq⟩:∃q,ps[j]?=some q:=⟨_,List.getElem?_eq_getElem hlt⟩;have hrq:rs[j]?=some q:=by
    rcases HSp.out.2 with ⟨_,⟨ad,e2⟩,_⟩ | ⟨_,e2,_⟩
    ·simp only at e2;rw [e2,List.getElem?_append_left hlt];exact hq
    ·simp only at e2;rw [e2];exact hq
   have hrl:j<rs.length:=(List.getElem?_eq_some_iff.1 hrq).1;have RQ:RowC wr (some ⟨gq,0,none⟩) rs.length 3 (aP rs):=Keeps.row (hq3.keep HN4.out) KR.out (by omega) (by omega) (by omega);obtain ⟨f0,f1,f2⟩:=kh rs j q hrq;have hcell:∀i v,(aP rs)[i]?=some v->wr.cell? ⟨gq,i,none⟩=some v:=fun i v h=>by
    rcases RQ.2 with h0 | ⟨b',o',e',_,hc⟩
    ·omega
    ·cases e';have:=hc i v h;rwa [Nat.zero_add] at this
   have g0:wr.cell? ⟨gq,j*3,none⟩=some (.int .i64 q.1):=hcell _ _ f0;have g1:wr.cell? ⟨gq,j*3+1,none⟩=some (.int .u64 q.2.1):=hcell _ _ f1;have g2:wr.cell? ⟨gq,j*3+2,none⟩=some (.int .u64 q.2.2):=hcell _ _ f2;obtain ⟨hkd,hq0,hq2',hv0',hv1'⟩:=HSp.out.1 q (List.mem_of_getElem? hq);have HQ:Hid (ps[j]?=some q):=hq;have hrlc:rs.length<=rc∨True:=.inr trivial;clear RQ f0 f1 f2 hcell hq3 hrq hq;have n5:=(Below.refl wr.heap.size wr).alloc (Nat.le_refl _) (Obj.cells #[.int .i64 q.1,.int .u64 q.2.1,.int .u64 q.2.2] 71);have E5:Hid ((wr.alloc (Obj.cells #[.int .i64 q.1,.int .u64 q.2.1,.int .u64 q.2.2] 71)).heap[wr.heap.size]?=some (.cells #[.int .i64 q.1,.int .u64 q.2.1,.int .u64 q.2.2] 71 (0,0))):=heap_alloc_new wr _;go_wp2_with fail;generalize wr.alloc (Obj.cells #[.int .i64 q.1,.int .u64 q.2.1,.int .u64 q.2.2] 71)=v5 at n5 E5 |-;have S5:=SR.out.keep n5;obtain ⟨⟨g0,g1,g2⟩,_,_,_⟩:=ai E5.out;go_still_tail 10,(by kernel_rfl);go_wp2_with fail;have D5:Below v5.heap.size v5 v5.drew:=(Below.refl _ _).drew;have S5d:=S5.keep D5;have hpl5:=cD va satp pick (ps.take j) k.p;have hval:=ge va satp pick (ps.take j) k.p vP;have hsh:=cP hval;obtain ⟨p0,p1,p2⟩:=S5d.cellP;have hwant:aH q.2.2 q.1=cM true:=by rw [hkd];rfl
   refine (kJ b 6 gp (aR va satp pick (ps.take j) k.p).es.length base (aR va satp pick (ps.take j) k.p) q.2.2 q.1 va (au satp) pick v5.drew rfl (by rw [hpl5.1];exact hkl) hsh.1 hsh.2.1 hsh.2.2.1 hsh.2.2.2 S5d.lt S5d.2.2.2.2 p0 p1 p2 S5d.2.1.2.2.1 (by omega) hv0 hv1 hv0' hv1' hp0 hp1).mono ?_;rintro e v6 ⟨rfl,o6,m6⟩;have hins:=eB hval (em q.1 va satp q.2.2 true hwant) ⟨hp0,hp1⟩;have hnew:aR va satp pick (ps.take (j+1)) k.p=⟨(aR va satp pick (ps.take j) k.p).sets,(aR va satp pick (ps.take j) k.p).ways,(aR va satp pick (ps.take j) k.p).es.set (bD (aR va satp pick (ps.take j) k.p) (bB q.1 va satp q.2.2)+cG (aR va satp pick (ps.take j) k.p) (bB q.1 va satp q.2.2) pick) (bB q.1 va satp q.2.2)⟩:=by
    rw [ky va satp pick ps j q k.p HQ.out hkd,hins]
   have R6:=RowsAt.putP S5d.2.1 m6 List.length_set o6;have B6:=aV S5d.1 m6 S5d.2.2.2.2;have K6:=(KR.out.trans (Keeps.of_below _ _ _ (Below.step n5 D5 (Nat.le_refl _)))).trans (Keeps.of_gb gi gd gp m6 (.inr (.inr rfl)));have HR6:Hid (SetAt v6 b base gi gd gp ⟨k.i,k.d,aR va satp pick (ps.take (j+1)) k.p⟩):=by
    rw [hnew];refine ⟨?_,R6,S5d.2.2⟩;rw [B6];simp only [gu,List.length_set]
   have HK6:Hid (Keeps v4 v6 gi gd gp):=K6;clear S5 S5d hpl5 hval hsh p0 p1 p2 hwant o6 m6 hins hnew R6 B6 K6 g0 g1 g2 E5 n5 D5;go_wp2_with fail;go_roundw
   case rel=>exact ⟨j+1,by omega,by go_num,HR6.out,HK6.out⟩
   case measure=>simp [intOf];omega
  ·have hje:j=ps.length:=by omega
   subst hje;have q1:=mM;have q2:=mN;have q3:=mO;have SE:SetAt wr b base gi gd gp ⟨k.i,k.d,aR va satp pick rs k.p⟩:=by
    have h:=SR.out;rw [List.take_length] at h;have:=jQ va satp pick k.p HSp.out;simp only at this;rw [this];exact h
   have WE:Hid (wr.heap[v2.heap.size]?=some (.cells #[.int .i64 lv,.int .u64 lf,.slice ra rs.length rc] 158 (0,0))):=KR.out.heap W4.out (by omega) (by omega) (by omega);have CE:Hid (wr.heap[w.heap.size]?=some (.cells #[.int .i64 mode,.bool sum,.bool mxr,.int .u64 satp] 41 (0,0))):=KR.out.heap H4.out (by omega) (by omega) (by omega);have KE:Keeps w wr gi gd gp:=(Keeps.of_below _ _ _ A4).trans KR.out;rcases HSp.out.2 with ⟨e1,⟨ad,e2⟩,e3,e4,e5,e6⟩ | ⟨e1,e2,e3⟩
   ·simp only at e1 e2 e3 e4 e5 e6;subst e1;obtain rfl:fv=.nilIface:=by rw [<-HFv.out];rfl
    obtain ⟨⟨c0,c1,c2,c3⟩,_,_,_,_⟩:=ag CE.out;obtain ⟨⟨d0,d1,d2⟩,_,_,_⟩:=ai WE.out;have HTL:Hid (∀u:World,Calls Tryz.prog 68 #[.int .u64 lf,.int .i64 lv,.agg #[.int .i64 mode,.bool sum,.bool mxr,.int .u64 satp],.int .i64 kind,.int .u64 va] u fun e w'=>e=.returned (.tuple #[.int .u64 (if aY lf kind mode sum mxr=true then cz lf lv va else 0),bv (if aY lf kind mode sum mxr=true then 1 else 2)])∧Below u.heap.size u w'):=fun u=>cQ lf lv mode sum mxr satp kind va u e6.1 e6.2 hv0 hv1 (by omega);go_wp2_with fail;refine (HTL.out wr).mono ?_;by_cases hgr:aY lf kind mode sum mxr=true
    ·rw [if_pos hgr,if_pos hgr,show bv 1=.nilIface from rfl];rintro e v6 ⟨rfl,N6⟩;have W6:=aa WE N6;have D6:Below v6.heap.size v6 v6.drew:=(Below.refl _ _).drew;have N6d:=Below.step N6 D6 (Nat.le_refl _);have S6:=SE.keep N6d;clear c0 c1 c2 c3 d0 d1 d2;obtain ⟨⟨d0,d1,d2⟩,_,_,_⟩:=ai W6.out;have HLv:Hid (∀u:World,Calls Tryz.prog 64 #[.pointer (some ⟨b,0,none⟩),.int .i64 kind] u fun e w'=>e=.returned (.pointer (some ⟨b,if kind=0 then 0 else 3,none⟩))∧w'=u):=fun u=>ib b kind u;go_wp2_with fail;refine ga 10 (by kernel_rfl) (by kernel_rfl) ?_;simp only [List.take_succ_cons,List.take_zero,List.drop_succ_cons,List.drop_zero];repeat still_step
     still_call (HLv.out _)
     repeat still_step
     refine wpStill_nil ?_;by_cases hkz:kind=0
     ·rw [if_pos hkz];go_wp2_with fail;have hsh:=cP vI;refine (gP b 0 gi k.i.es.length base k.i lf lv va (au satp) pick v6.drew rfl hli hsh.1 hsh.2.1 hsh.2.2.1 hsh.2.2.2 S6.lt S6.2.2.1 (S6.cellI).1 (S6.cellI).2.1 (S6.cellI).2.2 S6.2.1.1 (by omega) hv0 hv1 e6.1 e6.2 hp0 hp1).mono ?_;rintro e v7 ⟨rfl,o7,m7⟩;have hins:=eB vI (em lv va satp lf false e3) ⟨hp0,hp1⟩;have R7:=RowsAt.putI S6.2.1 m7 List.length_set o7;have B7:=aV S6.1 m7 S6.2.2.1;have K7:=(KE.trans (Keeps.of_below _ _ _ N6d)).trans (Keeps.of_gb gi gd gp m7 (.inl rfl));have T7:Hid (SetAt v7 b base gi gd gp (bY k kind va satp pick (1,lv,lf,rs) 1)):=by
       have hkm:bY k kind va satp pick (1,lv,lf,rs) 1=⟨⟨k.i.sets,k.i.ways,k.i.es.set (bD k.i (bB lv va satp lf)+cG k.i (bB lv va satp lf) pick) (bB lv va satp lf)⟩,k.d,aR va satp pick rs k.p⟩:=by
        unfold bY iN cj;simp only [if_true];first
         | (rw [if_pos hkz,if_pos hkz,hins])
         | (rw [if_neg hkz,if_neg hkz,hins])
       rw [hkm];refine ⟨?_,R7,S6.2.2⟩;rw [B7];simp only [gu,List.length_set]
      have HK7:Hid (Keeps w v7 gi gd gp):=K7;clear o7 m7 hins R7 B7 K7;go_wp2_with fail;refine bodyPost_ret (v:=.tuple #[.int .u64 (cz lf lv va),.nilIface]) (by simp [results,Tryz.results67,go_sem]) rfl ⟨_,1,rfl,.inl rfl,?_,T7.out,HK7.out⟩;simp only [bx,ct,if_pos hgr];simp
     ·rw [if_neg hkz];go_wp2_with fail;have hsh:=cP vD;refine (gP b 3 gd k.d.es.length base k.d lf lv va (au satp) pick v6.drew rfl hld hsh.1 hsh.2.1 hsh.2.2.1 hsh.2.2.2 S6.lt S6.2.2.2.1 (S6.cellD).1 (S6.cellD).2.1 (S6.cellD).2.2 S6.2.1.2.1 (by omega) hv0 hv1 e6.1 e6.2 hp0 hp1).mono ?_;rintro e v7 ⟨rfl,o7,m7⟩;have hins:=eB vD (em lv va satp lf false e3) ⟨hp0,hp1⟩;have R7:=RowsAt.putD S6.2.1 m7 List.length_set o7;have B7:=aV S6.1 m7 S6.2.2.2.1;have K7:=(KE.trans (Keeps.of_below _ _ _ N6d)).trans (Keeps.of_gb gi gd gp m7 (.inr (.inl rfl)));have T7:Hid (SetAt v7 b base gi gd gp (bY k kind va satp pick (1,lv,lf,rs) 1)):=by
       have hkm:bY k kind va satp pick (1,lv,lf,rs) 1=⟨k.i,⟨k.d.sets,k.d.ways,k.d.es.set (bD k.d (bB lv va satp lf)+cG k.d (bB lv va satp lf) pick) (bB lv va satp lf)⟩,aR va satp pick rs k.p⟩:=by
        unfold bY iN cj;simp only [if_true];first
         | (rw [if_pos hkz,if_pos hkz,hins])
         | (rw [if_neg hkz,if_neg hkz,hins])
       rw [hkm];refine ⟨?_,R7,S6.2.2⟩;rw [B7];simp only [gu,List.length_set]
      have HK7:Hid (Keeps w v7 gi gd gp):=K7;clear o7 m7 hins R7 B7 K7;go_wp2_with fail;refine bodyPost_ret (v:=.tuple #[.int .u64 (cz lf lv va),.nilIface]) (by simp [results,Tryz.results67,go_sem]) rfl ⟨_,1,rfl,.inl rfl,?_,T7.out,HK7.out⟩;simp only [bx,ct,if_pos hgr];simp
    ·rw [if_neg hgr,if_neg hgr,show bv 2=.iface 128 (.agg #[]) from rfl];rintro e v6 ⟨rfl,N6⟩;go_wp2_with fail;refine bodyPost_ret (v:=.tuple #[.int .u64 0,.iface 128 (.agg #[])]) (by simp [results,Tryz.results67,go_sem]) rfl ⟨0,2,rfl,.inr (.inl rfl),?_,?_,KE.trans (Keeps.of_below _ _ _ N6)⟩
     ·simp only [bx,ct,if_neg hgr];simp
     ·have hkm:bY k kind va satp pick (1,lv,lf,rs) 2=⟨k.i,k.d,aR va satp pick rs k.p⟩:=by simp [bY]
      rw [hkm];exact SE.keep N6
   ·simp only at e1 e2 e3;rcases e1 with rfl | rfl
    ·obtain rfl:fv=.iface 128 (.agg #[]):=by rw [<-HFv.out];rfl
     go_wp2_with fail;refine bodyPost_ret (v:=.tuple #[.int .u64 0,.iface 128 (.agg #[])]) (by simp [results,Tryz.results67,go_sem]) rfl ⟨0,2,rfl,.inr (.inl rfl),by simp [bx],?_,KE⟩;have hkm:bY k kind va satp pick (2,lv,lf,rs) 2=⟨k.i,k.d,aR va satp pick rs k.p⟩:=by simp [bY]
     rw [hkm];exact SE
    ·obtain rfl:fv=.iface 139 (.agg #[]):=by rw [<-HFv.out];rfl
     go_wp2_with fail;refine bodyPost_ret (v:=.tuple #[.int .u64 0,.iface 139 (.agg #[])]) (by simp [results,Tryz.results67,go_sem]) rfl ⟨0,3,rfl,.inr (.inr rfl),by simp [bx],?_,KE⟩;have hkm:bY k kind va satp pick (3,lv,lf,rs) 3=⟨k.i,k.d,aR va satp pick rs k.p⟩:=by simp [bY]
     rw [hkm];exact SE
end
section
attribute [local go_sem ↓] Go.wp_at_zero Go.wp_at_succ
theorem ii (b o g n:Nat) (t:TlbM) (va asid:Int) (w:World) (hn:t.es.length=n) (hn1:n<=1048576) (hv:aA t false=true) (hbl:b<w.heap.size)
 (c0:w.cell? ⟨b,o,none⟩=some (.int .i64 t.sets)) (c1:w.cell? ⟨b,o+1,none⟩=some (.int .i64 t.ways)) (c2:w.cell? ⟨b,o+2,none⟩=some (.slice (some ⟨g,0,none⟩) n n)) (hr:RowC w (some ⟨g,0,none⟩) n 6 (av t.es)) (hv0:0<=va) (hv1:va<=18446744073709551615):
 Calls Tryz.prog 65 #[.pointer (some ⟨b,o,none⟩),.int .u64 va,.int .u64 asid] w fun e w'=>e=.returned (.tuple #[.int .i64 (aD t va asid).2.1,.bool (aD t va asid).1])∧Below w.heap.size w w':=by
 obtain ⟨hs4,hw1,hw4,hnw⟩:=gc hv;have HV:Hid (aA t false=true):=hv;have HEi:Hid (cn t=true):=cX hv;have HR:Hid (RowC w (some ⟨g,0,none⟩) n 6 (av t.es)):=hr;have HN:Hid (t.es.length=n):=hn;have HNw:Hid ((n:Int)=t.sets*t.ways):=by show _=_;rw [<-hn];exact hnw
 obtain ⟨X,hX⟩:∃X,aD t va asid=X:=⟨_,rfl⟩;have HX:Hid (aD t va asid=X):=hX;rw [hX];clear hX hv hr hnw hn;obtain ⟨sets,ways,es⟩:=t;simp only at *;go_enter Tryz.func65,Tryz.ntmps65;go_wp2_with fail;go_loopw [12] (fun i wr=>∃l:Nat,l<=3∧i=.int .i64 l∧Hid (∀l':Nat,l'<l->bh va asid l' 0 es=none)∧Below w.heap.size w wr) (fun i _=>3-(intOf i).toNat)
 case atStart=>exact ⟨0,by omega,rfl,fun l' h=>absurd h (by omega),Below.refl _ _⟩
 case round=>
  obtain ⟨l,hl,rfl,HF,hb⟩:=hrel;by_cases hlt:l<3
  ·have hl3:(l:Int)=0∨(l:Int)=1∨(l:Int)=2:=by omega
   obtain ⟨tm,htm⟩:∃tm,bP va l=tm:=⟨_,rfl⟩;have htb:=dX va l hl3;rw [htm] at htb;obtain ⟨sx,hsx⟩:∃sx,tm%sets=sx:=⟨_,rfl⟩;have hsb:0<=sx∧sx<sets:=by rw [<-hsx];exact ⟨Int.emod_nonneg _ (by omega),Int.emod_lt_of_pos _ (by omega)⟩
   obtain ⟨f,hf⟩:∃f:Nat,(f:Int)=sx*ways:=⟨(sx*ways).toNat,Int.toNat_of_nonneg (Int.mul_nonneg hsb.1 (by omega))⟩;have hfn:(f:Int)+ways<=n:=by
    rw [HNw.out,hf];have:(sx+1)*ways<=sets*ways:=Int.mul_le_mul_of_nonneg_right (by omega) (by omega);rw [Int.add_mul,Int.one_mul] at this;exact this
   have HFi:Hid ((f:Int)=bP va l%sets*ways):=by show _=_;rw [htm,hsx];exact hf
   have HWm:Hid (sx*ways=(f:Int)):=hf.symm;have r0:wr.cell? ⟨b,o,none⟩=some (.int .i64 sets):=Below.cell2 hb c0 hbl;have r1:wr.cell? ⟨b,o+1,none⟩=some (.int .i64 ways):=Below.cell2 hb c1 hbl;have HTg:Hid (∀u,Calls Tryz.prog 85 #[.int .u64 va,.int .i64 l] u fun e w'=>e=.returned (.int .u64 tm)∧∃q,w'=u.drewN q):=fun u=>by
    have:=iy va l u hv0 hv1 hl3;rw [htm] at this;exact this
   have HSt:Hid (∀q,Calls Tryz.prog 81 #[.pointer (some ⟨b,o,none⟩),.int .u64 tm] (wr.drewN q) fun e w'=>e=.returned (.int .i64 sx)∧w'=wr.drewN q):=fun q=>by
    have:=fs b o sets tm (wr.drewN q) hs4 r0 htb.1 (by omega);rw [hsx] at this;exact this
   clear htm hsx;go_wp2_with fail;go_cut [9] (fun s9 wx=>s9=.int .i64 f∧∃q,wx=wr.drewN q)
   case first=>
    go_quiet (first
     | (go_at_call 85;exact Calls.quiet_of (HTg.out _))
     | (go_at_call 81;exact Calls.quiet_of_same (HSt.out _)))
    go_wp2_with fail;go_meet;exact ⟨by rw [HWm.out],nq,rfl⟩
   case rest=>
    obtain ⟨rfl,q,rfl⟩:=hcut;have hb2:Below w.heap.size w (wr.drewN q):=below_drewN hb q;generalize wr.drewN q=v2 at hb2 |-;clear r0 r1 hb HTg HSt HWm hsb hf;go_wp2_with fail;rename_i wr0;go_loopw [10] (fun i wr=>∃q:Nat,f<=q∧(q:Int)<=f+ways∧i=.int .i64 q∧Hid (∀(q':Nat) x,f<=q'->q'<q->es[q']?=some x->ci va asid l x=false)∧Below w.heap.size w wr) (fun i _=>f+4-(intOf i).toNat)
    case atStart=>exact ⟨f,Nat.le_refl _,by omega,rfl,fun q' x h h'=>absurd h' (by omega),hb2⟩
    case round=>
     obtain ⟨q,hq1,hq2,rfl,HQ,hb3⟩:=hrel;have r1:wr.cell? ⟨b,o+1,none⟩=some (.int .i64 ways):=Below.cell2 hb3 c1 hbl;have r2:wr.cell? ⟨b,o+2,none⟩=some (.slice (some ⟨g,0,none⟩) n n):=Below.cell2 hb3 c2 hbl;by_cases hqt:(q:Int)<f+ways
     ·have hqn:q<n:=by omega
      obtain ⟨⟨vv,lv,tg,asd,gl,pt⟩,hx⟩:∃x,es[q]?=some x:=⟨_,List.getElem?_eq_getElem (by rw [HN.out];exact hqn)⟩;have HXq:Hid (es[q]?=some ⟨vv,lv,tg,asd,gl,pt⟩):=hx;have CE:∀j u,j<6->(bZ ⟨vv,lv,tg,asd,gl,pt⟩)[j]?=some u->wr.cell? ⟨g,q*6+j,none⟩=some u:=fun j u hj hu=>bV (HR.out.keep hb3) HN.out q _ hx j u hj hu;have g0:wr.cell? ⟨g,q*6,none⟩=some (.int .i64 lv):=CE 0 _ (by omega) rfl;have g1:wr.cell? ⟨g,q*6+1,none⟩=some (.int .u64 tg):=CE 1 _ (by omega) rfl;have g2:wr.cell? ⟨g,q*6+2,none⟩=some (.int .u64 asd):=CE 2 _ (by omega) rfl;have g3:wr.cell? ⟨g,q*6+3,none⟩=some (.bool gl):=CE 3 _ (by omega) rfl;have g4:wr.cell? ⟨g,q*6+4,none⟩=some (.bool vv):=CE 4 _ (by omega) rfl;have HNx:Hid (ci va asid l ⟨vv,lv,tg,asd,gl,pt⟩=false->∀(q':Nat) x,f<=q'->q'<q+1->es[q']?=some x->ci va asid l x=false):=fun h q' x h1 h2 h3=>by
       by_cases e:q'=q
       ·subst e;rw [HXq.out] at h3;cases h3;exact h
       ·exact HQ.out q' x h1 (by omega) h3
      clear CE hx;cases vv
      ·go_wp2_with fail;go_roundw
       case rel=>exact ⟨q+1,by omega,by omega,by go_num,HNx.out (by simp [ci,dv]),hb3⟩
       case measure=>simp [intOf];omega
      ·by_cases hlv:lv=l
       ·subst hlv;obtain ⟨fb,hfb⟩:∃fb,((tg == bP va l) && (gl || asd == asid))=fb:=⟨_,rfl⟩;have HFt:Hid (∀u,Calls Tryz.prog 86 #[.agg #[.int .i64 l,.int .u64 tg,.int .u64 asd,.bool gl],.int .u64 va,.int .u64 asid] u fun e w'=>e=.returned (.bool fb)∧Below u.heap.size u w'):=fun u=>by
         have:=jI l tg asd va asid gl u hl3 hv0 hv1;rw [hfb] at this;exact this
        have HHb:Hid (ci va asid l ⟨true,l,tg,asd,gl,pt⟩=fb):=by
         show _=_;rw [<-hfb];simp [ci,dv]
        clear hfb;go_wp2_with fail;refine (HFt.out wr).mono ?_;rintro e v5 ⟨rfl,n5⟩;have A5:=Below.step hb3 n5 (Nat.le_refl _);cases fb
        ·go_wp2_with fail;go_roundw
         case rel=>exact ⟨q+1,by omega,by omega,by go_num,HNx.out HHb.out,A5⟩
         case measure=>simp [intOf];omega
        ·have hx:X=(true,(q:Int),(l:Int),pt):=by
          rw [<-HX.out];have hfi:=ie (t:=⟨sets,ways,es⟩) (k:=q-f) HV.out HFi.out (by simp only;rw [show f+(q-f)=q by omega];exact HXq.out) HHb.out (fun j y hj hy=>HQ.out (f+j) y (by omega) (by omega) hy);rw [show f+(q-f)=q by omega] at hfi;exact im ⟨sets,ways,es⟩ va asid l q _ HEi.out (by omega) HF.out hfi
         subst hx;go_wp2_with fail;exact bodyPost_ret (v:=.tuple #[.int .i64 q,.bool true]) (by simp [results,Tryz.results65,go_sem]) rfl ⟨rfl,A5⟩
       ·have hlv':(lv == (l:Int))=false:=by simpa using hlv
        go_wp2_with fail;go_roundw
        case rel=>exact ⟨q+1,by omega,by omega,by go_num,HNx.out (by simp [ci,hlv]),hb3⟩
        case measure=>simp [intOf];omega
     ·have hqe:(q:Int)=f+ways:=by omega
      have hnn:bh va asid l 0 es=none:=ic (t:=⟨sets,ways,es⟩) HV.out HFi.out (fun j x hj hx=>HQ.out (f+j) x (by omega) (by simp only at hj;omega) hx);have HNn:Hid (bh va asid l 0 es=none):=hnn;clear hnn;go_wp2_with fail;go_roundw
      case rel=>exact ⟨l+1,by omega,by go_num,fun l' hl'=>by
       by_cases e:l'=l
       ·subst e;exact HNn.out
       ·exact HF.out l' (by omega),hb3⟩
      case measure=>simp [intOf];omega
  ·have hl3:l=3:=by omega
   subst hl3;have hx:X=(false,0,0,0):=by
    rw [<-HX.out];exact fe _ va asid HEi.out HF.out
   subst hx;go_wp2_with fail;exact bodyPost_ret (v:=.tuple #[.int .i64 0,.bool false]) (by simp [results,Tryz.results65,go_sem]) rfl ⟨rfl,hb⟩
end
def me (w w':World) (e:Ending) (b base gi gd gp:Nat) (kind:Int) (X:(Int × Int) × KM):Prop:=
 ∃pa code,e=.returned (.tuple #[.int .u64 pa,bv code])∧(code=1∨code=2∨code=3)∧X.1=(if code=1 then 0 else if code=2 then ck kind else bN kind,pa)∧SetAt w' b base gi gd gp X.2∧Keeps w w' gi gd gp
theorem kO (b base gi gd gp:Nat) (k:KM) (sv:Value) (zs:List Int) (mode:Int) (sum mxr:Bool) (satp kind va pick:Int) (w:World) (hS:SetAt w b base gi gd gp k) (hk:bn k=true) (hki:∀e∈k.i.es,bf e) (hkd:∀e∈k.d.es,bf e) (hko:∀e∈k.p.es,bf e) (hli:k.i.es.length<=1048576) (hld:k.d.es.length<=1048576) (hkl:k.p.es.length<=1048576)
 (hB:SrcAt w sv zs) (hv0:0<=va) (hv1:va<=18446744073709551615) (hr0:0<=satp) (hr1:satp<=18446744073709551615) (hp0:0<=pick) (hp1:pick<=255) (hm:0<=mode∧mode<=2) (hkk:0<=kind∧kind<=2):
 Calls Tryz.prog 37 #[.pointer (some ⟨b,0,none⟩),sv,.agg #[.int .i64 mode,.bool sum,.bool mxr,.int .u64 satp],.int .i64 kind,.int .u64 va,.int .i64 pick] w fun e w'=>me w w' e b base gi gd gp kind (aX zs mode sum mxr satp k kind va pick):=by
 have hvs:aA k.i false=true∧aA k.d false=true∧aA k.p true=true:=by
  have hk':=hk;simp only [bn,Bool.and_eq_true] at hk';exact ⟨hk'.1.1,hk'.1.2,hk'.2⟩
 obtain ⟨vI,vD,vP⟩:=hvs;have HS:Hid (SetAt w b base gi gd gp k):=hS;have HB:Hid (SrcAt w sv zs):=hB;have HT0:Hid (aX zs mode sum mxr satp k kind va pick=if onM mode satp=false then ((0,va),k) else if bH va=false then ((ck kind,0),k) else if (aD (cj k kind) va (au satp)).1=true then (ct (aD (cj k kind) va (au satp)).2.2.2 (aD (cj k kind) va (au satp)).2.2.1 mode sum mxr kind va,k)
  else (bx (aK zs satp va (aD k.p va (au satp))) mode sum mxr kind va,if (bx (aK zs satp va (aD k.p va (au satp))) mode sum mxr kind va).1=0 then iN ⟨k.i,k.d,aR va satp pick (aK zs satp va (aD k.p va (au satp))).2.2.2 k.p⟩ kind (be (cj k kind) (bB (aK zs satp va (aD k.p va (au satp))).2.1 va satp (aK zs satp va (aD k.p va (au satp))).2.2.1) pick) else ⟨k.i,k.d,aR va satp pick (aK zs satp va (aD k.p va (au satp))).2.2.2 k.p⟩)):=by
  show _=_;rw [aX,if_neg (by rw [hk];simp;omega)]
 obtain ⟨onb,hon⟩:∃onb,onM mode satp=onb:=⟨_,rfl⟩;obtain ⟨cnb,hcan⟩:∃cnb,bH va=cnb:=⟨_,rfl⟩;have HOn:Hid (∀u:World,Calls Tryz.prog 62 #[.agg #[.int .i64 mode,.bool sum,.bool mxr,.int .u64 satp]] u fun e w'=>e=.returned (.bool onb)∧Below u.heap.size u w'):=fun u=>by
  have:=gD mode sum mxr satp u hr0 hr1;rw [hon] at this;exact this
 have HCn:Hid (∀u:World,Calls Tryz.prog 63 #[.int .u64 va] u fun e w'=>e=.returned (.bool cnb)∧w'=u):=fun u=>by
  have:=dE va u hv0 hv1;rw [hcan] at this;exact this
 have HLv:Hid (∀u:World,Calls Tryz.prog 64 #[.pointer (some ⟨b,0,none⟩),.int .i64 kind] u fun e w'=>e=.returned (.pointer (some ⟨b,if kind=0 then 0 else 3,none⟩))∧w'=u):=fun u=>ib b kind u;have n1:=(Below.refl w.heap.size w).alloc (Nat.le_refl _) (Obj.cells #[.int .i64 mode,.bool sum,.bool mxr,.int .u64 satp] 41);have H1:Hid ((w.alloc (Obj.cells #[.int .i64 mode,.bool sum,.bool mxr,.int .u64 satp] 41)).heap[w.heap.size]?=some (.cells #[.int .i64 mode,.bool sum,.bool mxr,.int .u64 satp] 41 (0,0))):=heap_alloc_new w _;clear hS hB;have HOnE:Hid (onM mode satp=onb):=hon;have HCnE:Hid (bH va=cnb):=hcan;clear hon hcan;go_enter Tryz.func37,Tryz.ntmps37;go_wp2_with fail;generalize w.alloc (Obj.cells #[.int .i64 mode,.bool sum,.bool mxr,.int .u64 satp] 41)=v1 at n1 H1 |-;refine (HOn.out v1).mono ?_;rintro e v2 ⟨rfl,n2⟩;have A2:=Below.step n1 n2 (Nat.le_refl _);have H2:=aa H1 n2;clear n1 n2 H1 HOn;cases onb
 ·have hon:=HOnE.out;go_wp2_with fail;refine bodyPost_ret (v:=.tuple #[.int .u64 va,.nilIface]) (by simp [results,Tryz.results37,go_sem]) rfl ⟨va,1,rfl,.inl rfl,?_,?_,Keeps.of_below _ _ _ A2⟩
  ·rw [HT0.out,if_pos hon];simp
  ·rw [HT0.out,if_pos hon];exact HS.out.keep A2
 have hon:=HOnE.out;go_wp2_with fail;refine (HCn.out v2).mono ?_;rintro e v2' ⟨rfl,hv2⟩;rw [hv2];clear hv2 v2';cases cnb
 ·have hcan:=HCnE.out;go_wp2_with fail;refine bodyPost_ret (v:=.tuple #[.int .u64 0,.iface 128 (.agg #[])]) (by simp [results,Tryz.results37,go_sem]) rfl ⟨0,2,rfl,.inr (.inl rfl),?_,?_,Keeps.of_below _ _ _ A2⟩
  ·rw [HT0.out,if_neg (by rw [hon];simp),if_pos hcan];simp
  ·rw [HT0.out,if_neg (by rw [hon];simp),if_pos hcan];exact HS.out.keep A2
 have hcan:=HCnE.out;go_wp2_with fail;refine (HLv.out v2).mono ?_;have A3:=A2;have H3:=H2;clear A2 H2 HLv HCn;obtain ⟨⟨c0,c1,c2,c3⟩,_,_,_,_⟩:=ag H3.out;by_cases hkz:kind=0
 ·subst hkz;rw [if_pos rfl];rintro e v3' ⟨rfl,hv3⟩;rw [hv3];clear hv3 v3';have hpk:cj k 0=k.i:=by unfold cj;rw [if_pos rfl]
  obtain ⟨⟨fd,ix,lv,pt⟩,hX⟩:∃X,aD k.i va (au satp)=X:=⟨_,rfl⟩;have HX:Hid (aD k.i va (au satp)=(fd,ix,lv,pt)):=hX;have S3:=HS.out.keep A3;obtain ⟨p0,p1,p2⟩:=S3.cellI;have HF:Hid (∀u,Below w.heap.size w u->Calls Tryz.prog 65 #[.pointer (some ⟨b,0,none⟩),.int .u64 va,.int .u64 (au satp)] u fun e w'=>e=.returned (.tuple #[.int .i64 ix,.bool fd])∧Below u.heap.size u w'):=fun u hu=>by
   have S:=HS.out.keep hu;obtain ⟨c0,c1,c2⟩:=S.cellI;have:=ii b 0 gi k.i.es.length k.i va (au satp) u rfl hli vI S.lt c0 c1 c2 (bW S.2.1.1) hv0 hv1;rw [hX] at this;exact this
  clear hX;go_wp2_with fail;refine (eh satp v2 hr0 hr1).mono ?_;rintro e u ⟨rfl,hu⟩;rw [hu];clear hu u;go_wp2_with fail;refine (HF.out v2 A3).mono ?_;rintro e v4 ⟨rfl,n4⟩;have A4:=Below.step A3 n4 (Nat.le_refl _);have H4:=aa H3 n4;clear c0 c1 c2 c3 p0 p1 p2 H3 n4;obtain ⟨⟨c0,c1,c2,c3⟩,_,_,_,_⟩:=ag H4.out;cases fd
  ·have hres:aX zs mode sum mxr satp k 0 va pick=(bx (aK zs satp va (aD k.p va (au satp))) mode sum mxr 0 va,if (bx (aK zs satp va (aD k.p va (au satp))) mode sum mxr 0 va).1=0 then bY k 0 va satp pick (aK zs satp va (aD k.p va (au satp))) 1 else bY k 0 va satp pick (aK zs satp va (aD k.p va (au satp))) 2):=by
    rw [HT0.out,if_neg (by rw [hon];simp),if_neg (by rw [hcan];simp),hpk,if_neg (by rw [HX.out];simp)];simp only [bY,if_true,hpk,show ¬((2:Int)=1) by decide,if_false]
   have HRes:Hid _:=hres;clear hres;go_wp2_with fail;refine (dM b base gi gd gp k sv zs mode sum mxr satp 0 va pick v4 (HS.out.keep A4) hk hko hli hld hkl (HB.out.keep A4) hv0 hv1 hr0 hr1 hp0 hp1).mono ?_;rintro e v5 hw;obtain ⟨pa,code,rfl,hcode,hans,hset,hkp⟩:=hw;have HT5:Hid (SetAt v5 b base gi gd gp (aX zs mode sum mxr satp k 0 va pick).2):=by
    rw [HRes.out,hans];simp only;rcases hcode with rfl | rfl | rfl
    ·simp only [if_true];exact hset
    ·have hne:=jr 0;simp only [show ¬((2:Int)=1) by decide,if_false,if_true,hne];exact hset
    ·have hne:=gf 0;simp only [show ¬((3:Int)=1) by decide,show ¬((3:Int)=2) by decide,if_false,hne];have:bY k 0 va satp pick (aK zs satp va (aD k.p va (au satp))) 3=bY k 0 va satp pick (aK zs satp va (aD k.p va (au satp))) 2:=by simp [bY]
     rw [<-this];exact hset
   have HA5:Hid ((aX zs mode sum mxr satp k 0 va pick).1=(if code=1 then 0 else if code=2 then ck 0 else bN 0,pa)):=by
    show _=_;rw [HRes.out];exact hans
   have HK5:Hid (Keeps w v5 gi gd gp):=(Keeps.of_below _ _ _ A4).trans hkp;obtain ⟨fv,hfv⟩:∃fv,bv code=fv:=⟨_,rfl⟩;have HFv:Hid (bv code=fv):=hfv;rw [hfv];clear hfv hans hset hkp HRes;go_wp2_with fail;exact bodyPost_ret (v:=.tuple #[.int .u64 pa,fv]) (by simp [results,Tryz.results37,go_sem]) rfl ⟨pa,code,by rw [HFv.out],hcode,HA5.out,HT5.out,HK5.out⟩
  ·obtain ⟨q,x,hx,hi,hlv,hpt,_,hxv⟩:=el k.i va (au satp) (by rw [HX.out]);rw [HX.out] at hi hlv hpt;simp only at hi hlv hpt;subst hi hlv hpt;have hres:aX zs mode sum mxr satp k 0 va pick=(ct x.pte x.level mode sum mxr 0 va,k):=by
    rw [HT0.out,if_neg (by rw [hon];simp),if_neg (by rw [hcan];simp),hpk,if_pos (by rw [HX.out]),HX.out]
   have HRes:Hid _:=hres;have hok:=hki x (List.mem_of_getElem? hx);have hlx:=cB (cX vI) q x hx hxv;have S4:=HS.out.keep A4;have hql:q<k.i.es.length:=(List.getElem?_eq_some_iff.1 hx).1;obtain ⟨_,_,p2⟩:=S4.cellI;have p2':v4.cell? ⟨b,2,none⟩=some (.slice (some ⟨gi,0,none⟩) k.i.es.length k.i.es.length):=p2;have CE:∀j u,j<6->(bZ x)[j]?=some u->v4.cell? ⟨gi,q*6+j,none⟩=some u:=fun j u hj hu=>bV (bW S4.2.1.1) rfl q _ hx j u hj hu;have g0:v4.cell? ⟨gi,q*6,none⟩=some (.int .i64 x.level):=CE 0 _ (by omega) rfl;have g1:v4.cell? ⟨gi,q*6+1,none⟩=some (.int .u64 x.tag):=CE 1 _ (by omega) rfl;have g2:v4.cell? ⟨gi,q*6+2,none⟩=some (.int .u64 x.asid):=CE 2 _ (by omega) rfl;have g3:v4.cell? ⟨gi,q*6+3,none⟩=some (.bool x.glob):=CE 3 _ (by omega) rfl;have g4:v4.cell? ⟨gi,q*6+4,none⟩=some (.bool x.valid):=CE 4 _ (by omega) rfl;have g5:v4.cell? ⟨gi,q*6+5,none⟩=some (.int .u64 x.pte):=CE 5 _ (by omega) rfl;have HTL:Hid (∀u:World,Calls Tryz.prog 68 #[.int .u64 x.pte,.int .i64 x.level,.agg #[.int .i64 mode,.bool sum,.bool mxr,.int .u64 satp],.int .i64 0,.int .u64 va] u fun e w'=>e=.returned (.tuple #[.int .u64 (if aY x.pte 0 mode sum mxr=true then cz x.pte x.level va else 0),bv (if aY x.pte 0 mode sum mxr=true then 1 else 2)])∧Below u.heap.size u w'):=fun u=>cQ x.pte x.level mode sum mxr satp 0 va u hok.2.2.2.1 hok.2.2.2.2 hv0 hv1 (by omega);clear CE p2 hres hx hxv;have n5:=(Below.refl v4.heap.size v4).alloc (Nat.le_refl _) (Obj.cells #[.int .i64 x.level,.int .u64 x.tag,.int .u64 x.asid,.bool x.glob,.bool x.valid,.int .u64 x.pte] 136);have lw:w.heap.size<v4.heap.size:=(Array.getElem?_eq_some_iff.1 H4.out).1;go_wp2_with fail;generalize v4.alloc (Obj.cells #[.int .i64 x.level,.int .u64 x.tag,.int .u64 x.asid,.bool x.glob,.bool x.valid,.int .u64 x.pte] 136)=v5 at n5 |-;refine (HTL.out v5).mono ?_;have A5:=Below.step A4 n5 (Nat.le_refl _);by_cases hgr:aY x.pte 0 mode sum mxr=true
   ·rw [if_pos hgr,if_pos hgr,show bv 1=.nilIface from rfl];rintro e v6 ⟨rfl,N6⟩;have A6:=Below.step A5 N6 (Nat.le_refl _);go_wp2_with fail;refine bodyPost_ret (v:=.tuple #[.int .u64 (cz x.pte x.level va),.nilIface]) (by simp [results,Tryz.results37,go_sem]) rfl ⟨_,1,rfl,.inl rfl,?_,?_,Keeps.of_below _ _ _ A6⟩
    ·rw [HRes.out];simp [ct,hgr]
    ·rw [HRes.out];exact HS.out.keep A6
   ·rw [if_neg hgr,if_neg hgr,show bv 2=.iface 128 (.agg #[]) from rfl];rintro e v6 ⟨rfl,N6⟩;have A6:=Below.step A5 N6 (Nat.le_refl _);go_wp2_with fail;refine bodyPost_ret (v:=.tuple #[.int .u64 0,.iface 128 (.agg #[])]) (by simp [results,Tryz.results37,go_sem]) rfl ⟨0,2,rfl,.inr (.inl rfl),?_,?_,Keeps.of_below _ _ _ A6⟩
    ·rw [HRes.out];simp [ct,hgr]
    ·rw [HRes.out];exact HS.out.keep A6
 ·rw [if_neg hkz];rintro e v3' ⟨rfl,hv3⟩;rw [hv3];clear hv3 v3';have hpk:cj k kind=k.d:=by unfold cj;rw [if_neg hkz]
  obtain ⟨⟨fd,ix,lv,pt⟩,hX⟩:∃X,aD k.d va (au satp)=X:=⟨_,rfl⟩;have HX:Hid (aD k.d va (au satp)=(fd,ix,lv,pt)):=hX;have S3:=HS.out.keep A3;obtain ⟨p0,p1,p2⟩:=S3.cellD;have HF:Hid (∀u,Below w.heap.size w u->Calls Tryz.prog 65 #[.pointer (some ⟨b,3,none⟩),.int .u64 va,.int .u64 (au satp)] u fun e w'=>e=.returned (.tuple #[.int .i64 ix,.bool fd])∧Below u.heap.size u w'):=fun u hu=>by
   have S:=HS.out.keep hu;obtain ⟨c0,c1,c2⟩:=S.cellD;have:=ii b 3 gd k.d.es.length k.d va (au satp) u rfl hld vD S.lt c0 c1 c2 (bW S.2.1.2.1) hv0 hv1;rw [hX] at this;exact this
  clear hX;go_wp2_with fail;refine (eh satp v2 hr0 hr1).mono ?_;rintro e u ⟨rfl,hu⟩;rw [hu];clear hu u;go_wp2_with fail;refine (HF.out v2 A3).mono ?_;rintro e v4 ⟨rfl,n4⟩;have A4:=Below.step A3 n4 (Nat.le_refl _);have H4:=aa H3 n4;clear c0 c1 c2 c3 p0 p1 p2 H3 n4;obtain ⟨⟨c0,c1,c2,c3⟩,_,_,_,_⟩:=ag H4.out;cases fd
  ·have hres:aX zs mode sum mxr satp k kind va pick=(bx (aK zs satp va (aD k.p va (au satp))) mode sum mxr kind va,if (bx (aK zs satp va (aD k.p va (au satp))) mode sum mxr kind va).1=0 then bY k kind va satp pick (aK zs satp va (aD k.p va (au satp))) 1 else bY k kind va satp pick (aK zs satp va (aD k.p va (au satp))) 2):=by
    rw [HT0.out,if_neg (by rw [hon];simp),if_neg (by rw [hcan];simp),hpk,if_neg (by rw [HX.out];simp)];simp only [bY,if_true,hpk,show ¬((2:Int)=1) by decide,if_false]
   have HRes:Hid _:=hres;clear hres;go_wp2_with fail;refine (dM b base gi gd gp k sv zs mode sum mxr satp kind va pick v4 (HS.out.keep A4) hk hko hli hld hkl (HB.out.keep A4) hv0 hv1 hr0 hr1 hp0 hp1).mono ?_;rintro e v5 hw;obtain ⟨pa,code,rfl,hcode,hans,hset,hkp⟩:=hw;have HT5:Hid (SetAt v5 b base gi gd gp (aX zs mode sum mxr satp k kind va pick).2):=by
    rw [HRes.out,hans];simp only;rcases hcode with rfl | rfl | rfl
    ·simp only [if_true];exact hset
    ·have hne:=jr kind;simp only [show ¬((2:Int)=1) by decide,if_false,if_true,hne];exact hset
    ·have hne:=gf kind;simp only [show ¬((3:Int)=1) by decide,show ¬((3:Int)=2) by decide,if_false,hne];have:bY k kind va satp pick (aK zs satp va (aD k.p va (au satp))) 3=bY k kind va satp pick (aK zs satp va (aD k.p va (au satp))) 2:=by simp [bY]
     rw [<-this];exact hset
   have HA5:Hid ((aX zs mode sum mxr satp k kind va pick).1=(if code=1 then 0 else if code=2 then ck kind else bN kind,pa)):=by
    show _=_;rw [HRes.out];exact hans
   have HK5:Hid (Keeps w v5 gi gd gp):=(Keeps.of_below _ _ _ A4).trans hkp;obtain ⟨fv,hfv⟩:∃fv,bv code=fv:=⟨_,rfl⟩;have HFv:Hid (bv code=fv):=hfv;rw [hfv];clear hfv hans hset hkp HRes;go_wp2_with fail;exact bodyPost_ret (v:=.tuple #[.int .u64 pa,fv]) (by simp [results,Tryz.results37,go_sem]) rfl ⟨pa,code,by rw [HFv.out],hcode,HA5.out,HT5.out,HK5.out⟩
  ·obtain ⟨q,x,hx,hi,hlv,hpt,_,hxv⟩:=el k.d va (au satp) (by rw [HX.out]);rw [HX.out] at hi hlv hpt;simp only at hi hlv hpt;subst hi hlv hpt;have hres:aX zs mode sum mxr satp k kind va pick=(ct x.pte x.level mode sum mxr kind va,k):=by
    rw [HT0.out,if_neg (by rw [hon];simp),if_neg (by rw [hcan];simp),hpk,if_pos (by rw [HX.out]),HX.out]
   have HRes:Hid _:=hres;have hok:=hkd x (List.mem_of_getElem? hx);have hlx:=cB (cX vD) q x hx hxv;have S4:=HS.out.keep A4;have hql:q<k.d.es.length:=(List.getElem?_eq_some_iff.1 hx).1;obtain ⟨_,_,p2⟩:=S4.cellD;have p2':v4.cell? ⟨b,5,none⟩=some (.slice (some ⟨gd,0,none⟩) k.d.es.length k.d.es.length):=p2;have CE:∀j u,j<6->(bZ x)[j]?=some u->v4.cell? ⟨gd,q*6+j,none⟩=some u:=fun j u hj hu=>bV (bW S4.2.1.2.1) rfl q _ hx j u hj hu;have g0:v4.cell? ⟨gd,q*6,none⟩=some (.int .i64 x.level):=CE 0 _ (by omega) rfl;have g1:v4.cell? ⟨gd,q*6+1,none⟩=some (.int .u64 x.tag):=CE 1 _ (by omega) rfl;have g2:v4.cell? ⟨gd,q*6+2,none⟩=some (.int .u64 x.asid):=CE 2 _ (by omega) rfl;have g3:v4.cell? ⟨gd,q*6+3,none⟩=some (.bool x.glob):=CE 3 _ (by omega) rfl;have g4:v4.cell? ⟨gd,q*6+4,none⟩=some (.bool x.valid):=CE 4 _ (by omega) rfl;have g5:v4.cell? ⟨gd,q*6+5,none⟩=some (.int .u64 x.pte):=CE 5 _ (by omega) rfl;have HTL:Hid (∀u:World,Calls Tryz.prog 68 #[.int .u64 x.pte,.int .i64 x.level,.agg #[.int .i64 mode,.bool sum,.bool mxr,.int .u64 satp],.int .i64 kind,.int .u64 va] u fun e w'=>e=.returned (.tuple #[.int .u64 (if aY x.pte kind mode sum mxr=true then cz x.pte x.level va else 0),bv (if aY x.pte kind mode sum mxr=true then 1 else 2)])∧Below u.heap.size u w'):=fun u=>cQ x.pte x.level mode sum mxr satp kind va u hok.2.2.2.1 hok.2.2.2.2 hv0 hv1 (by omega);clear CE p2 hres hx hxv;have n5:=(Below.refl v4.heap.size v4).alloc (Nat.le_refl _) (Obj.cells #[.int .i64 x.level,.int .u64 x.tag,.int .u64 x.asid,.bool x.glob,.bool x.valid,.int .u64 x.pte] 136);have lw:w.heap.size<v4.heap.size:=(Array.getElem?_eq_some_iff.1 H4.out).1;go_wp2_with fail;generalize v4.alloc (Obj.cells #[.int .i64 x.level,.int .u64 x.tag,.int .u64 x.asid,.bool x.glob,.bool x.valid,.int .u64 x.pte] 136)=v5 at n5 |-;refine (HTL.out v5).mono ?_;have A5:=Below.step A4 n5 (Nat.le_refl _);by_cases hgr:aY x.pte kind mode sum mxr=true
   ·rw [if_pos hgr,if_pos hgr,show bv 1=.nilIface from rfl];rintro e v6 ⟨rfl,N6⟩;have A6:=Below.step A5 N6 (Nat.le_refl _);go_wp2_with fail;refine bodyPost_ret (v:=.tuple #[.int .u64 (cz x.pte x.level va),.nilIface]) (by simp [results,Tryz.results37,go_sem]) rfl ⟨_,1,rfl,.inl rfl,?_,?_,Keeps.of_below _ _ _ A6⟩
    ·rw [HRes.out];simp [ct,hgr]
    ·rw [HRes.out];exact HS.out.keep A6
   ·rw [if_neg hgr,if_neg hgr,show bv 2=.iface 128 (.agg #[]) from rfl];rintro e v6 ⟨rfl,N6⟩;have A6:=Below.step A5 N6 (Nat.le_refl _);go_wp2_with fail;refine bodyPost_ret (v:=.tuple #[.int .u64 0,.iface 128 (.agg #[])]) (by simp [results,Tryz.results37,go_sem]) rfl ⟨0,2,rfl,.inr (.inl rfl),?_,?_,Keeps.of_below _ _ _ A6⟩
    ·rw [HRes.out];simp [ct,hgr]
    ·rw [HRes.out];exact HS.out.keep A6
end Go.Proofs.YtfgogedgolgnaaaGreat
