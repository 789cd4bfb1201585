import Derived.Test.YtjdmhibnhpdjaaaGreatPk33
namespace Go.Proofs.YtjdmhibnhpdjaaaGreat
open Go.RowKit
set_option linter.unusedVariables false
set_option maxHeartbeats 6400000
set_option maxRecDepth 20000
section
attribute [local go_sem ↓] Go.wp_at_zero Go.wp_at_succ
theorem zj (p:PtrM) (h:HartM) (w:World) (hi:HartIn w p h) (hl:h.mem.length<=1048576) (s0:0<=h.satp) (s1:h.satp<=18446744073709551615) (t0:0<=h.tvec) (h8:h.regs.length=8):
 Calls Tryz.prog 29 #[.agg (bJ p h)] w fun e w'=>e=.returned (.bool (eA h.mem.length && eB h))∧Bw w w':=by
 have F:=iV w (bJ p h) 37;have A0:Hid ((bJ p h)[0]?=some (.slice p.am h.mem.length p.cm)):=by show _=_;rfl
 have A1:Hid ((bJ p h)[1]?=some (.slice p.ar h.regs.length p.cr)):=by show _=_;rfl
 have A3:Hid ((bJ p h)[3]?=some (VI h.mode)):=by show _=_;rfl
 have A6:Hid ((bJ p h)[6]?=some (VU h.satp)):=by show _=_;rfl
 have A7:Hid ((bJ p h)[7]?=some (VU h.tvec)):=by show _=_;rfl
 have A9:Hid ((bJ p h)[9]?=some (VI h.emode)):=by show _=_;rfl
 have A10:Hid ((bJ p h)[10]?=some (VI h.cause)):=by show _=_;rfl
 obtain ⟨R,hR⟩:∃R,(eA h.mem.length && eB h)=R:=⟨_,rfl⟩;have HF:=hid fun (hr:R=true)=>(rz h).1 (hR.trans hr);have HT:=hid fun (h1:sj h)=>hR.symm.trans ((rz h).2 h1);unfold sj at HF HT;rw [hR];have P1:=hid fun u=>qK h.mem.length u hl;have P2:=hid fun m u=>mC m u;have P3:=hid fun u=>lW h.satp u s0 s1;obtain ⟨rb,ro,hra,rlt,rc⟩:=Bk hi.regs h8;have g8:(h.regs.length:Int)=8:=by omega
 rw [hra] at A1;clear hi hR h8;generalize bJ p h=A at *;generalize h.mem.length=n at *;generalize h.regs.length=m at *;generalize h.regs[0]?.getD 0=r0 at *;go_enter Tryz.func29,Tryz.ntmps29;go_upto_region 1 with fail;generalize (w.alloc (Obj.cells A 37))=u0 at F |-;obtain ⟨f1,hz,nB⟩:=F;have H1:Hid _:=f1;clear f1;have m8:m=8:=by omega
 subst m8;have x0:=(nB.cell (by exact rlt)).trans rc;clear rc;have c0:=gX H1.out 0 A0.out;have c1:=gX H1.out 1 A1.out;have c3:=gX H1.out 3 A3.out;have c6:=gX H1.out 6 A6.out;have c7:=gX H1.out 7 A7.out;have c9:=gX H1.out 9 A9.out;have c10:=gX H1.out 10 A10.out;go_wp2_with fail;refine (P1.out u0).mono ?_;rintro e _ ⟨rfl,rfl⟩;by_cases hzz:(n:Int)%64=0∧64<=(n:Int)∧(n:Int)<=4096
 rotate_left 1
 ·rw [show eA n=false from (by unfold eA;exact decide_eq_false (by omega))];go_wp2_with fail
  any_goals (
   go_ret;refine ⟨?_,nB⟩;have hq:R=false:=(by
    cases R with
    | false=>rfl
    | true=>
     obtain ⟨⟨q1,q2,q3⟩,q4,q5,⟨q6,q7⟩,⟨q8,q9⟩,q10,q11,⟨q12,q13⟩⟩:=HF.out rfl;first
     | (exfalso;omega)
     | (simp_all))
   subst hq;exact rfl)
 rw [show eA n=true from (by unfold eA;exact decide_eq_true (by omega))];by_cases hr0:r0=0
 rotate_left 1
 ·have dr:(r0 != 0)=true:=by simpa using hr0
  go_wp2_with fail
  any_goals (
   go_ret;refine ⟨?_,nB⟩;have hq:R=false:=(by
    cases R with
    | false=>rfl
    | true=>
     obtain ⟨⟨q1,q2,q3⟩,q4,q5,⟨q6,q7⟩,⟨q8,q9⟩,q10,q11,⟨q12,q13⟩⟩:=HF.out rfl;first
     | (exfalso;omega)
     | (simp_all))
   subst hq;exact rfl)
 subst hr0;go_wp2_with fail;refine (P2.out h.mode _).mono ?_;rintro e _ ⟨rfl,rfl⟩;by_cases hm:0<=h.mode∧h.mode<=2
 rotate_left 1
 ·rw [decide_eq_false hm];go_wp2_with fail
  any_goals (
   go_ret;refine ⟨?_,nB⟩;have hq:R=false:=(by
    cases R with
    | false=>rfl
    | true=>
     obtain ⟨⟨q1,q2,q3⟩,q4,q5,⟨q6,q7⟩,⟨q8,q9⟩,q10,q11,⟨q12,q13⟩⟩:=HF.out rfl;first
     | (exfalso;omega)
     | (simp_all))
   subst hq;exact rfl)
 rw [decide_eq_true hm];have HM:Hid _:=hm;clear hm;go_wp2_with fail;refine (P2.out h.emode _).mono ?_;rintro e _ ⟨rfl,rfl⟩;by_cases he:0<=h.emode∧h.emode<=2
 rotate_left 1
 ·rw [decide_eq_false he];go_wp2_with fail
  any_goals (
   go_ret;refine ⟨?_,nB⟩;have hq:R=false:=(by
    cases R with
    | false=>rfl
    | true=>
     obtain ⟨⟨q1,q2,q3⟩,q4,q5,⟨q6,q7⟩,⟨q8,q9⟩,q10,q11,⟨q12,q13⟩⟩:=HF.out rfl;first
     | (exfalso;omega)
     | (simp_all))
   subst hq;exact rfl)
 rw [decide_eq_true he];have HE:Hid _:=he;clear he;go_wp2_with fail
 any_goals (
  go_ret;refine ⟨?_,nB⟩;have hq:R=false:=(by
   cases R with
   | false=>rfl
   | true=>
    obtain ⟨⟨q1,q2,q3⟩,q4,q5,⟨q6,q7⟩,⟨q8,q9⟩,q10,q11,⟨q12,q13⟩⟩:=HF.out rfl;first
    | (exfalso;omega)
    | (simp_all))
  subst hq;exact rfl)
 refine (P3.out _).mono ?_;rintro e _ ⟨rfl,rfl⟩;rcases Bool.eq_false_or_eq_true (dt h.satp) with hs | hs
 rotate_left 1
 ·rw [hs];go_wp2_with fail
  any_goals (
   go_ret;refine ⟨?_,nB⟩;have hq:R=false:=(by
    cases R with
    | false=>rfl
    | true=>
     obtain ⟨⟨q1,q2,q3⟩,q4,q5,⟨q6,q7⟩,⟨q8,q9⟩,q10,q11,⟨q12,q13⟩⟩:=HF.out rfl;first
     | (exfalso;omega)
     | (simp_all))
   subst hq;exact rfl)
 rw [hs];have HS:Hid _:=hs;clear hs;by_cases h4:h.tvec%4=0
 ·have hq:=HT.out ⟨hzz,by first | trivial | rfl | omega,by first | trivial | rfl | omega,HM.out,HE.out,HS.out,h4,⟨by omega,by omega⟩⟩;subst hq;go_wp2;go_ret;exact ⟨rfl,nB⟩
 ·have hq:R=false:=(by
   cases R with
   | false=>rfl
   | true=>
    obtain ⟨⟨q1,q2,q3⟩,q4,q5,⟨q6,q7⟩,⟨q8,q9⟩,q10,q11,⟨q12,q13⟩⟩:=HF.out rfl;exfalso;omega)
  subst hq;have d4:(h.tvec%4 == 0)=false:=by simpa using h4
  go_wp2;go_ret;exact ⟨rfl,nB⟩
theorem zk (p:PtrM) (h:HartM) (w:World) (hi:HartIn w p h) (hl:h.mem.length<=1048576) (s0:0<=h.satp) (s1:h.satp<=18446744073709551615) (t0:0<=h.tvec) (h8:¬h.regs.length=8):
 Calls Tryz.prog 29 #[.agg (bJ p h)] w fun e w'=>e=.returned (.bool (eA h.mem.length && eB h))∧Bw w w':=by
 have F:=iV w (bJ p h) 37;have A0:Hid ((bJ p h)[0]?=some (.slice p.am h.mem.length p.cm)):=by show _=_;rfl
 have A1:Hid ((bJ p h)[1]?=some (.slice p.ar h.regs.length p.cr)):=by show _=_;rfl
 have A3:Hid ((bJ p h)[3]?=some (VI h.mode)):=by show _=_;rfl
 have A6:Hid ((bJ p h)[6]?=some (VU h.satp)):=by show _=_;rfl
 have A7:Hid ((bJ p h)[7]?=some (VU h.tvec)):=by show _=_;rfl
 have A9:Hid ((bJ p h)[9]?=some (VI h.emode)):=by show _=_;rfl
 have A10:Hid ((bJ p h)[10]?=some (VI h.cause)):=by show _=_;rfl
 obtain ⟨R,hR⟩:∃R,(eA h.mem.length && eB h)=R:=⟨_,rfl⟩;have HF:=hid fun (hr:R=true)=>(rz h).1 (hR.trans hr);have HT:=hid fun (h1:sj h)=>hR.symm.trans ((rz h).2 h1);unfold sj at HF HT;rw [hR];have P1:=hid fun u=>qK h.mem.length u hl;have P2:=hid fun m u=>mC m u;have P3:=hid fun u=>lW h.satp u s0 s1;have g8:¬(h.regs.length:Int)=8:=by omega
 clear hi hR h8;generalize bJ p h=A at *;generalize h.mem.length=n at *;generalize h.regs.length=m at *;generalize h.regs[0]?.getD 0=r0 at *;go_enter Tryz.func29,Tryz.ntmps29;go_upto_region 1 with fail;generalize (w.alloc (Obj.cells A 37))=u0 at F |-;obtain ⟨f1,hz,nB⟩:=F;have H1:Hid _:=f1;clear f1;have c0:=gX H1.out 0 A0.out;have c1:=gX H1.out 1 A1.out;have c3:=gX H1.out 3 A3.out;have c6:=gX H1.out 6 A6.out;have c7:=gX H1.out 7 A7.out;have c9:=gX H1.out 9 A9.out;have c10:=gX H1.out 10 A10.out;go_wp2_with fail;refine (P1.out u0).mono ?_;rintro e _ ⟨rfl,rfl⟩;by_cases hzz:(n:Int)%64=0∧64<=(n:Int)∧(n:Int)<=4096
 rotate_left 1
 ·rw [show eA n=false from (by unfold eA;exact decide_eq_false (by omega))];go_wp2_with fail
  any_goals (
   go_ret;refine ⟨?_,nB⟩;have hq:R=false:=(by
    cases R with
    | false=>rfl
    | true=>
     obtain ⟨⟨q1,q2,q3⟩,q4,q5,⟨q6,q7⟩,⟨q8,q9⟩,q10,q11,⟨q12,q13⟩⟩:=HF.out rfl;first
     | (exfalso;omega)
     | (simp_all))
   subst hq;exact rfl)
 rw [show eA n=true from (by unfold eA;exact decide_eq_true (by omega))];go_wp2_with fail
 any_goals (
  go_ret;refine ⟨?_,nB⟩;have hq:R=false:=(by
   cases R with
   | false=>rfl
   | true=>
    obtain ⟨⟨q1,q2,q3⟩,q4,q5,⟨q6,q7⟩,⟨q8,q9⟩,q10,q11,⟨q12,q13⟩⟩:=HF.out rfl;first
    | (exfalso;omega)
    | (simp_all))
  subst hq;exact rfl)
theorem qP (p:PtrM) (h:HartM) (w:World) (hi:HartIn w p h) (hl:h.mem.length<=1048576) (s0:0<=h.satp) (s1:h.satp<=18446744073709551615) (t0:0<=h.tvec):
 Calls Tryz.prog 29 #[.agg (bJ p h)] w fun e w'=>e=.returned (.bool (eA h.mem.length && eB h))∧Bw w w':=by
 by_cases h8:h.regs.length=8
 ·exact zj p h w hi hl s0 s1 t0 h8
 ·exact zk p h w hi hl s0 s1 t0 h8
theorem rU (p:PtrM) (h:HartM) (w:World) (hi:HartIn w p h) (hl:h.mem.length<=1048576) (s0:0<=h.satp) (s1:h.satp<=18446744073709551615) (t0:0<=h.tvec):
 Calls Tryz.prog 8 #[.agg (bJ p h)] w fun e w'=>e=.returned (.bool (du h))∧Bw w w':=by
 have F:=iV w (bJ p h) 37;have KP:Hid (((bJ p h).toList.drop 12).take 9=(kA p h.k).toList):=by show _=_;rfl
 have SA:Hid ((bJ p h).size=21):=rfl;have C1:Hid (∀u,Bw w u->Calls Tryz.prog 28 #[.agg (kA p h.k)] u fun e w'=>cond (iP h.k) (zE u.heap.size w' e h.k) (e=.returned (.tuple #[.agg #[VI 0,VI 0,SN,VI 0,VI 0,SN,VI 0,VI 0,SN],.bool false]))∧Bw u w'):=fun u hu=>pz _ h.k u (hi.ks.keep hu);have C2:Hid (∀u,Bw w u->Calls Tryz.prog 29 #[.agg (bJ p h)] u fun e w'=>e=.returned (.bool (eA h.mem.length && eB h))∧Bw u w'):=fun u hu=>qP p h u (hi.keep hu) hl s0 s1 t0;obtain ⟨V,hV⟩:∃V,du h=V:=⟨_,rfl⟩;have HV1:Hid (iP h.k=true->(eA h.mem.length && eB h)=V):=fun hg=>by rw [<-hV,du,hg,Bool.and_true]
 have HV0:Hid (iP h.k=false->false=V):=fun hg=>by rw [<-hV,du,hg,Bool.and_false]
 rw [hV];clear hi hV;generalize (eA h.mem.length && eB h)=R at *;generalize bJ p h=A at *;go_enter Tryz.func8,Tryz.ntmps8;go_upto_region 1 with fail;generalize (w.alloc (Obj.cells A 37))=u0 at F |-;obtain ⟨f1,hz,nB⟩:=F;have H1:Hid _:=f1;clear f1;have J1:Hid _:=jB (P:=Tryz.prog) (T:=35) H1.out Tryz.underlying35 rfl (o:=12) (kA p h.k).toList kI KP.out rfl;rw [show (kA p h.k).toList.toArray=kA p h.k from rfl] at J1;generalize kA p h.k=KA at *;go_wp2_with (first | ((with_reducible refine iE ?_ J1.out ?_);(exact rfl)));refine (C1.out u0 nB).mono ?_;rintro e u1 ⟨hc,k1⟩;replace nB:=bst nB k1;replace H1:=gZ H1 k1;clear J1 k1;rcases Bool.eq_false_or_eq_true (iP h.k) with hg | hg
 ·rw [hg] at hc;obtain ⟨gi,gd,gp,rfl,_⟩:=hc;have hv:=HV1.out hg;subst hv;clear HV1 HV0;have l1:w.heap.size<u1.heap.size:=by have:=(hpl H1.out);exact this
  unfold cY;go_upto_region 2 with fail;have n2:Bw w (u1.alloc (Obj.cells #[VI h.k.i.sets,VI h.k.i.ways,SL gi h.k.i.es.length h.k.i.es.length,VI h.k.d.sets,VI h.k.d.ways,SL gd h.k.d.es.length h.k.d.es.length,VI h.k.p.sets,VI h.k.p.ways,SL gp h.k.p.es.length h.k.p.es.length] 86)):=nB.alloc nB.size _;have H2:Hid ((u1.alloc (Obj.cells #[VI h.k.i.sets,VI h.k.i.ways,SL gi h.k.i.es.length h.k.i.es.length,VI h.k.d.sets,VI h.k.d.ways,SL gd h.k.d.es.length h.k.d.es.length,VI h.k.p.sets,VI h.k.p.ways,SL gp h.k.p.es.length h.k.p.es.length] 86)).heap[w.heap.size]?=some (.cells A 37 (0,0))):=(F7 u1 _ l1).trans H1.out;generalize u1.alloc (Obj.cells #[VI h.k.i.sets,VI h.k.i.ways,SL gi h.k.i.es.length h.k.i.es.length,VI h.k.d.sets,VI h.k.d.ways,SL gd h.k.d.es.length h.k.d.es.length,VI h.k.p.sets,VI h.k.p.ways,SL gp h.k.p.es.length h.k.p.es.length] 86)=u2 at n2 H2 |-;have J2:Hid _:=iA (P:=Tryz.prog) (T:=37) H2.out Tryz.underlying37 rfl (by rw [SA.out];exact kq);go_wp2_with (first | ((with_reducible refine we ?_ ?_ J2.out ?_);(exact rfl);(exact rfl)));refine (C2.out u2 n2).mono ?_;rintro e u3 ⟨rfl,k3⟩;replace n2:=bst n2 k3;clear k3 H2 J2;go_wp2;go_ret;exact ⟨rfl,n2⟩
 ·rw [hg] at hc;obtain rfl:=hc;have hv:=HV0.out hg;subst hv;clear HV1 HV0;go_wp2;go_ret;exact ⟨rfl,nB.alloc nB.size _⟩
end
theorem ts (c:Addr) (w:World):Calls Tryz.prog 51 #[.bool true,.pointer (some c)] w fun e w'=>e=.returned (.iface 168 (.agg #[]))∧w'=w:=by
 go_enter Tryz.func51,Tryz.ntmps51;go_wp2;go_ret;exact ⟨rfl,rfl⟩
theorem tu (c:Addr) (w:World):Calls Tryz.prog 51 #[.bool false,.pointer (some c)] w fun e w'=>e=.returned (.iface 169 (PT w.heap.size 0))∧w'.heap[w.heap.size]?=some (.cells #[.pointer (some c),VI 0] 171 (0,0))∧Bw w w':=by
 have F:=iV w #[.pointer (some c),VI 0] 171;go_enter Tryz.func51,Tryz.ntmps51;go_wp2;go_ret;exact ⟨rfl,F.1,F.2.2⟩
theorem DE (qb qo c:Nat) (w:World):(Instr.arrayAt 93 (.slice (some (AD qb qo)) 8 c)).run Tryz.prog w=.ok (PT qb qo) w:=by kernel_rfl
theorem DF (p:PtrM) (h:HartM) (w:World) (hi:HartIn w p h) (h8:h.regs.length=8):
 Calls Tryz.prog 49 #[.agg (bJ p h)] w fun e w'=>e=.returned (.agg (lM h))∧Bw w w':=by
 have F:=mT w (bJ p h) #[VU 0,VU 0,VU 0,VU 0,VU 0,VU 0,VU 0,VU 0,VU 0,VI 0,.bool false,.bool false,VU 0,VU 0,VU 0,VI 0,VI 0,VU 0] 37 95;have HR:Hid _:=hi.regs;obtain ⟨q,hq⟩:∃q,p.ar=some q:=by
  cases e:p.ar with
  | none=>have:=(hi.rega.1 e).1;omega
  | some q=>exact ⟨q,rfl⟩
 have hql:=hi.low q (by simp [aH,hq]);have hqs:=hi.rega.2 q hq;obtain ⟨qb,qo,qs⟩:=q;simp only at hqs hql;subst hqs;have HRw:Hid (∀u,Bw w u->∀i:Nat,i<8->u.cell? ⟨qb,qo+i,none⟩=some (VU (h.regs[i]?.getD 0))):=fun u hu i hlt=>by
  rcases (hi.regs.keep hu).2 with h0 | ⟨b,off,e,_,hc⟩
  ·omega
  ·rw [hq] at e;cases e;refine hc i _ ?_;unfold cZ;rw [List.getElem?_map,geg (by omega)];rfl
 clear hi HR;unfold bJ at F |-;rw [hq,h8] at F |-;have ha:=DE qb qo p.cr;go_enter Tryz.func49,Tryz.ntmps49;go_upto_region 1 with fail;generalize (w.alloc _).alloc _=v1 at F |-;obtain ⟨f1,f2,f3,n1⟩:=F;have D:Bw w v1.drew:=bst n1 (brf).drew;have e1:v1.drew.heap[w.heap.size]?=_:=f1;have e2:v1.drew.heap[w.heap.size+1]?=_:=f2;have RW:∀i:Nat,i<8->v1.drew.cell? ⟨qb,qo+i,none⟩=some (VU (h.regs[i]?.getD 0)):=fun i hi=>HRw.out v1.drew D i hi;have c1:=gX e1 1 (v:=.slice (some (AD qb qo)) 8 p.cr) rfl;have c2:=gX e1 2 (v:=VU h.pc) rfl;have c3:=gX e1 3 (v:=VI h.mode) rfl;have c4:=gX e1 4 (v:=.bool h.sum) rfl;have c5:=gX e1 5 (v:=.bool h.mxr) rfl;have c6:=gX e1 6 (v:=VU h.satp) rfl;have c7:=gX e1 7 (v:=VU h.tvec) rfl;have c8:=gX e1 8 (v:=VU h.epc) rfl;have c9:=gX e1 9 (v:=VI h.emode) rfl;have c10:=gX e1 10 (v:=VI h.cause) rfl;have c11:=gX e1 11 (v:=VU h.tval) rfl;have r0:v1.drew.cell? (AD qb qo)=some (VU (h.regs[0]?.getD 0)):=RW 0 (by omega);have r1:=RW 1 (by omega);have r2:=RW 2 (by omega);have r3:=RW 3 (by omega);have r4:=RW 4 (by omega);have r5:=RW 5 (by omega);have r6:=RW 6 (by omega);have r7:=RW 7 (by omega);obtain ⟨x0,hx0⟩:∃x,h.regs[0]?.getD 0=x:=⟨_,rfl⟩;rw [hx0] at r0;obtain ⟨x1,hx1⟩:∃x,h.regs[1]?.getD 0=x:=⟨_,rfl⟩;rw [hx1] at r1;obtain ⟨x2,hx2⟩:∃x,h.regs[2]?.getD 0=x:=⟨_,rfl⟩;rw [hx2] at r2;obtain ⟨x3,hx3⟩:∃x,h.regs[3]?.getD 0=x:=⟨_,rfl⟩;rw [hx3] at r3;obtain ⟨x4,hx4⟩:∃x,h.regs[4]?.getD 0=x:=⟨_,rfl⟩;rw [hx4] at r4;obtain ⟨x5,hx5⟩:∃x,h.regs[5]?.getD 0=x:=⟨_,rfl⟩;rw [hx5] at r5;obtain ⟨x6,hx6⟩:∃x,h.regs[6]?.getD 0=x:=⟨_,rfl⟩;rw [hx6] at r6;obtain ⟨x7,hx7⟩:∃x,h.regs[7]?.getD 0=x:=⟨_,rfl⟩;rw [hx7] at r7;have HCA:Hid (lM h=#[VU x0,VU x1,VU x2,VU x3,VU x4,VU x5,VU x6,VU x7,VU h.pc,VI h.mode,.bool h.sum,.bool h.mxr,VU h.satp,VU h.tvec,VU h.epc,VI h.emode,VI h.cause,VU h.tval]):=by
  show _=_;unfold lM;rw [hx0,hx1,hx2,hx3,hx4,hx5,hx6,hx7]
 have HE2:Hid _:=e2;have HD:Hid (Bw w v1.drew):=D;clear f1 f2 f3 n1 D e1 e2 RW hx0 hx1 hx2 hx3 hx4 hx5 hx6 hx7 HRw h8 hq;refine jG 25 (by kernel_rfl) (by kernel_rfl) ?_;simp only [List.take_succ_cons,List.take_zero,List.drop_succ_cons,List.drop_zero];generalize v1.drew=u at *;repeat still_step
 refine wpStill_nil ?_;have HS:Hid _:=iC (P:=Tryz.prog) (T:=95) (V:=#[VU x0,VU x1,VU x2,VU x3,VU x4,VU x5,VU x6,VU x7,VU h.pc,VI h.mode,.bool h.sum,.bool h.mxr,VU h.satp,VU h.tvec,VU h.epc,VI h.emode,VI h.cause,VU h.tval]) HE2.out AW rfl (by simp [Value.oneCell']);have HB:=fG (V:=#[VU x0,VU x1,VU x2,VU x3,VU x4,VU x5,VU x6,VU x7,VU h.pc,VI h.mode,.bool h.sum,.bool h.mxr,VU h.satp,VU h.tvec,VU h.epc,VI h.emode,VI h.cause,VU h.tval]) HE2.out rfl;have HN:Hid _:=dU (show w.heap.size<=w.heap.size+1 by omega) (#[VU x0,VU x1,VU x2,VU x3,VU x4,VU x5,VU x6,VU x7,VU h.pc,VI h.mode,.bool h.sum,.bool h.mxr,VU h.satp,VU h.tvec,VU h.epc,VI h.emode,VI h.cause,VU h.tval]:Array Value).toList 0 _ HD.out;have HW:Hid _:=iH (P:=Tryz.prog) HB Tryz.underlying95 rfl AW;obtain ⟨CA,hCA⟩:∃CA:Array Value,#[VU x0,VU x1,VU x2,VU x3,VU x4,VU x5,VU x6,VU x7,VU h.pc,VI h.mode,.bool h.sum,.bool h.mxr,VU h.satp,VU h.tvec,VU h.epc,VI h.emode,VI h.cause,VU h.tval]=CA:=⟨_,rfl⟩;rw [hCA] at HS HB HN HW HCA |-;clear hCA r0 r1 r2 r3 r4 r5 r6 r7 c1 c2 c3 c4 c5 c6 c7 c8 c9 c10 c11;go_wp2_with ((with_reducible refine it ?_ ?_ HS.out ?_);(exact rfl);(exact rfl));refine jE (b:=w.heap.size+1) Tryz.results49 rfl HW.out rfl ?_;exact ⟨by rw [HCA.out],HN.out⟩
def zn (h:HartM) (gi gd gp:Nat):Array Value:=#[VU (h.regs[0]?.getD 0),VU (h.regs[1]?.getD 0),VU (h.regs[2]?.getD 0),VU (h.regs[3]?.getD 0),VU (h.regs[4]?.getD 0),VU (h.regs[5]?.getD 0),VU (h.regs[6]?.getD 0),VU (h.regs[7]?.getD 0),
 VU h.pc,VI h.mode,.bool h.sum,.bool h.mxr,VU h.satp,VU h.tvec,VU h.epc,VI h.emode,VI h.cause,VU h.tval,SN,SN,
 VI h.k.i.sets,VI h.k.i.ways,SL gi h.k.i.es.length h.k.i.es.length,VI h.k.d.sets,VI h.k.d.ways,SL gd h.k.d.es.length h.k.d.es.length,VI h.k.p.sets,VI h.k.p.ways,SL gp h.k.p.es.length h.k.p.es.length,.nilIface]
theorem DC {w:World} {O X:Nat->Prop} {m:MP} {h:HartM} (hb:w.heap[m.b]?=some (.cells (iW h m.gm (SN) m.gi m.gd m.gp m.pv) 103 (0,0))) (hm:Blk 5 w m.gm h.mem) (ob:O m.b) (om:O m.gm) (bm:m.b≠m.gm) (xb:¬X m.b) (xm:¬X m.gm) (xo:∀i,X i->O i) (hh:HOk h) (obd:∀i,O i->i<w.heap.size):MW w O X m (SN) h []:=by
 have hs:=hh.v.size;simp only [eA,decide_eq_true_eq] at hs;exact ⟨hb,hm,⟨rfl,.inl ⟨rfl,rfl⟩⟩,ob,om,fun g e=>by simp [Value.ownBlock] at e,bm,xb,xm,fun i hi=>⟨xo i hi,obd i (xo i hi)⟩,hh.mem,hs.2.2,hh.v.regs,Nat.zero_le _,⟨0,0,none,rfl⟩,obd,fun o ho=>by simp at ho⟩
def FQ (plain:Bool) (h:HartM) (w:World) (e:Ending) (w':World):Prop:=
 ∃m O X PI PA base,e=.returned (.tuple #[PT m.b 0,.bool true])∧MW w' O X m (SN) h []∧Path m plain base X PI PA∧PI h.k w'∧(∀i,O i->w.heap.size<=i)∧w.heap.size<=base∧m.b≠m.gi∧m.b≠m.gd∧m.b≠m.gp
theorem rX (plain:Bool) (p:PtrM) (h:HartM) (w:World) (hi:HartIn w p h) (hl:h.mem.length<=1048576) (s0:0<=h.satp) (s1:h.satp<=18446744073709551615) (t0:0<=h.tvec) (hh:HOk h):
 Calls Tryz.prog 24 #[.agg (bJ p h),.bool plain] w fun e w'=>FQ plain h w e w'∧Bw w w':=by
 have F:=iV w (bJ p h) 37;have KP:Hid (((bJ p h).toList.drop 12).take 9=(kA p h.k).toList):=by show _=_;rfl
 have SA:Hid ((bJ p h).size=21):=rfl;have A0:Hid ((bJ p h)[0]?=some (.slice p.am h.mem.length p.cm)):=by show _=_;rfl
 have hv:=hh.v;have HHk:=hid hh;have hgk:=hv.ks;have hvv:=(jY h).2 hv;have hR:(eA h.mem.length && eB h)=true:=by
  have:=hvv;unfold du at this;rw [hgk,Bool.and_true] at this;exact this
 have C1:Hid (∀u,Bw w u->Calls Tryz.prog 28 #[.agg (kA p h.k)] u fun e w'=>zE u.heap.size w' e h.k∧Bw u w'):=fun u hu=>by
  have:=pz _ h.k u (hi.ks.keep hu);rw [hgk] at this;exact this
 have C2:Hid (∀u,Bw w u->Calls Tryz.prog 29 #[.agg (bJ p h)] u fun e w'=>e=.returned (.bool true)∧Bw u w'):=fun u hu=>by
  have:=qP p h u (hi.keep hu) hl s0 s1 t0;rw [hR] at this;exact this
 have C3:=hid fun u (hu:Bw w u)=>DF p h u (hi.keep hu) hv.regs;have HI:=hid hi;have HVH:=hid hv;clear hi hv hvv hR hgk hh;generalize bJ p h=A at *;go_enter Tryz.func24,Tryz.ntmps24;go_upto_region 1 with fail;generalize (w.alloc (Obj.cells A 37))=u0 at F |-;obtain ⟨f1,hz,nB⟩:=F;have H1:Hid _:=f1;clear f1;have J1:Hid _:=jB (P:=Tryz.prog) (T:=35) H1.out Tryz.underlying35 rfl (o:=12) (kA p h.k).toList kI KP.out rfl;rw [show (kA p h.k).toList.toArray=kA p h.k from rfl] at J1;generalize kA p h.k=KA at *;go_wp2_with (first | ((with_reducible refine iE ?_ J1.out ?_);(exact rfl)));refine (C1.out u0 nB).mono ?_;rintro e u1 ⟨⟨gi,gd,gp,rfl,hrw⟩,k1⟩;have HRw:=hid hrw;have lB:=nB.size;replace nB:=bst nB k1;replace H1:=gZ H1 k1;clear J1 k1 hrw;have l1:w.heap.size<u1.heap.size:=by have:=(hpl H1.out);exact this
 unfold cY;go_upto_region 2 with fail;have n2:Bw w (u1.alloc (Obj.cells #[VI h.k.i.sets,VI h.k.i.ways,SL gi h.k.i.es.length h.k.i.es.length,VI h.k.d.sets,VI h.k.d.ways,SL gd h.k.d.es.length h.k.d.es.length,VI h.k.p.sets,VI h.k.p.ways,SL gp h.k.p.es.length h.k.p.es.length] 86)):=nB.alloc nB.size _;have F2:=iV u1 #[VI h.k.i.sets,VI h.k.i.ways,SL gi h.k.i.es.length h.k.i.es.length,VI h.k.d.sets,VI h.k.d.ways,SL gd h.k.d.es.length h.k.d.es.length,VI h.k.p.sets,VI h.k.p.ways,SL gp h.k.p.es.length h.k.p.es.length] 86;have H2:Hid ((u1.alloc (Obj.cells #[VI h.k.i.sets,VI h.k.i.ways,SL gi h.k.i.es.length h.k.i.es.length,VI h.k.d.sets,VI h.k.d.ways,SL gd h.k.d.es.length h.k.d.es.length,VI h.k.p.sets,VI h.k.p.ways,SL gp h.k.p.es.length h.k.p.es.length] 86)).heap[w.heap.size]?=some (.cells A 37 (0,0))):=(F7 u1 _ l1).trans H1.out;generalize u1.alloc (Obj.cells #[VI h.k.i.sets,VI h.k.i.ways,SL gi h.k.i.es.length h.k.i.es.length,VI h.k.d.sets,VI h.k.d.ways,SL gd h.k.d.es.length h.k.d.es.length,VI h.k.p.sets,VI h.k.p.ways,SL gp h.k.p.es.length h.k.p.es.length] 86)=u2 at n2 H2 F2 |-;obtain ⟨fc,fs,fb⟩:=F2;have R2:=hid (HRw.out.keep fb);have S2:=hid fc;clear fc fs fb HRw;have J2:Hid _:=iA (P:=Tryz.prog) (T:=37) H2.out Tryz.underlying37 rfl (by rw [SA.out];exact kq);go_wp2_with (first | ((with_reducible refine we ?_ ?_ J2.out ?_);(exact rfl);(exact rfl)));refine (C2.out u2 n2).mono ?_;rintro e u3 ⟨rfl,k3⟩;have R3:=hid (R2.out.keep k3);have S3:Hid _:=gZ S2 k3;have H3:Hid _:=gZ H2 k3;replace n2:=bst n2 k3;clear k3 H2 J2 S2 R2;go_upto_region 4 with fail;have HLa:=hid fun (u:World) (hu:u.heap[w.heap.size]?=some (.cells A 37 (0,0)))=>iA (P:=Tryz.prog) (T:=37) hu Tryz.underlying37 rfl (by rw [SA.out];exact kq);have HLs:=hid fun (u:World) (hu:u.heap[u1.heap.size]?=some (.cells (cY h.k gi gd gp) 86 (0,0)))=>iA (P:=Tryz.prog) (T:=86) hu Tryz.underlying86 rfl (by kernel_rfl);have hF:u3.drew.heap[w.heap.size]?=some (.cells A 37 (0,0))∧u3.drew.heap[u1.heap.size]?=some (.cells (cY h.k gi gd gp) 86 (0,0)):=⟨H3.out,S3.out⟩;refine ip (fun v=>v.heap[w.heap.size]?=some (.cells A 37 (0,0))∧v.heap[u1.heap.size]?=some (.cells (cY h.k gi gd gp) 86 (0,0))) 3 ?_;refine ic 0 22 (.agg A) rfl hF ?_ (hy:=fun u hu=>iw rfl (HLa.out u hu.1))
 go_frame
 refine ic 2 24 (.agg (cY h.k gi gd gp)) rfl hF ?_ (hy:=fun u hu=>iw rfl (HLs.out u hu.2))
 go_frame
 have D3:=bdr u3;refine fY 1 23 rfl ((C3.out u3.drew (bst n2 D3)).mono ?_);rintro e u4 ⟨rfl,k4'⟩;have k4:=bst D3 k4';have n4:=bst n2 k4;have R4:=hid (R3.out.keep k4);have H4:Hid _:=gZ H3 k4;have S4:Hid _:=gZ S3 k4;refine .inl ⟨_,rfl,fun _=>⟨H4.out,S4.out⟩,?_⟩
 go_frame
 refine F0 3 25 (.agg (zn h gi gd gp)) (w':=u4) rfl (fun h=>by simp at h) ?_
 go_frame
 have F5:=iV u4 (zn h gi gd gp) 103;refine F0 4 26 (PT u4.heap.size 0) (w':=u4.alloc (Obj.cells (zn h gi gd gp) 103)) rfl (fun h=>by simp at h) ?_
 go_frame
 refine F0 5 8 (PT u4.heap.size 0) (w':=u4.alloc (Obj.cells (zn h gi gd gp) 103)) rfl (fun h=>by simp at h) ?_
 go_frame
 refine dQ ?_;obtain ⟨f5,z5,b5⟩:=F5;generalize u4.alloc (Obj.cells (zn h gi gd gp) 103)=u5 at f5 z5 b5 |-;have n5:=bst n4 b5;have R5:=hid (R4.out.keep b5);have H5:Hid _:=gZ H4 b5;have M5:=hid f5;have l4:=(hpl H4.out);have CC:Hid _:=zM p.am h.mem.length p.cm h.mem u5 (HI.out.mem.keep n5) hl;have c0:=gX H5.out 0 A0.out;have Z5:Hid _:=z5;have LI:Hid (gi<u4.heap.size∧gd<u4.heap.size∧gp<u4.heap.size):=⟨(eh R4.out.1).2.2,(eh R4.out.2.1).2.2,(eh R4.out.2.2.1).2.2⟩;have LB:Hid (w.heap.size<=gi∧w.heap.size<=gd∧w.heap.size<=gp):=by
  have q1:=(eh R4.out.1).2.1;have q2:=(eh R4.out.2.1).2.1;have q3:=(eh R4.out.2.2.1).2.1;simp only at q1 q2 q3;exact ⟨by omega,by omega,by omega⟩
 clear f5 z5 b5 R4 H4 S4 hF D3 k4 k4' n4 R3 S3 H3 n2 HLa HLs C1 C2 C3;go_wp2_with fail;refine Calls.mono CC.out ?_;rintro e u6 ⟨rfl,m6,b6⟩;have M6:Hid _:=gZ M5 b6;have k18:=gX M6.out 18 (v:=SN) rfl;have f18:=ie M6.out 18;have G6:=hid m6;have R6:=hid (R5.out.keep b6);have n6:=bst n5 b6;clear m6 b6 c0 CC R5 H5 M5 n5;go_upto_region 6 with fail;have g7:=hZ (aM u6 (some u4.heap.size)) 18 (SL u5.heap.size h.mem.length h.mem.length);have M7:Hid _:=iM (v:=SL u5.heap.size h.mem.length h.mem.length) (i:=18) M6.out;generalize u6.setCell (AD u4.heap.size 18) (SL u5.heap.size h.mem.length h.mem.length)=u7 at g7 M7 |-;have hz5:=Z5.out;have hli:=LI.out;have G7:=hid (G6.out.gb g7 (by omega));have R7:Hid (RowsAt u7 u0.heap.size gi gd gp h.k):=⟨jP R6.out.1 g7 (by omega),jP R6.out.2.1 g7 (by omega),jP R6.out.2.2.1 g7 (by omega),R6.out.2.2.2⟩;have n7:Bw w u7:=⟨g7.os.trans n6.os,g7.tape.trans n6.tape,g7.output.trans n6.output,Nat.le_trans n6.size g7.size,fun i hi=>(g7.block i (ltl hi n6.size) (by simp;omega)).trans (n6.block i hi)⟩;have k29:=gX M7.out 29 (v:=.nilIface) rfl;have f29:=ie M7.out 29;clear hz5 hli g7 M6 G6 R6 n6 k18 f18;cases plain
 ·have CT:Hid _:=tu (AD u4.heap.size 20) u7;go_wp2_with fail;refine Calls.mono CT.out ?_;rintro e v7 ⟨rfl,hbx,b8⟩;have HBx:=hid hbx;have M8':Hid _:=gZ M7 b8;have G8':=hid (G7.out.keep b8 G7.out.lt);have R8':=hid (R7.out.keep b8);have n8':=bst n7 b8;have L7:=hid G7.out.lt;replace k29:=gX M8'.out 29 (v:=.nilIface) rfl;replace f29:=ie M8'.out 29;clear hbx b8 CT;go_wp2_with fail;have g8:=hZ (aM v7 (some u4.heap.size)) 29 (.iface 169 (PT u7.heap.size 0));have M8:=iM (v:=(.iface 169 (PT u7.heap.size 0))) (i:=29) M8'.out;generalize v7.setCell (AD u4.heap.size 29) (.iface 169 (PT u7.heap.size 0))=u8 at g8 M8 |-;have hz5:=Z5.out;have hli:=LI.out;have hlb:=LB.out;have hl7:=L7.out;have G8:=G8'.out.gb g8 (by omega);have R8:RowsAt u8 u0.heap.size gi gd gp h.k:=⟨jP R8'.out.1 g8 (by omega),jP R8'.out.2.1 g8 (by omega),jP R8'.out.2.2.1 g8 (by omega),R8'.out.2.2.2⟩;have B8:=aL HBx.out g8 (show u7.heap.size≠u4.heap.size by omega);have n8:Bw w u8:=⟨g8.os.trans n8'.os,g8.tape.trans n8'.tape,g8.output.trans n8'.output,Nat.le_trans n8'.size g8.size,fun i hi=>(g8.block i (ltl hi n8'.size) (by simp;omega)).trans (n8'.block i hi)⟩;have q5:=G8.lt;have q7:=(hpl B8);refine bodyPost_ret (v:=.tuple #[PT u4.heap.size 0,.bool true]) (by simp [results,Tryz.results24,go_sem]) rfl ⟨⟨⟨u4.heap.size,u5.heap.size,gi,gd,gp,169,PT u7.heap.size 0⟩,fun i=>i=u4.heap.size∨i=u5.heap.size∨i=gi∨i=gd∨i=gp∨i=u7.heap.size,cX _ u7.heap.size,_,_,u0.heap.size,rfl,DC M8 G8 (.inl rfl) (.inr (.inl rfl)) (show u4.heap.size≠u5.heap.size by omega) ?_ ?_ ?_ HHk.out ?_,Path.cached _ u7.heap.size _ ⟨rfl,rfl,show u4.heap.size≠gi by omega,show u4.heap.size≠gd by omega,show u4.heap.size≠gp by omega,show u7.heap.size≠gi by omega,show u7.heap.size≠gd by omega,show u7.heap.size≠gp by omega⟩ (show u4.heap.size≠u7.heap.size by omega),⟨0,R8,B8⟩,?_,by omega,show u4.heap.size≠gi by omega,show u4.heap.size≠gd by omega,show u4.heap.size≠gp by omega⟩,n8⟩
  ·rintro (e | e | e | e) <;> (simp only at e;omega)
  ·rintro (e | e | e | e) <;> (simp only at e;omega)
  ·rintro i (e | e | e | e)
   ·exact .inr (.inr (.inl e))
   ·exact .inr (.inr (.inr (.inl e)))
   ·exact .inr (.inr (.inr (.inr (.inl e))))
   ·exact .inr (.inr (.inr (.inr (.inr e))))
  ·rintro i (e | e | e | e | e | e) <;> omega
  ·rintro i (e | e | e | e | e | e) <;> omega
 ·have CT:Hid _:=ts (AD u4.heap.size 20) u7;go_wp2_with fail;refine Calls.mono CT.out ?_;rintro e u8 ⟨rfl,hu⟩;rw [hu];clear hu CT;go_wp2_with fail;have g8:=hZ (aM u7 (some u4.heap.size)) 29 (.iface 168 (.agg #[]));have M8:=iM (v:=(.iface 168 (.agg #[]))) (i:=29) M7.out;generalize u7.setCell (AD u4.heap.size 29) (.iface 168 (.agg #[]))=u8 at g8 M8 |-;have hz5:=Z5.out;have hli:=LI.out;have hlb:=LB.out;have G8:=G7.out.gb g8 (by omega);have R8:RowsAt u8 u0.heap.size gi gd gp h.k:=⟨jP R7.out.1 g8 (by omega),jP R7.out.2.1 g8 (by omega),jP R7.out.2.2.1 g8 (by omega),R7.out.2.2.2⟩;have n8:Bw w u8:=⟨g8.os.trans n7.os,g8.tape.trans n7.tape,g8.output.trans n7.output,Nat.le_trans n7.size g8.size,fun i hi=>(g8.block i (ltl hi n7.size) (by simp;omega)).trans (n7.block i hi)⟩;have q5:=G8.lt;refine bodyPost_ret (v:=.tuple #[PT u4.heap.size 0,.bool true]) (by simp [results,Tryz.results24,go_sem]) rfl ⟨⟨⟨u4.heap.size,u5.heap.size,gi,gd,gp,168,.agg #[]⟩,fun i=>i=u4.heap.size∨i=u5.heap.size∨i=gi∨i=gd∨i=gp,pX _,_,_,u0.heap.size,rfl,DC M8 G8 (.inl rfl) (.inr (.inl rfl)) (show u4.heap.size≠u5.heap.size by omega) ?_ ?_ ?_ HHk.out ?_,Path.plain _ _ rfl rfl,R8,?_,by omega,show u4.heap.size≠gi by omega,show u4.heap.size≠gd by omega,show u4.heap.size≠gp by omega⟩,n8⟩
  ·rintro (e | e | e) <;> (simp only at e;omega)
  ·rintro (e | e | e) <;> (simp only at e;omega)
  ·rintro i (e | e | e)
   ·exact .inr (.inr (.inl e))
   ·exact .inr (.inr (.inr (.inl e)))
   ·exact .inr (.inr (.inr (.inr e)))
  ·rintro i (e | e | e | e | e) <;> omega
  ·rintro i (e | e | e | e | e) <;> omega
theorem Cy (b c:Nat) (w:World):(binOp .eql 26 (SL b 8 c) (SN)).run Tryz.prog w=.ok (.bool false) w:=by kernel_rfl
theorem Ay (b c:Nat) (zs:List Int) (w:World) (h8:zs.length=8) (hr:RowC w (some (AD b 0)) 8 1 (cZ zs)):
 Calls Tryz.prog 33 #[SL b 8 c] w fun e w'=>∃v,e=.returned v∧w'.ownsRow w.heap.size 27 1 v 8 (cZ zs)∧Bw w w':=by
 have HR:=hid hr;have qe:=Cy b c;clear hr;go_enter Tryz.func33,Tryz.ntmps33;have F:=iV w #[] 27;have HO:Hid ((w.alloc (Obj.cells #[] 27)).ownsRow w.heap.size 27 1 (SL w.heap.size 0 0) 0 []):=⟨rfl,.inr ⟨w.heap.size,0,#[],rfl,nle,F.1,by simp,by simp⟩⟩;have HR1:=hid (HR.out.keep F.2.2);have n1:=F.2.2;clear F;go_wp2_with (at_builtin;refine pV _ rfl (.tmp 5) (.tmp 6) 26 rfl 27 (by kernel_rfl) (VU 0) 1 8 (by kernel_rfl) rfl (by decide) w.heap.size 0 _ [] rfl HO.out b 0 8 c (cZ zs) rfl (by omega) HR1.out (by intro u hu;simp only [cZ,List.mem_map] at hu;obtain ⟨z,_,rfl⟩:=hu;rfl) (by omega) (by omega) (by have:=n1.size;omega) w.heap.size w n1 nle ?_;intro g5 cp5 v5 o5 n5;have HO5:Hid (v5.ownsRow w.heap.size 27 1 (SL g5 (0+8) cp5) (0+8) ([]++cZ zs)):=o5;have HN5:Hid (Bw w v5):=n5;clear o5 n5);go_ret;exact ⟨_,rfl,HO5.out,HN5.out⟩
theorem vU {w:World} {O X:Nat->Prop} {m:MP} {ov:Value} {h:HartM} {ol:List (Nat × Int)} (k:MW w O X m ov h ol):RowC w (some (AD m.b 0)) 8 1 (cZ h.regs):=by
 have hl:=k.regs;refine ⟨by simp [cZ,hl],.inr ⟨m.b,0,rfl,k.lt,fun i v hv=>?_⟩⟩;have hi:i<8:=by
  have:=(List.getElem?_eq_some_iff.1 hv).1;simpa [cZ,hl] using this
 have hv':v=VU (h.regs[i]?.getD 0):=by
  unfold cZ at hv;rw [List.getElem?_map,geg (by omega)] at hv;simp only [Option.map_some,Option.some.injEq] at hv;rw [<-hv,geg (by omega)];rfl
 rw [hv',Nat.zero_add];obtain rfl | rfl | rfl | rfl | rfl | rfl | rfl | rfl:i=0∨i=1∨i=2∨i=3∨i=4∨i=5∨i=6∨i=7:=by omega
 all_goals exact gX k.blk _ rfl
def Ar (n:Nat) (p:PtrM) (h:HartM):Array Value:=#[.slice p.am h.mem.length p.cm,.slice p.ar n p.cr,VU h.pc,VI h.mode,.bool h.sum,.bool h.mxr,VU h.satp,VU h.tvec,VU h.epc,VI h.emode,VI h.cause,VU h.tval,
 VI h.k.i.sets,VI h.k.i.ways,.slice p.a1 h.k.i.es.length p.c1,VI h.k.d.sets,VI h.k.d.ways,.slice p.a2 h.k.d.es.length p.c2,VI h.k.p.sets,VI h.k.p.ways,.slice p.a3 h.k.p.es.length p.c3]
theorem Be (n:Nat) (p:PtrM) (h:HartM):(Ar n p h).all (·.oneCell')=true:=by simp [Ar,Value.oneCell']
def As (base gm:Nat) (h:HartM) (e:Ending) (w':World):Prop:=
 ∃gr cr g1 c1 g2 c2 g3 c3,e=.returned (.agg (bJ ⟨some (AD gm 0),h.mem.length,some (AD gr 0),cr,some (AD g1 0),c1,some (AD g2 0),c2,some (AD g3 0),c3⟩ h))∧
  w'.ownsRow base 27 1 (SL gr h.regs.length cr) h.regs.length (cZ h.regs)∧w'.ownsRow base 153 6 (SL g1 h.k.i.es.length c1) h.k.i.es.length (ao h.k.i.es)∧w'.ownsRow base 153 6 (SL g2 h.k.d.es.length c2) h.k.d.es.length (ao h.k.d.es)∧w'.ownsRow base 153 6 (SL g3 h.k.p.es.length c3) h.k.p.es.length (ao h.k.p.es)∧
  g1≠g2∧g1≠g3∧g2≠g3
theorem At (b:Nat) (w:World):(Instr.sliceAt 93 (PT b 0) none none none).run Tryz.prog w=.ok (SL b 8 8) w:=by kernel_rfl
theorem EM {O X:Nat->Prop} {m:MP} {ov:Value} {h:HartM} {ol:List (Nat × Int)} (base:Nat) (w:World) (k:MW w O X m ov h ol) (hr:RowsAt w base m.gi m.gd m.gp h.k) (hn:m.b≠m.gi∧m.b≠m.gd∧m.b≠m.gp) (hl:h.k.i.es.length<=1048576∧h.k.d.es.length<=1048576∧h.k.p.es.length<=1048576):
 Calls Tryz.prog 27 #[PT m.b 0] w fun e w'=>As w.heap.size m.gm h e w'∧Bw w w':=by
 have HK:Hid _:=k;have HR:Hid (RowsAt w base m.gi m.gd m.gp h.k):=hr;have sl:=At m.b;clear k hr;obtain ⟨v1,Ev1,F⟩:=ax1 w #[SN,SN,VU 0,VI 0,.bool false,.bool false,VU 0,VU 0,VU 0,VI 0,VI 0,VU 0,VI 0,VI 0,SN,VI 0,VI 0,SN,VI 0,VI 0,SN] 37;go_enter Tryz.func27,Tryz.ntmps27;go_upto_region 1 with fail;rw [Ev1.out];clear Ev1;obtain ⟨f1,f2,n1⟩:=F;have HF1:Hid _:=f1;have HN1:Hid _:=n1;have K1:Hid (MW v1 O X m ov h ol):=HK.out.low n1;have hbk:=K1.out.blk;have C8:∀u:Has m.b (.cells (iW h m.gm ov m.gi m.gd m.gp m.pv) 103 (0,0)),u.w.cell? (AD m.b 8)=some (VU h.pc):=fun u=>gX u.h 8 rfl;have C9:∀u:Has m.b (.cells (iW h m.gm ov m.gi m.gd m.gp m.pv) 103 (0,0)),u.w.cell? (AD m.b 9)=some (VI h.mode):=fun u=>gX u.h 9 rfl;have C10:∀u:Has m.b (.cells (iW h m.gm ov m.gi m.gd m.gp m.pv) 103 (0,0)),u.w.cell? (AD m.b 10)=some (.bool h.sum):=fun u=>gX u.h 10 rfl;have C11:∀u:Has m.b (.cells (iW h m.gm ov m.gi m.gd m.gp m.pv) 103 (0,0)),u.w.cell? (AD m.b 11)=some (.bool h.mxr):=fun u=>gX u.h 11 rfl;have C12:∀u:Has m.b (.cells (iW h m.gm ov m.gi m.gd m.gp m.pv) 103 (0,0)),u.w.cell? (AD m.b 12)=some (VU h.satp):=fun u=>gX u.h 12 rfl;have C13:∀u:Has m.b (.cells (iW h m.gm ov m.gi m.gd m.gp m.pv) 103 (0,0)),u.w.cell? (AD m.b 13)=some (VU h.tvec):=fun u=>gX u.h 13 rfl;have C14:∀u:Has m.b (.cells (iW h m.gm ov m.gi m.gd m.gp m.pv) 103 (0,0)),u.w.cell? (AD m.b 14)=some (VU h.epc):=fun u=>gX u.h 14 rfl;have C15:∀u:Has m.b (.cells (iW h m.gm ov m.gi m.gd m.gp m.pv) 103 (0,0)),u.w.cell? (AD m.b 15)=some (VI h.emode):=fun u=>gX u.h 15 rfl;have C16:∀u:Has m.b (.cells (iW h m.gm ov m.gi m.gd m.gp m.pv) 103 (0,0)),u.w.cell? (AD m.b 16)=some (VI h.cause):=fun u=>gX u.h 16 rfl;have C17:∀u:Has m.b (.cells (iW h m.gm ov m.gi m.gd m.gp m.pv) 103 (0,0)),u.w.cell? (AD m.b 17)=some (VU h.tval):=fun u=>gX u.h 17 rfl;have C18:∀u:Has m.b (.cells (iW h m.gm ov m.gi m.gd m.gp m.pv) 103 (0,0)),u.w.cell? (AD m.b 18)=some (SL m.gm h.mem.length h.mem.length):=fun u=>gX u.h 18 rfl;have ne:Nonempty (Has m.b (.cells (iW h m.gm ov m.gi m.gd m.gp m.pv) 103 (0,0))):=⟨⟨v1,hbk⟩⟩;have HBk:Hid _:=hbk;clear f1 f2 n1 hbk;generalize iW h m.gm ov m.gi m.gd m.gp m.pv=A at *;simp only [List.append];refine ip (fun w'=>∃u:Has m.b (.cells A 103 (0,0)),w'=u.w) 65 ?_;refine FZ (fuel:=4) ⟨⟨v1.drew,HBk.out⟩,rfl⟩ [0,1,2,3,4,5,6,7,8,9,11,12,13,14,15,16,17,18,19,20,21,22,23,24,25,26,27,28,29,30,31,32,33,34,35,36,37,38,39,40,41,42,43,44,45,46,47,48,49,50,51,52,53,54,55,56,57,58,59,60,61,62,63] ?_;simp only [lJ,List.getElem?_toArray,List.getElem?_cons_zero,List.getElem?_cons_succ];repeat (go_big_quiet_step (fail))
 refine wpQuiet_nil ?_;have D1:=bdr v1;refine fY 10 13 rfl ((Ay m.b 8 h.regs v1.drew K1.out.regs (vU (K1.out.low D1))).mono ?_);rintro e v2 ⟨rs,rfl,o2,n2'⟩;have n2:=bst D1 n2';have K2:Hid (MW v2 O X m ov h ol):=K1.out.low n2;have HB2:Hid _:=gZ HBk n2;have O2:Hid _:=o2;refine .inl ⟨_,rfl,fun _=>⟨⟨v2,HB2.out⟩,rfl⟩,?_⟩
 go_frame
 obtain ⟨gr,cr,rfl⟩:∃gr cr,rs=SL gr 8 cr:=by
  rcases O2.out.2 with ⟨_,h8⟩ | ⟨g,cap,cur,h1,_⟩
  ·cases h8
  ·exact ⟨_,_,h1⟩
 have N2:Hid (Bw w v2):=bst HN1.out n2;have S2:Hid (SetM v2 m.b base m.gi m.gd m.gp h.k):=⟨K2.out.cells,HR.out.keep N2.out,hn⟩;have HZ2:Hid _:=gZ HF1 n2;refine fY 64 67 rfl ((Cz m.b base m.gi m.gd m.gp h.k v2 S2.out hl.1 hl.2.1 hl.2.2).mono ?_);rintro e v3 ⟨⟨x,rfl,g1,c1,g2,c2,g3,c3,rfl,o31,o32,o33,n12,n13,n23⟩,n3⟩;have P1:Hid _:=o31;have P2:Hid _:=o32;have P3:Hid _:=o33;have O3:Hid _:=ab O2.out n3;have HB3:Hid _:=gZ HB2 n3;have HZ3:Hid _:=gZ HZ2 n3;have N3:Hid (Bw w v3):=bst N2.out n3;have s2:=N2.out.size;have sv1:w.heap.size<v1.drew.heap.size:=(hpl HF1.out);have sv2:w.heap.size<v2.heap.size:=(hpl HZ2.out);refine .inl ⟨_,rfl,fun _=>⟨⟨v3,HB3.out⟩,rfl⟩,?_⟩
 go_frame
 clear o31 o32 o33 n3 n2 n2' o2;refine F0 65 68 (.agg (Ar 8 ⟨some (AD m.gm 0),h.mem.length,some (AD gr 0),cr,some (AD g1 0),c1,some (AD g2 0),c2,some (AD g3 0),c3⟩ h)) (w':=v3) rfl (fun _=>⟨⟨v3,HB3.out⟩,rfl⟩) ?_
 go_frame
 obtain ⟨HA,hHA⟩:∃HA,Ar 8 ⟨some (AD m.gm 0),h.mem.length,some (AD gr 0),cr,some (AD g1 0),c1,some (AD g2 0),c2,some (AD g3 0),c3⟩ h=HA:=⟨_,rfl⟩;have hs21:HA.size=21:=by rw [<-hHA];rfl
 have hone:HA.all (·.oneCell')=true:=by rw [<-hHA];exact Be _ _ _
 rw [hHA];refine fe 66 2 68 rfl (iC (P:=Tryz.prog) (T:=37) (V:=HA) HZ3.out (by rw [hs21];exact kq) (by rw [hs21];rfl) hone) ?_;refine dQ ?_;have e1:=fG (V:=HA) HZ3.out (by rw [hs21];rfl);have e2:=dU (Nat.le_refl w.heap.size) HA.toList 0 _ N3.out;have gS:=iq w.heap.size HA.toList 0 v3 v3 (aM v3 _);have hrg:=K2.out.regs;go_wp2_with fail;refine jE (b:=w.heap.size) Tryz.results27 rfl (iH (P:=Tryz.prog) e1 Tryz.underlying37 rfl (by rw [hs21];exact kq)) rfl ?_;refine ⟨⟨gr,cr,g1,c1,g2,c2,g3,c3,?_,?_,?_,?_,?_,n12,n13,n23⟩,e2⟩
 ·rw [<-hHA,<-hrg];rfl
 ·rw [hrg];exact ir (aD O3.out gS (by omega)) (by omega)
 ·exact ir (aD P1.out gS (by omega)) (by omega)
 ·exact ir (aD P2.out gS (by omega)) (by omega)
 ·exact ir (aD P3.out gS (by omega)) (by omega)
section
attribute [local go_sem ↓] Go.wp_at_zero Go.wp_at_succ
def tn (b:Bool) (c t:Int) (p:PtrM) (h:HartM):Array Value:=#[.bool b,VI c,VU t,.slice p.am h.mem.length p.cm,.slice p.ar h.regs.length p.cr,VU h.pc,VI h.mode,.bool h.sum,.bool h.mxr,VU h.satp,VU h.tvec,VU h.epc,VI h.emode,VI h.cause,VU h.tval,VI h.k.i.sets,VI h.k.i.ways,.slice p.a1 h.k.i.es.length p.c1,VI h.k.d.sets,VI h.k.d.ways,.slice p.a2 h.k.d.es.length p.c2,VI h.k.p.sets,VI h.k.p.ways,.slice p.a3 h.k.p.es.length p.c3]
abbrev Cr:Array Value:=#[.bool false,VI 0,VU 0,SN,SN,VU 0,VI 0,.bool false,.bool false,VU 0,VU 0,VU 0,VI 0,VI 0,VU 0,VI 0,VI 0,SN,VI 0,VI 0,SN,VI 0,VI 0,SN]
theorem Aw (b:Bool) (c t:Int) (p:PtrM) (h:HartM):(tn b c t p h).all (·.oneCell')=true:=by simp [tn,Value.oneCell']
theorem ET:(Tryz.prog.info? 43).map (·.size)=some 24:=by kernel_rfl
end
abbrev yu (base:Nat) (w:World) (q:PtrM) (h:HartM):Prop:=HartO base w q h (kf h.mem) (cZ h.regs) (ao h.k.i.es) (ao h.k.d.es) (ao h.k.p.es)
theorem yv {base gm:Nat} {h:HartM} {e:Ending} {w':World} (k:As base gm h e w') (hm:Blk 5 w' gm h.mem) (hl:h.mem.length<=1048576) {B:Nat} (hB:B<=base) (hg:B<=gm):∃q,e=.returned (.agg (bJ q h))∧yu B w' q h:=by
 obtain ⟨gr,cr,g1,c1,g2,c2,g3,c3,rfl,o,o1,o2,o3,n12,n13,n23⟩:=k;exact ⟨_,rfl,xV hm hg hl,ir o hB,ir o1 hB,ir o2 hB,ir o3 hB,ug n12,ug n13,ug n23⟩
theorem HartO.lower {base b':Nat} {w:World} {p:PtrM} {h:HartM} {cm cr c1 c2 c3:List Value} (k:HartO base w p h cm cr c1 c2 c3) (hb:b'<=base):HartO b' w p h cm cr c1 c2 c3:=
 ⟨ir k.mem hb,ir k.regs hb,ir k.r1 hb,ir k.r2 hb,ir k.r3 hb,k.d12,k.d13,k.d23⟩
theorem EF:(Tryz.prog.info? 76).map (·.size)=some 2:=by kernel_rfl
theorem yw (p:PtrM) (h:HartM) (plain:Bool) (pick:Int) (w:World) (hi:HartIn w p h) (hl:h.mem.length<=1048576) (hk:HOk h) (hp:0<=pick∧pick<=255):
 Calls Tryz.prog 7 #[.agg (bJ p h),.bool plain,VI pick] w fun e w'=>(∃q,e=.returned (.agg (tn true (jK plain pick h).cause (jK plain pick h).tval q (jK plain pick h).h))∧yu w.heap.size w' q (jK plain pick h).h)∧Bw w w':=by
 have SA:(bJ p h).size=21:=rfl;have CK:Hid (∀u:World,Calls Tryz.prog 25 #[VI pick] u fun e w'=>e=.returned (.bool true)∧w'=u):=fun u=>by
  have:=xd pick u;rw [decide_eq_true hp] at this;exact this
 have CM:=hid fun u (hu:Bw w u)=>rX plain p h u (hi.keep hu) hl hk.satp.1 hk.satp.2 hk.tvec.1 hk;have HK:=hid hk;clear hi hl hk;obtain ⟨SM,hSM⟩:∃SM,jK plain pick h=SM:=⟨_,rfl⟩;have HSM:=hid hSM;rw [hSM];have HRO:Hid (HOk SM.h):=by rw [<-hSM];exact (fm plain hp HK.out).h
 clear hSM;generalize bJ p h=A at *;go_enter Tryz.func7,Tryz.ntmps7;go_upto_region 1 with fail;have F:=mT w A Cr 37 43;generalize (w.alloc (Obj.cells A 37)).alloc (Obj.cells Cr 43)=u0 at F |-;obtain ⟨h3,h6,l1,nB⟩:=F;have H3:Hid _:=h3;have H6:Hid _:=h6;clear h3 h6;have J:Hid _:=iA (P:=Tryz.prog) (T:=37) H3.out Tryz.underlying37 rfl (by rw [SA];exact kq);go_wp2_with (first | ((with_reducible refine iE ?_ J.out ?_);(exact rfl)));refine (CM.out u0 nB).mono ?_;rintro e u1 ⟨⟨m,O,X,PI,PA,base,rfl,kw,hP,hI,hO,hbs,hgi,hgd,hgp⟩,k1⟩;have K1:=hid kw;have HP:=hid hP;have HI1:=hid hI;have HO:=hid hO;have hbb:=kw.lt;have CS:=hid (Dv (hP.ok pick h hp) hp u1 kw hI HK.out);have s1:=k1.size;replace nB:=Below.step nB k1 (Nat.le_refl _);replace H6:=gZ H6 k1;clear k1 J H3 kw hP hI hO CM;go_wp2_with fail;refine (CK.out u1).mono ?_;rintro e w1 ⟨rfl,rfl⟩;go_wp2_with fail;refine CS.out.mono ?_;rintro e u2 ⟨rfl,O',ov',ol',kw2,kp2,hO2,hA2⟩;rw [HSM.out] at kw2 hA2 |-;have hI2:=HP.out.next pick u2 SM hA2;have K2:=hid kw2;have R2:=hid (HP.out.rows SM.h.k u2 hI2);have HO2:Hid (∀i,O' i->u0.heap.size<=i):=fun i hi=>by
  by_cases hlt:i<w1.heap.size
  ·exact HO.out i (hO2 i hlt hi)
  ·omega
 have H62:=hid (kp2.heap H6.out (fun hh=>by have:=HO.out _ hh;omega));have n2:=kp2.below nB nB.size (fun i hi=>by have:=HO.out i hi;omega);have s2:=kp2.size;clear kw2 kp2 hO2 hA2 hI2 H6 nB K1 HI1 HO HP CS CK;have a9:=iV u2 #[VI 0,VU 0] 76;have HS9:Hid _:=iC (P:=Tryz.prog) (T:=76) (V:=#[VI SM.cause,VU SM.tval]) a9.1 EF rfl (by simp [Value.oneCell']);have e9:=fG (V:=#[VI SM.cause,VU SM.tval]) a9.1 rfl;have n9:=dU (Nat.le_refl _) (#[VI SM.cause,VU SM.tval]:Array Value).toList 0 _ a9.2.2;go_upto_region 5 with (first | ((with_reducible refine it ?_ ?_ HS9.out ?_);(exact rfl);(exact rfl)));generalize (u2.alloc (Obj.cells #[VI 0,VU 0] 76)).setCells u2.heap.size 0 (#[VI SM.cause,VU SM.tval]:Array Value).toList=u3 at e9 n9 HS9 |-;have HT:=hid e9;have K3:=hid (K2.out.low n9);have R3:=hid (R2.out.keep n9);have H63:=gZ H62 n9;have n3:=Below.step n2 n9 (Nat.le_refl _);have s3:=n9.size;have hk3:=HRO.out.ks;clear HS9 e9 n9 a9 K2 R2 H62 n2;have nD:=bdr u3;have CH:=hid (EM base u3.drew (K3.out.low nD) (R3.out.keep nD) ⟨hgi,hgd,hgp⟩ ⟨hk3.1.2.2.2,hk3.2.1.2.2.2,hk3.2.2.2.2.2⟩);have HL0:Hid (∀u:World,u.heap[u2.heap.size]?=some (.cells #[VI SM.cause,VU SM.tval] 76 (0,0))->(Instr.loadAt 2 (PT u2.heap.size 0)).run Tryz.prog u=.ok (VI SM.cause) u):=fun u hu=>by
  have h1:=gX hu 0 (v:=VI SM.cause) rfl;go_simp
 have HL1:Hid (∀u:World,u.heap[u2.heap.size]?=some (.cells #[VI SM.cause,VU SM.tval] 76 (0,0))->(Instr.loadAt 27 (PT u2.heap.size 1)).run Tryz.prog u=.ok (VU SM.tval) u):=fun u hu=>by
  have h1:=gX hu 1 (v:=VU SM.tval) rfl;go_simp
 have hF:=HT.out;refine ip (fun u=>u.heap[u2.heap.size]?=some (.cells #[VI SM.cause,VU SM.tval] 76 (0,0))) 6 ?_;refine mH 0 27 (PT u2.heap.size 0) rfl (by kernel_rfl) (by kernel_rfl) (by kernel_rfl) (by kernel_rfl) rfl (by kernel_rfl) (fun _ _ _ h=>h) (by kernel_rfl) (fun u hu=>by kernel_rfl) hF (by kernel_rfl) ?_;simp only [Act.put,List.setIfInBounds_toArray,List.set_cons_succ,List.set_cons_zero];refine mH 1 28 (VI SM.cause) rfl (by kernel_rfl) (by kernel_rfl) (by kernel_rfl) (by kernel_rfl) rfl (by kernel_rfl) (fun _ _ _ h=>h) (by kernel_rfl) (fun u hu=>iw rfl (HL0.out u hu)) hF (by kernel_rfl) ?_;simp only [Act.put,List.setIfInBounds_toArray,List.set_cons_succ,List.set_cons_zero];refine mH 2 29 (PT u2.heap.size 1) rfl (by kernel_rfl) (by kernel_rfl) (by kernel_rfl) (by kernel_rfl) rfl (by kernel_rfl) (fun _ _ _ h=>h) (by kernel_rfl) (fun u hu=>by kernel_rfl) hF (by kernel_rfl) ?_;simp only [Act.put,List.setIfInBounds_toArray,List.set_cons_succ,List.set_cons_zero];refine mH 3 30 (VU SM.tval) rfl (by kernel_rfl) (by kernel_rfl) (by kernel_rfl) (by kernel_rfl) rfl (by kernel_rfl) (fun _ _ _ h=>h) (by kernel_rfl) (fun u hu=>iw rfl (HL1.out u hu)) hF (by kernel_rfl) ?_;simp only [Act.put,List.setIfInBounds_toArray,List.set_cons_succ,List.set_cons_zero];refine mH 4 31 (PT m.b 0) rfl (by kernel_rfl) (by kernel_rfl) (by kernel_rfl) (by kernel_rfl) rfl (by kernel_rfl) (fun _ _ _ h=>h) (by kernel_rfl) (fun u hu=>by kernel_rfl) hF (by kernel_rfl) ?_;simp only [Act.put,List.setIfInBounds_toArray,List.set_cons_succ,List.set_cons_zero];refine fY 5 32 rfl (CH.out.mono ?_);rintro e u4 ⟨hgot,k4⟩;have k4':=Below.step nD k4 (Nat.le_refl _);have hgm:=HO2.out _ K3.out.om;have hz3:u3.drew.heap.size=u3.heap.size:=rfl;obtain ⟨q,rfl,ow⟩:=yv hgot (K3.out.low k4').mem (by have:=K3.out.len;omega) (B:=u0.heap.size) (by omega) (by omega);refine .inl ⟨_,rfl,fun _=>(gZ HT k4').out,?_⟩;simp only [Act.put,List.setIfInBounds_toArray,List.set_cons_succ,List.set_cons_zero];have OW:Hid _:=ow;have H64:=gZ H63 k4';have n4:=Below.step n3 k4' (Nat.le_refl _);clear ow hgot k4 k4' CH HL0 HL1 hF nD HT K3 R3 H63 n3;refine F0 6 33 (.agg (tn true SM.cause SM.tval q SM.h)) (w':=u4) rfl (fun h=>by simp at h) ?_;simp only [Act.put,List.setIfInBounds_toArray,List.set_cons_succ,List.set_cons_zero];obtain ⟨RA,hRA⟩:∃RA,tn true SM.cause SM.tval q SM.h=RA:=⟨_,rfl⟩;have hs24:RA.size=24:=by rw [<-hRA];rfl
 have hone:RA.all (·.oneCell')=true:=by rw [<-hRA];exact Aw _ _ _ _ _
 rw [hRA];refine fe 7 6 33 rfl (iC (P:=Tryz.prog) (T:=43) (V:=RA) H64.out (by rw [hs24];exact ET) (by rw [hs24];rfl) hone) ?_;refine dQ ?_;have e1:=fG (V:=RA) H64.out (by rw [hs24];rfl);have e2:=dU (show w.heap.size<=w.heap.size+1 by omega) RA.toList 0 _ n4;have gS:=iq (w.heap.size+1) RA.toList 0 u4 u4 (aM u4 _);go_wp2_with fail;refine jE (b:=w.heap.size+1) Tryz.results7 rfl (iH (P:=Tryz.prog) e1 Tryz.underlying43 rfl (by rw [hs24];exact ET)) rfl ?_;exact ⟨⟨q,by rw [<-hRA],(OW.out.gb gS (by omega)).lower (by omega)⟩,e2⟩
end Go.Proofs.YtjdmhibnhpdjaaaGreat
