import Derived.Test.YthdgiakgepmabaaGreatPk19
namespace Go.Proofs.YthdgiakgepmabaaGreat
open Go.RowKit
set_option linter.unusedVariables false
set_option maxHeartbeats 6400000
set_option maxRecDepth 20000
theorem HartIn.row {w:World} {p:PtrM} {h:HartM} (k:HartIn w p h):HartR w p h∧h.k.i.es.length<=1048576∧h.k.d.es.length<=1048576∧h.k.p.es.length<=1048576:=by
 obtain ⟨a1,c1,a2,c2,a3,c3,he,t1,t2,t3⟩:=k.ks;simp only [kA,Value.agg.injEq,Array.mk.injEq,List.cons.injEq,Value.slice.injEq,true_and,and_true] at he;obtain ⟨⟨rfl,rfl⟩,⟨rfl,rfl⟩,rfl,rfl⟩:=he;exact ⟨⟨k.mem,k.regs,t1.row.1,t2.row.1,t3.row.1⟩,t1.row.2,t2.row.2,t3.row.2⟩
theorem lC (zs:List Int):(bh zs).length<=20000:=by
 simp only [bh,List.length_map,List.length_range,qQ];omega
structure ScrO (base:Nat) (v:World) (p:PtrM) (h:HartM) (pa:Option Addr) (pc:Nat) (ps:List Int):Prop where
 hart:HartO base v p h (eR h.mem) (cF h.regs) (bE h.k.i.es) (bE h.k.d.es) (bE h.k.p.es)
 pick:v.ownsRow base 2 1 (.slice pa ps.length pc) ps.length (cR ps)
theorem ScrO.keep {base:Nat} {v v':World} {p:PtrM} {h:HartM} {pa:Option Addr} {pc:Nat} {ps:List Int} (k:ScrO base v p h pa pc ps) (hb:Bw v v'):ScrO base v' p h pa pc ps:=
 ⟨k.hart.keep hb,ai k.pick hb⟩
theorem ScrO.gb {base r:Nat} {v v':World} {p:PtrM} {h:HartM} {pa:Option Addr} {pc:Nat} {ps:List Int} (k:ScrO base v p h pa pc ps) (hg:v.grownBy v' (some r)) (hr:r<base):ScrO base v' p h pa pc ps:=
 ⟨k.hart.gb hg hr,ao k.pick hg hr⟩
theorem ScrO.low {base:Nat} {v:World} {p:PtrM} {h:HartM} {pa:Option Addr} {pc:Nat} {ps:List Int} (k:ScrO base v p h pa pc ps):∀g,zV p h pa pc ps g->base<=g:=by
 rintro g (h1 | h1)
 ·exact (k.hart.low g h1).1
 ·exact (k.pick.lt g h1).1
theorem ScrO.box {base pb:Nat} {v:World} {p:PtrM} {h:HartM} {pa:Option Addr} {pc:Nat} {ps:List Int} {cur:Array Value} {q:Nat × Nat} (k:ScrO base v p h pa pc ps) (hp:v.heap[pb]?=some (.cells cur 47 q)):¬zV p h pa pc ps pb:=by
 rintro (h1 | h1)
 ·exact k.hart.box_ne hp (by decide) (by decide) (by decide) h1
 ·exact aY k.pick hp (by decide) h1
theorem DecOwn.own {w v:World} {h:HartM} {ps:List Int} {e:Ending} (d:DecOwn w h ps e v):(∃p pa pc,e=.returned (.agg (dV p pa pc h ps))∧ScrO w.heap.size v p h pa pc ps)∧Bw w v:=by
 obtain ⟨⟨g1,c1,g2,c2,g3,c3,gm,cm,gr,cr,gp,cp,rfl,o1,o2,o3,om,oR,op,n12,n13,n23⟩,n⟩:=d;refine ⟨⟨_,_,_,rfl,⟨om,oR,o1,o2,o3,?_,?_,?_⟩,op⟩,n⟩
 ·intro g h1 h2;exact n12 (Option.some.inj (h1.trans h2.symm))
 ·intro g h1 h2;exact n13 (Option.some.inj (h1.trans h2.symm))
 ·intro g h1 h2;exact n23 (Option.some.inj (h1.trans h2.symm))
theorem vj {base size n c:Nat} {e:TypeId} {w:World} {a:Option Addr} {cs:List Value} (h:w.ownsRow base e size (.slice a n c) n cs):n<=c∧c<=9223372036854775807:=by
 rcases h.2 with ⟨h1,h2⟩ | ⟨g,cap,cur,h1,_,_,h2,h3,_⟩
 ·simp only [Value.slice.injEq] at h1;omega
 ·simp only [Value.slice.injEq] at h1;unfold maxLen at h3;omega
theorem HartO.hin {base:Nat} {w:World} {p:PtrM} {h:HartM} (k:HartO base w p h (eR h.mem) (cF h.regs) (bE h.k.i.es) (bE h.k.d.es) (bE h.k.p.es)) (hz:∀i:Nat,0<=h.mem[i]?.getD 0∧h.mem[i]?.getD 0<=255) (hk:kOk h.k):HartIn w p h:=by
 have r:=k.read hz;refine ⟨r.mem,vj k.mem,r.regs,vj k.regs,?_,⟨_,_,_,_,_,_,rfl,fN k.r1 hk.1,fN k.r2 hk.2.1,fN k.r3 hk.2.2⟩,?_⟩
 ·rcases kO k.regs with ⟨h1,h2,_⟩ | ⟨g,cap,h1⟩
  ·simp only [Value.slice.injEq] at h1;exact ⟨fun _=>⟨h2,h1.2.2⟩,fun q hq=>by rw [h1.1] at hq;cases hq⟩
  ·simp only [Value.slice.injEq] at h1;exact ⟨fun hq=>(by rw [h1.1] at hq;cases hq),fun q hq=>(by rw [h1.1] at hq;cases hq;rfl)⟩
 ·intro q hq;simp only [dW,List.mem_cons,List.not_mem_nil,or_false] at hq;rcases hq with hq | hq | hq | hq | hq
  ·exact (cS k.mem q hq.symm).2
  ·exact (cS k.regs q hq.symm).2
  ·exact (cS k.r1 q hq.symm).2
  ·exact (cS k.r2 q hq.symm).2
  ·exact (cS k.r3 q hq.symm).2
section
attribute [local go_sem ↓] Go.wp_at_zero Go.wp_at_succ
theorem th (p:PtrM) (h:HartM) (w:World) (hi:HartIn w p h) (hl:h.mem.length<=1048576) (s0:0<=h.satp) (s1:h.satp<=18446744073709551615) (t0:0<=h.tvec) (h8:h.regs.length=8):
 Calls Tryz.prog 52 #[.agg (aA p h)] w fun e w'=>e=.returned (.bool (df h.mem.length && fl h))∧Bw w w':=by
 have F:=bN w (aA p h) 44;have A0:Hid ((aA p h)[0]?=some (.slice p.am h.mem.length p.cm)):=by show _=_;rfl
 have A1:Hid ((aA p h)[1]?=some (.slice p.ar h.regs.length p.cr)):=by show _=_;rfl
 have A3:Hid ((aA p h)[3]?=some (VI h.mode)):=by show _=_;rfl
 have A6:Hid ((aA p h)[6]?=some (VU h.satp)):=by show _=_;rfl
 have A7:Hid ((aA p h)[7]?=some (VU h.tvec)):=by show _=_;rfl
 have A9:Hid ((aA p h)[9]?=some (VI h.emode)):=by show _=_;rfl
 have A10:Hid ((aA p h)[10]?=some (VI h.cause)):=by show _=_;rfl
 obtain ⟨R,hR⟩:∃R,(df h.mem.length && fl h)=R:=⟨_,rfl⟩;have HF:=hid fun (hr:R=true)=>(kj h).1 (hR.trans hr);have HT:=hid fun (h1:kP h)=>hR.symm.trans ((kj h).2 h1);unfold kP at HF HT;rw [hR];have P1:=hid fun u=>jB h.mem.length u hl;have P2:=hid fun m u=>fI m u;have P3:=hid fun u=>eH h.satp u s0 s1;obtain ⟨rb,ro,hra,rlt,rc⟩:=vw hi.regs h8;have g8:(h.regs.length:Int)=8:=by omega
 rw [hra] at A1;clear hi hR h8;generalize aA p h=A at *;generalize h.mem.length=n at *;generalize h.regs.length=m at *;generalize h.regs[0]?.getD 0=r0 at *;go_enter Tryz.func52,Tryz.ntmps52;go_upto_region 1 with fail;generalize (w.alloc (Obj.cells A 44))=u0 at F |-;obtain ⟨f1,hz,nB⟩:=F;have H1:Hid _:=f1;clear f1;have m8:m=8:=by omega
 subst m8;have x0:=(nB.cell (by exact rlt)).trans rc;clear rc;have c0:=aa H1.out 0 A0.out;have c1:=aa H1.out 1 A1.out;have c3:=aa H1.out 3 A3.out;have c6:=aa H1.out 6 A6.out;have c7:=aa H1.out 7 A7.out;have c9:=aa H1.out 9 A9.out;have c10:=aa H1.out 10 A10.out;go_wp2_with fail;refine (P1.out u0).mono ?_;rintro e _ ⟨rfl,rfl⟩;by_cases hzz:(n:Int)%64=0∧64<=(n:Int)∧(n:Int)<=4096
 rotate_left 1
 ·rw [show df n=false from (by unfold df;exact decide_eq_false (by omega))];go_wp2_with fail
  any_goals (
   go_ret;refine ⟨?_,nB⟩;have hq:R=false:=(by
    cases R with
    | false=>rfl
    | true=>
     obtain ⟨⟨q1,q2,q3⟩,q4,q5,⟨q6,q7⟩,⟨q8,q9⟩,q10,q11,⟨q12,q13⟩⟩:=HF.out rfl;first
     | (exfalso;omega)
     | (simp_all))
   subst hq;exact rfl)
 rw [show df n=true from (by unfold df;exact decide_eq_true (by omega))];by_cases hr0:r0=0
 rotate_left 1
 ·have dr:(r0 != 0)=true:=by simpa using hr0
  go_wp2_with fail
  any_goals (
   go_ret;refine ⟨?_,nB⟩;have hq:R=false:=(by
    cases R with
    | false=>rfl
    | true=>
     obtain ⟨⟨q1,q2,q3⟩,q4,q5,⟨q6,q7⟩,⟨q8,q9⟩,q10,q11,⟨q12,q13⟩⟩:=HF.out rfl;first
     | (exfalso;omega)
     | (simp_all))
   subst hq;exact rfl)
 subst hr0;go_wp2_with fail;refine (P2.out h.mode _).mono ?_;rintro e _ ⟨rfl,rfl⟩;by_cases hm:0<=h.mode∧h.mode<=2
 rotate_left 1
 ·rw [decide_eq_false hm];go_wp2_with fail
  any_goals (
   go_ret;refine ⟨?_,nB⟩;have hq:R=false:=(by
    cases R with
    | false=>rfl
    | true=>
     obtain ⟨⟨q1,q2,q3⟩,q4,q5,⟨q6,q7⟩,⟨q8,q9⟩,q10,q11,⟨q12,q13⟩⟩:=HF.out rfl;first
     | (exfalso;omega)
     | (simp_all))
   subst hq;exact rfl)
 rw [decide_eq_true hm];have HM:Hid _:=hm;clear hm;go_wp2_with fail;refine (P2.out h.emode _).mono ?_;rintro e _ ⟨rfl,rfl⟩;by_cases he:0<=h.emode∧h.emode<=2
 rotate_left 1
 ·rw [decide_eq_false he];go_wp2_with fail
  any_goals (
   go_ret;refine ⟨?_,nB⟩;have hq:R=false:=(by
    cases R with
    | false=>rfl
    | true=>
     obtain ⟨⟨q1,q2,q3⟩,q4,q5,⟨q6,q7⟩,⟨q8,q9⟩,q10,q11,⟨q12,q13⟩⟩:=HF.out rfl;first
     | (exfalso;omega)
     | (simp_all))
   subst hq;exact rfl)
 rw [decide_eq_true he];have HE:Hid _:=he;clear he;go_wp2_with fail
 any_goals (
  go_ret;refine ⟨?_,nB⟩;have hq:R=false:=(by
   cases R with
   | false=>rfl
   | true=>
    obtain ⟨⟨q1,q2,q3⟩,q4,q5,⟨q6,q7⟩,⟨q8,q9⟩,q10,q11,⟨q12,q13⟩⟩:=HF.out rfl;first
    | (exfalso;omega)
    | (simp_all))
  subst hq;exact rfl)
 refine (P3.out _).mono ?_;rintro e _ ⟨rfl,rfl⟩;rcases Bool.eq_false_or_eq_true (cW h.satp) with hs | hs
 rotate_left 1
 ·rw [hs];go_wp2_with fail
  any_goals (
   go_ret;refine ⟨?_,nB⟩;have hq:R=false:=(by
    cases R with
    | false=>rfl
    | true=>
     obtain ⟨⟨q1,q2,q3⟩,q4,q5,⟨q6,q7⟩,⟨q8,q9⟩,q10,q11,⟨q12,q13⟩⟩:=HF.out rfl;first
     | (exfalso;omega)
     | (simp_all))
   subst hq;exact rfl)
 rw [hs];have HS:Hid _:=hs;clear hs;by_cases h4:h.tvec%4=0
 ·have hq:=HT.out ⟨hzz,by first | trivial | rfl | omega,by first | trivial | rfl | omega,HM.out,HE.out,HS.out,h4,⟨by omega,by omega⟩⟩;subst hq;go_wp2;go_ret;exact ⟨rfl,nB⟩
 ·have hq:R=false:=(by
   cases R with
   | false=>rfl
   | true=>
    obtain ⟨⟨q1,q2,q3⟩,q4,q5,⟨q6,q7⟩,⟨q8,q9⟩,q10,q11,⟨q12,q13⟩⟩:=HF.out rfl;exfalso;omega)
  subst hq;have d4:(h.tvec%4 == 0)=false:=by simpa using h4
  go_wp2;go_ret;exact ⟨rfl,nB⟩
theorem ti (p:PtrM) (h:HartM) (w:World) (hi:HartIn w p h) (hl:h.mem.length<=1048576) (s0:0<=h.satp) (s1:h.satp<=18446744073709551615) (t0:0<=h.tvec) (h8:¬h.regs.length=8):
 Calls Tryz.prog 52 #[.agg (aA p h)] w fun e w'=>e=.returned (.bool (df h.mem.length && fl h))∧Bw w w':=by
 have F:=bN w (aA p h) 44;have A0:Hid ((aA p h)[0]?=some (.slice p.am h.mem.length p.cm)):=by show _=_;rfl
 have A1:Hid ((aA p h)[1]?=some (.slice p.ar h.regs.length p.cr)):=by show _=_;rfl
 have A3:Hid ((aA p h)[3]?=some (VI h.mode)):=by show _=_;rfl
 have A6:Hid ((aA p h)[6]?=some (VU h.satp)):=by show _=_;rfl
 have A7:Hid ((aA p h)[7]?=some (VU h.tvec)):=by show _=_;rfl
 have A9:Hid ((aA p h)[9]?=some (VI h.emode)):=by show _=_;rfl
 have A10:Hid ((aA p h)[10]?=some (VI h.cause)):=by show _=_;rfl
 obtain ⟨R,hR⟩:∃R,(df h.mem.length && fl h)=R:=⟨_,rfl⟩;have HF:=hid fun (hr:R=true)=>(kj h).1 (hR.trans hr);have HT:=hid fun (h1:kP h)=>hR.symm.trans ((kj h).2 h1);unfold kP at HF HT;rw [hR];have P1:=hid fun u=>jB h.mem.length u hl;have P2:=hid fun m u=>fI m u;have P3:=hid fun u=>eH h.satp u s0 s1;have g8:¬(h.regs.length:Int)=8:=by omega
 clear hi hR h8;generalize aA p h=A at *;generalize h.mem.length=n at *;generalize h.regs.length=m at *;generalize h.regs[0]?.getD 0=r0 at *;go_enter Tryz.func52,Tryz.ntmps52;go_upto_region 1 with fail;generalize (w.alloc (Obj.cells A 44))=u0 at F |-;obtain ⟨f1,hz,nB⟩:=F;have H1:Hid _:=f1;clear f1;have c0:=aa H1.out 0 A0.out;have c1:=aa H1.out 1 A1.out;have c3:=aa H1.out 3 A3.out;have c6:=aa H1.out 6 A6.out;have c7:=aa H1.out 7 A7.out;have c9:=aa H1.out 9 A9.out;have c10:=aa H1.out 10 A10.out;go_wp2_with fail;refine (P1.out u0).mono ?_;rintro e _ ⟨rfl,rfl⟩;by_cases hzz:(n:Int)%64=0∧64<=(n:Int)∧(n:Int)<=4096
 rotate_left 1
 ·rw [show df n=false from (by unfold df;exact decide_eq_false (by omega))];go_wp2_with fail
  any_goals (
   go_ret;refine ⟨?_,nB⟩;have hq:R=false:=(by
    cases R with
    | false=>rfl
    | true=>
     obtain ⟨⟨q1,q2,q3⟩,q4,q5,⟨q6,q7⟩,⟨q8,q9⟩,q10,q11,⟨q12,q13⟩⟩:=HF.out rfl;first
     | (exfalso;omega)
     | (simp_all))
   subst hq;exact rfl)
 rw [show df n=true from (by unfold df;exact decide_eq_true (by omega))];go_wp2_with fail
 any_goals (
  go_ret;refine ⟨?_,nB⟩;have hq:R=false:=(by
   cases R with
   | false=>rfl
   | true=>
    obtain ⟨⟨q1,q2,q3⟩,q4,q5,⟨q6,q7⟩,⟨q8,q9⟩,q10,q11,⟨q12,q13⟩⟩:=HF.out rfl;first
    | (exfalso;omega)
    | (simp_all))
  subst hq;exact rfl)
theorem oY (p:PtrM) (h:HartM) (w:World) (hi:HartIn w p h) (hl:h.mem.length<=1048576) (s0:0<=h.satp) (s1:h.satp<=18446744073709551615) (t0:0<=h.tvec):
 Calls Tryz.prog 52 #[.agg (aA p h)] w fun e w'=>e=.returned (.bool (df h.mem.length && fl h))∧Bw w w':=by
 by_cases h8:h.regs.length=8
 ·exact th p h w hi hl s0 s1 t0 h8
 ·exact ti p h w hi hl s0 s1 t0 h8
end
theorem mh (c:Addr) (w:World):Calls Tryz.prog 55 #[.bool true,.pointer (some c)] w fun e w'=>e=.returned (.iface 65 (.agg #[]))∧w'=w:=by
 go_enter Tryz.func55,Tryz.ntmps55;go_wp2;go_ret;exact ⟨rfl,rfl⟩
theorem mj (c:Addr) (w:World):Calls Tryz.prog 55 #[.bool false,.pointer (some c)] w fun e w'=>e=.returned (.iface 180 (PT w.heap.size 0))∧w'.heap[w.heap.size]?=some (.cells #[.pointer (some c),VI 0] 182 (0,0))∧Bw w w':=by
 have F:=bN w #[.pointer (some c),VI 0] 182;go_enter Tryz.func55,Tryz.ntmps55;go_wp2;go_ret;exact ⟨rfl,F.1,F.2.2⟩
theorem yE (qb qo c:Nat) (w:World):(Instr.arrayAt 72 (.slice (some (AD qb qo)) 8 c)).run Tryz.prog w=.ok (PT qb qo) w:=by kernel_rfl
theorem yF (p:PtrM) (h:HartM) (w:World) (hi:HartIn w p h) (h8:h.regs.length=8):
 Calls Tryz.prog 53 #[.agg (aA p h)] w fun e w'=>e=.returned (.agg (et h))∧Bw w w':=by
 have F:=lk w (aA p h) #[VU 0,VU 0,VU 0,VU 0,VU 0,VU 0,VU 0,VU 0,VU 0,VI 0,.bool false,.bool false,VU 0,VU 0,VU 0,VI 0,VI 0,VU 0] 44 74;have HR:Hid _:=hi.regs;obtain ⟨q,hq⟩:∃q,p.ar=some q:=by
  cases e:p.ar with
  | none=>have:=(hi.rega.1 e).1;omega
  | some q=>exact ⟨q,rfl⟩
 have hql:=hi.low q (by simp [dW,hq]);have hqs:=hi.rega.2 q hq;obtain ⟨qb,qo,qs⟩:=q;simp only at hqs hql;subst hqs;have HRw:Hid (∀u,Bw w u->∀i:Nat,i<8->u.cell? ⟨qb,qo+i,none⟩=some (VU (h.regs[i]?.getD 0))):=fun u hu i hlt=>by
  rcases (hi.regs.keep hu).2 with h0 | ⟨b,off,e,_,hc⟩
  ·omega
  ·rw [hq] at e;cases e;refine hc i _ ?_;unfold cF;rw [List.getElem?_map,geg (by omega)];rfl
 clear hi HR;unfold aA at F |-;rw [hq,h8] at F |-;have ha:=yE qb qo p.cr;go_enter Tryz.func53,Tryz.ntmps53;go_upto_region 1 with fail;generalize (w.alloc _).alloc _=v1 at F |-;obtain ⟨f1,f2,f3,n1⟩:=F;have D:Bw w v1.drew:=bst n1 (brf).drew;have e1:v1.drew.heap[w.heap.size]?=_:=f1;have e2:v1.drew.heap[w.heap.size+1]?=_:=f2;have RW:∀i:Nat,i<8->v1.drew.cell? ⟨qb,qo+i,none⟩=some (VU (h.regs[i]?.getD 0)):=fun i hi=>HRw.out v1.drew D i hi;have c1:=aa e1 1 (v:=.slice (some (AD qb qo)) 8 p.cr) rfl;have c2:=aa e1 2 (v:=VU h.pc) rfl;have c3:=aa e1 3 (v:=VI h.mode) rfl;have c4:=aa e1 4 (v:=.bool h.sum) rfl;have c5:=aa e1 5 (v:=.bool h.mxr) rfl;have c6:=aa e1 6 (v:=VU h.satp) rfl;have c7:=aa e1 7 (v:=VU h.tvec) rfl;have c8:=aa e1 8 (v:=VU h.epc) rfl;have c9:=aa e1 9 (v:=VI h.emode) rfl;have c10:=aa e1 10 (v:=VI h.cause) rfl;have c11:=aa e1 11 (v:=VU h.tval) rfl;have r0:v1.drew.cell? (AD qb qo)=some (VU (h.regs[0]?.getD 0)):=RW 0 (by omega);have r1:=RW 1 (by omega);have r2:=RW 2 (by omega);have r3:=RW 3 (by omega);have r4:=RW 4 (by omega);have r5:=RW 5 (by omega);have r6:=RW 6 (by omega);have r7:=RW 7 (by omega);obtain ⟨x0,hx0⟩:∃x,h.regs[0]?.getD 0=x:=⟨_,rfl⟩;rw [hx0] at r0;obtain ⟨x1,hx1⟩:∃x,h.regs[1]?.getD 0=x:=⟨_,rfl⟩;rw [hx1] at r1;obtain ⟨x2,hx2⟩:∃x,h.regs[2]?.getD 0=x:=⟨_,rfl⟩;rw [hx2] at r2;obtain ⟨x3,hx3⟩:∃x,h.regs[3]?.getD 0=x:=⟨_,rfl⟩;rw [hx3] at r3;obtain ⟨x4,hx4⟩:∃x,h.regs[4]?.getD 0=x:=⟨_,rfl⟩;rw [hx4] at r4;obtain ⟨x5,hx5⟩:∃x,h.regs[5]?.getD 0=x:=⟨_,rfl⟩;rw [hx5] at r5;obtain ⟨x6,hx6⟩:∃x,h.regs[6]?.getD 0=x:=⟨_,rfl⟩;rw [hx6] at r6;obtain ⟨x7,hx7⟩:∃x,h.regs[7]?.getD 0=x:=⟨_,rfl⟩;rw [hx7] at r7;have HCA:Hid (et h=#[VU x0,VU x1,VU x2,VU x3,VU x4,VU x5,VU x6,VU x7,VU h.pc,VI h.mode,.bool h.sum,.bool h.mxr,VU h.satp,VU h.tvec,VU h.epc,VI h.emode,VI h.cause,VU h.tval]):=by
  show _=_;unfold et;rw [hx0,hx1,hx2,hx3,hx4,hx5,hx6,hx7]
 have HE2:Hid _:=e2;have HD:Hid (Bw w v1.drew):=D;clear f1 f2 f3 n1 D e1 e2 RW hx0 hx1 hx2 hx3 hx4 hx5 hx6 hx7 HRw h8 hq;refine bM 25 (by kernel_rfl) (by kernel_rfl) ?_;simp only [List.take_succ_cons,List.take_zero,List.drop_succ_cons,List.drop_zero];generalize v1.drew=u at *;repeat still_step
 refine wpStill_nil ?_;have HS:Hid _:=dh (P:=Tryz.prog) (T:=74) (V:=#[VU x0,VU x1,VU x2,VU x3,VU x4,VU x5,VU x6,VU x7,VU h.pc,VI h.mode,.bool h.sum,.bool h.mxr,VU h.satp,VU h.tvec,VU h.epc,VI h.emode,VI h.cause,VU h.tval]) HE2.out vf rfl (by simp [Value.oneCell']);have HB:=cD (V:=#[VU x0,VU x1,VU x2,VU x3,VU x4,VU x5,VU x6,VU x7,VU h.pc,VI h.mode,.bool h.sum,.bool h.mxr,VU h.satp,VU h.tvec,VU h.epc,VI h.emode,VI h.cause,VU h.tval]) HE2.out rfl;have HN:Hid _:=dn (show w.heap.size<=w.heap.size+1 by omega) (#[VU x0,VU x1,VU x2,VU x3,VU x4,VU x5,VU x6,VU x7,VU h.pc,VI h.mode,.bool h.sum,.bool h.mxr,VU h.satp,VU h.tvec,VU h.epc,VI h.emode,VI h.cause,VU h.tval]:Array Value).toList 0 _ HD.out;have HW:Hid _:=dR (P:=Tryz.prog) HB Tryz.underlying74 rfl vf;obtain ⟨CA,hCA⟩:∃CA:Array Value,#[VU x0,VU x1,VU x2,VU x3,VU x4,VU x5,VU x6,VU x7,VU h.pc,VI h.mode,.bool h.sum,.bool h.mxr,VU h.satp,VU h.tvec,VU h.epc,VI h.emode,VI h.cause,VU h.tval]=CA:=⟨_,rfl⟩;rw [hCA] at HS HB HN HW HCA |-;clear hCA r0 r1 r2 r3 r4 r5 r6 r7 c1 c2 c3 c4 c5 c6 c7 c8 c9 c10 c11;go_wp2_with ((with_reducible refine bI ?_ ?_ HS.out ?_);(exact rfl);(exact rfl));refine gA (b:=w.heap.size+1) Tryz.results53 rfl HW.out rfl ?_;exact ⟨by rw [HCA.out],HN.out⟩
def tl (h:HartM) (gi gd gp:Nat):Array Value:=#[VU (h.regs[0]?.getD 0),VU (h.regs[1]?.getD 0),VU (h.regs[2]?.getD 0),VU (h.regs[3]?.getD 0),VU (h.regs[4]?.getD 0),VU (h.regs[5]?.getD 0),VU (h.regs[6]?.getD 0),VU (h.regs[7]?.getD 0),
 VU h.pc,VI h.mode,.bool h.sum,.bool h.mxr,VU h.satp,VU h.tvec,VU h.epc,VI h.emode,VI h.cause,VU h.tval,SN,SN,
 VI h.k.i.sets,VI h.k.i.ways,SL gi h.k.i.es.length h.k.i.es.length,VI h.k.d.sets,VI h.k.d.ways,SL gd h.k.d.es.length h.k.d.es.length,VI h.k.p.sets,VI h.k.p.ways,SL gp h.k.p.es.length h.k.p.es.length,.nilIface]
theorem yB {w:World} {O X:Nat->Prop} {m:MP} {h:HartM} (hb:w.heap[m.b]?=some (.cells (bl h m.gm (SN) m.gi m.gd m.gp m.pv) 90 (0,0))) (hm:Blk 5 w m.gm h.mem) (ob:O m.b) (om:O m.gm) (bm:m.b≠m.gm) (xb:¬X m.b) (xm:¬X m.gm) (xo:∀i,X i->O i) (hh:HOk h) (obd:∀i,O i->i<w.heap.size):MW w O X m (SN) h []:=by
 have hs:=hh.v.size;simp only [df,decide_eq_true_eq] at hs;exact ⟨hb,hm,⟨rfl,.inl ⟨rfl,rfl⟩⟩,ob,om,fun g e=>by simp [Value.ownBlock] at e,bm,xb,xm,fun i hi=>⟨xo i hi,obd i (xo i hi)⟩,hh.mem,hs.2.2,hh.v.regs,Nat.zero_le _,⟨0,0,none,rfl⟩,obd,fun o ho=>by simp at ho⟩
def Ba (plain:Bool) (h:HartM) (w:World) (e:Ending) (w':World):Prop:=
 ∃m O X PI PA base,e=.returned (.tuple #[PT m.b 0,.bool true])∧MW w' O X m (SN) h []∧Path m plain base X PI PA∧PI h.k w'∧(∀i,O i->w.heap.size<=i)∧w.heap.size<=base∧m.b≠m.gi∧m.b≠m.gd∧m.b≠m.gp
theorem kH (plain:Bool) (p:PtrM) (h:HartM) (w:World) (hi:HartIn w p h) (hl:h.mem.length<=1048576) (s0:0<=h.satp) (s1:h.satp<=18446744073709551615) (t0:0<=h.tvec) (hh:HOk h):
 Calls Tryz.prog 18 #[.agg (aA p h),.bool plain] w fun e w'=>Ba plain h w e w'∧Bw w w':=by
 have F:=bN w (aA p h) 44;have KP:Hid (((aA p h).toList.drop 12).take 9=(kA p h.k).toList):=by show _=_;rfl
 have SA:Hid ((aA p h).size=21):=rfl;have A0:Hid ((aA p h)[0]?=some (.slice p.am h.mem.length p.cm)):=by show _=_;rfl
 have hv:=hh.v;have HHk:=hid hh;have hgk:=hv.ks;have hvv:=(cj h).2 hv;have hR:(df h.mem.length && fl h)=true:=by
  have:=hvv;unfold mr at this;rw [hgk,Bool.and_true] at this;exact this
 have C1:Hid (∀u,Bw w u->Calls Tryz.prog 51 #[.agg (kA p h.k)] u fun e w'=>wS u.heap.size w' e h.k∧Bw u w'):=fun u hu=>by
  have:=my _ h.k u (hi.ks.keep hu);rw [hgk] at this;exact this
 have C2:Hid (∀u,Bw w u->Calls Tryz.prog 52 #[.agg (aA p h)] u fun e w'=>e=.returned (.bool true)∧Bw u w'):=fun u hu=>by
  have:=oY p h u (hi.keep hu) hl s0 s1 t0;rw [hR] at this;exact this
 have C3:=hid fun u (hu:Bw w u)=>yF p h u (hi.keep hu) hv.regs;have HI:=hid hi;have HVH:=hid hv;clear hi hv hvv hR hgk hh;generalize aA p h=A at *;go_enter Tryz.func18,Tryz.ntmps18;go_upto_region 1 with fail;generalize (w.alloc (Obj.cells A 44))=u0 at F |-;obtain ⟨f1,hz,nB⟩:=F;have H1:Hid _:=f1;clear f1;have J1:Hid _:=hU (P:=Tryz.prog) (T:=42) H1.out Tryz.underlying42 rfl (o:=12) (kA p h.k).toList kI KP.out rfl;rw [show (kA p h.k).toList.toArray=kA p h.k from rfl] at J1;generalize kA p h.k=KA at *;go_wp2_with (first | ((with_reducible refine ja ?_ J1.out ?_);(exact rfl)));refine (C1.out u0 nB).mono ?_;rintro e u1 ⟨⟨gi,gd,gp,rfl,hrw⟩,k1⟩;have HRw:=hid hrw;have lB:=nB.size;replace nB:=bst nB k1;replace H1:=ae H1 k1;clear J1 k1 hrw;have l1:w.heap.size<u1.heap.size:=by have:=(hpl H1.out);exact this
 unfold eN;go_upto_region 2 with fail;have n2:Bw w (u1.alloc (Obj.cells #[VI h.k.i.sets,VI h.k.i.ways,SL gi h.k.i.es.length h.k.i.es.length,VI h.k.d.sets,VI h.k.d.ways,SL gd h.k.d.es.length h.k.d.es.length,VI h.k.p.sets,VI h.k.p.ways,SL gp h.k.p.es.length h.k.p.es.length] 86)):=nB.alloc nB.size _;have F2:=bN u1 #[VI h.k.i.sets,VI h.k.i.ways,SL gi h.k.i.es.length h.k.i.es.length,VI h.k.d.sets,VI h.k.d.ways,SL gd h.k.d.es.length h.k.d.es.length,VI h.k.p.sets,VI h.k.p.ways,SL gp h.k.p.es.length h.k.p.es.length] 86;have H2:Hid ((u1.alloc (Obj.cells #[VI h.k.i.sets,VI h.k.i.ways,SL gi h.k.i.es.length h.k.i.es.length,VI h.k.d.sets,VI h.k.d.ways,SL gd h.k.d.es.length h.k.d.es.length,VI h.k.p.sets,VI h.k.p.ways,SL gp h.k.p.es.length h.k.p.es.length] 86)).heap[w.heap.size]?=some (.cells A 44 (0,0))):=(tc u1 _ l1).trans H1.out;generalize u1.alloc (Obj.cells #[VI h.k.i.sets,VI h.k.i.ways,SL gi h.k.i.es.length h.k.i.es.length,VI h.k.d.sets,VI h.k.d.ways,SL gd h.k.d.es.length h.k.d.es.length,VI h.k.p.sets,VI h.k.p.ways,SL gp h.k.p.es.length h.k.p.es.length] 86)=u2 at n2 H2 F2 |-;obtain ⟨fc,fs,fb⟩:=F2;have R2:=hid (HRw.out.keep fb);have S2:=hid fc;clear fc fs fb HRw;have J2:Hid _:=ey (P:=Tryz.prog) (T:=44) H2.out Tryz.underlying44 rfl (by rw [SA.out];exact ph);go_wp2_with (first | ((with_reducible refine vT ?_ ?_ J2.out ?_);(exact rfl);(exact rfl)));refine (C2.out u2 n2).mono ?_;rintro e u3 ⟨rfl,k3⟩;have R3:=hid (R2.out.keep k3);have S3:Hid _:=ae S2 k3;have H3:Hid _:=ae H2 k3;replace n2:=bst n2 k3;clear k3 H2 J2 S2 R2;go_upto_region 4 with fail;have HLa:=hid fun (u:World) (hu:u.heap[w.heap.size]?=some (.cells A 44 (0,0)))=>ey (P:=Tryz.prog) (T:=44) hu Tryz.underlying44 rfl (by rw [SA.out];exact ph);have HLs:=hid fun (u:World) (hu:u.heap[u1.heap.size]?=some (.cells (eN h.k gi gd gp) 86 (0,0)))=>ey (P:=Tryz.prog) (T:=86) hu Tryz.underlying86 rfl (by kernel_rfl);have hF:u3.drew.heap[w.heap.size]?=some (.cells A 44 (0,0))∧u3.drew.heap[u1.heap.size]?=some (.cells (eN h.k gi gd gp) 86 (0,0)):=⟨H3.out,S3.out⟩;refine ax (fun v=>v.heap[w.heap.size]?=some (.cells A 44 (0,0))∧v.heap[u1.heap.size]?=some (.cells (eN h.k gi gd gp) 86 (0,0))) 3 ?_;refine ak 0 22 (.agg A) rfl hF ?_ (hy:=fun u hu=>aP rfl (HLa.out u hu.1))
 go_frame
 refine ak 2 24 (.agg (eN h.k gi gd gp)) rfl hF ?_ (hy:=fun u hu=>aP rfl (HLs.out u hu.2))
 go_frame
 have D3:=bdr u3;refine cJ 1 23 rfl ((C3.out u3.drew (bst n2 D3)).mono ?_);rintro e u4 ⟨rfl,k4'⟩;have k4:=bst D3 k4';have n4:=bst n2 k4;have R4:=hid (R3.out.keep k4);have H4:Hid _:=ae H3 k4;have S4:Hid _:=ae S3 k4;refine .inl ⟨_,rfl,fun _=>⟨H4.out,S4.out⟩,?_⟩
 go_frame
 refine gF 3 25 (.agg (tl h gi gd gp)) (w':=u4) rfl (fun h=>by simp at h) ?_
 go_frame
 have F5:=bN u4 (tl h gi gd gp) 90;refine gF 4 26 (PT u4.heap.size 0) (w':=u4.alloc (Obj.cells (tl h gi gd gp) 90)) rfl (fun h=>by simp at h) ?_
 go_frame
 refine gF 5 8 (PT u4.heap.size 0) (w':=u4.alloc (Obj.cells (tl h gi gd gp) 90)) rfl (fun h=>by simp at h) ?_
 go_frame
 refine de ?_;obtain ⟨f5,z5,b5⟩:=F5;generalize u4.alloc (Obj.cells (tl h gi gd gp) 90)=u5 at f5 z5 b5 |-;have n5:=bst n4 b5;have R5:=hid (R4.out.keep b5);have H5:Hid _:=ae H4 b5;have M5:=hid f5;have l4:=(hpl H4.out);have CC:Hid _:=tB p.am h.mem.length p.cm h.mem u5 (HI.out.mem.keep n5) hl;have c0:=aa H5.out 0 A0.out;have Z5:Hid _:=z5;have LI:Hid (gi<u4.heap.size∧gd<u4.heap.size∧gp<u4.heap.size):=⟨(bx R4.out.1).2.2,(bx R4.out.2.1).2.2,(bx R4.out.2.2.1).2.2⟩;have LB:Hid (w.heap.size<=gi∧w.heap.size<=gd∧w.heap.size<=gp):=by
  have q1:=(bx R4.out.1).2.1;have q2:=(bx R4.out.2.1).2.1;have q3:=(bx R4.out.2.2.1).2.1;simp only at q1 q2 q3;exact ⟨by omega,by omega,by omega⟩
 clear f5 z5 b5 R4 H4 S4 hF D3 k4 k4' n4 R3 S3 H3 n2 HLa HLs C1 C2 C3;go_wp2_with fail;refine Calls.mono CC.out ?_;rintro e u6 ⟨rfl,m6,b6⟩;have M6:Hid _:=ae M5 b6;have k18:=aa M6.out 18 (v:=SN) rfl;have f18:=ay M6.out 18;have G6:=hid m6;have R6:=hid (R5.out.keep b6);have n6:=bst n5 b6;clear m6 b6 c0 CC R5 H5 M5 n5;go_upto_region 6 with fail;have g7:=aj (ap u6 (some u4.heap.size)) 18 (SL u5.heap.size h.mem.length h.mem.length);have M7:Hid _:=aG (v:=SL u5.heap.size h.mem.length h.mem.length) (i:=18) M6.out;generalize u6.setCell (AD u4.heap.size 18) (SL u5.heap.size h.mem.length h.mem.length)=u7 at g7 M7 |-;have hz5:=Z5.out;have hli:=LI.out;have G7:=hid (G6.out.gb g7 (by omega));have R7:Hid (RowsAt u7 u0.heap.size gi gd gp h.k):=⟨bT R6.out.1 g7 (by omega),bT R6.out.2.1 g7 (by omega),bT R6.out.2.2.1 g7 (by omega),R6.out.2.2.2⟩;have n7:Bw w u7:=⟨g7.os.trans n6.os,g7.tape.trans n6.tape,g7.output.trans n6.output,Nat.le_trans n6.size g7.size,fun i hi=>(g7.block i (ltl hi n6.size) (by simp;omega)).trans (n6.block i hi)⟩;have k29:=aa M7.out 29 (v:=.nilIface) rfl;have f29:=ay M7.out 29;clear hz5 hli g7 M6 G6 R6 n6 k18 f18;cases plain
 ·have CT:Hid _:=mj (AD u4.heap.size 20) u7;go_wp2_with fail;refine Calls.mono CT.out ?_;rintro e v7 ⟨rfl,hbx,b8⟩;have HBx:=hid hbx;have M8':Hid _:=ae M7 b8;have G8':=hid (G7.out.keep b8 G7.out.lt);have R8':=hid (R7.out.keep b8);have n8':=bst n7 b8;have L7:=hid G7.out.lt;replace k29:=aa M8'.out 29 (v:=.nilIface) rfl;replace f29:=ay M8'.out 29;clear hbx b8 CT;go_wp2_with fail;have g8:=aj (ap v7 (some u4.heap.size)) 29 (.iface 180 (PT u7.heap.size 0));have M8:=aG (v:=(.iface 180 (PT u7.heap.size 0))) (i:=29) M8'.out;generalize v7.setCell (AD u4.heap.size 29) (.iface 180 (PT u7.heap.size 0))=u8 at g8 M8 |-;have hz5:=Z5.out;have hli:=LI.out;have hlb:=LB.out;have hl7:=L7.out;have G8:=G8'.out.gb g8 (by omega);have R8:RowsAt u8 u0.heap.size gi gd gp h.k:=⟨bT R8'.out.1 g8 (by omega),bT R8'.out.2.1 g8 (by omega),bT R8'.out.2.2.1 g8 (by omega),R8'.out.2.2.2⟩;have B8:=aq HBx.out g8 (show u7.heap.size≠u4.heap.size by omega);have n8:Bw w u8:=⟨g8.os.trans n8'.os,g8.tape.trans n8'.tape,g8.output.trans n8'.output,Nat.le_trans n8'.size g8.size,fun i hi=>(g8.block i (ltl hi n8'.size) (by simp;omega)).trans (n8'.block i hi)⟩;have q5:=G8.lt;have q7:=(hpl B8);refine bodyPost_ret (v:=.tuple #[PT u4.heap.size 0,.bool true]) (by simp [results,Tryz.results18,go_sem]) rfl ⟨⟨⟨u4.heap.size,u5.heap.size,gi,gd,gp,180,PT u7.heap.size 0⟩,fun i=>i=u4.heap.size∨i=u5.heap.size∨i=gi∨i=gd∨i=gp∨i=u7.heap.size,cX _ u7.heap.size,_,_,u0.heap.size,rfl,yB M8 G8 (.inl rfl) (.inr (.inl rfl)) (show u4.heap.size≠u5.heap.size by omega) ?_ ?_ ?_ HHk.out ?_,Path.cached _ u7.heap.size _ ⟨rfl,rfl,show u4.heap.size≠gi by omega,show u4.heap.size≠gd by omega,show u4.heap.size≠gp by omega,show u7.heap.size≠gi by omega,show u7.heap.size≠gd by omega,show u7.heap.size≠gp by omega⟩ (show u4.heap.size≠u7.heap.size by omega),⟨0,R8,B8⟩,?_,by omega,show u4.heap.size≠gi by omega,show u4.heap.size≠gd by omega,show u4.heap.size≠gp by omega⟩,n8⟩
  ·rintro (e | e | e | e) <;> (simp only at e;omega)
  ·rintro (e | e | e | e) <;> (simp only at e;omega)
  ·rintro i (e | e | e | e)
   ·exact .inr (.inr (.inl e))
   ·exact .inr (.inr (.inr (.inl e)))
   ·exact .inr (.inr (.inr (.inr (.inl e))))
   ·exact .inr (.inr (.inr (.inr (.inr e))))
  ·rintro i (e | e | e | e | e | e) <;> omega
  ·rintro i (e | e | e | e | e | e) <;> omega
 ·have CT:Hid _:=mh (AD u4.heap.size 20) u7;go_wp2_with fail;refine Calls.mono CT.out ?_;rintro e u8 ⟨rfl,hu⟩;rw [hu];clear hu CT;go_wp2_with fail;have g8:=aj (ap u7 (some u4.heap.size)) 29 (.iface 65 (.agg #[]));have M8:=aG (v:=(.iface 65 (.agg #[]))) (i:=29) M7.out;generalize u7.setCell (AD u4.heap.size 29) (.iface 65 (.agg #[]))=u8 at g8 M8 |-;have hz5:=Z5.out;have hli:=LI.out;have hlb:=LB.out;have G8:=G7.out.gb g8 (by omega);have R8:RowsAt u8 u0.heap.size gi gd gp h.k:=⟨bT R7.out.1 g8 (by omega),bT R7.out.2.1 g8 (by omega),bT R7.out.2.2.1 g8 (by omega),R7.out.2.2.2⟩;have n8:Bw w u8:=⟨g8.os.trans n7.os,g8.tape.trans n7.tape,g8.output.trans n7.output,Nat.le_trans n7.size g8.size,fun i hi=>(g8.block i (ltl hi n7.size) (by simp;omega)).trans (n7.block i hi)⟩;have q5:=G8.lt;refine bodyPost_ret (v:=.tuple #[PT u4.heap.size 0,.bool true]) (by simp [results,Tryz.results18,go_sem]) rfl ⟨⟨⟨u4.heap.size,u5.heap.size,gi,gd,gp,65,.agg #[]⟩,fun i=>i=u4.heap.size∨i=u5.heap.size∨i=gi∨i=gd∨i=gp,pX _,_,_,u0.heap.size,rfl,yB M8 G8 (.inl rfl) (.inr (.inl rfl)) (show u4.heap.size≠u5.heap.size by omega) ?_ ?_ ?_ HHk.out ?_,Path.plain _ _ rfl rfl,R8,?_,by omega,show u4.heap.size≠gi by omega,show u4.heap.size≠gd by omega,show u4.heap.size≠gp by omega⟩,n8⟩
  ·rintro (e | e | e) <;> (simp only at e;omega)
  ·rintro (e | e | e) <;> (simp only at e;omega)
  ·rintro i (e | e | e)
   ·exact .inr (.inr (.inl e))
   ·exact .inr (.inr (.inr (.inl e)))
   ·exact .inr (.inr (.inr (.inr e)))
  ·rintro i (e | e | e | e | e) <;> omega
  ·rintro i (e | e | e | e | e) <;> omega
section
attribute [local go_sem ↓] Go.wp_at_zero Go.wp_at_succ
def evC (e:EvM):List Value:=[VU e.pc,VI e.mode,VI e.cause,VU e.tval]
def fL:List EvM->List Value
 | []=>[]
 | e::r=>evC e++fL r
theorem nU:∀a b:List EvM,fL (a++b)=fL a++fL b
 | [],b=>rfl
 | e::r,b=>by simp [fL,nU r b]
theorem zD (e:EvM):∀u∈evC e,u.oneCell'=true:=by
 intro u hu;simp [evC] at hu;rcases hu with rfl | rfl | rfl | rfl <;> rfl
def bP (ea:Option Addr) (n ec:Nat) (q:PtrM) (h:HartM):Array Value:=#[.slice ea n ec,.slice q.am h.mem.length q.cm,.slice q.ar h.regs.length q.cr,VU h.pc,VI h.mode,.bool h.sum,.bool h.mxr,VU h.satp,VU h.epc,VI h.emode,VI h.cause,VU h.tval]
abbrev ip:Array Value:=#[SN,SN,SN,VU 0,VI 0,.bool false,.bool false,VU 0,VU 0,VI 0,VI 0,VU 0]
theorem yf (ea:Option Addr) (n ec:Nat) (q:PtrM) (h:HartM):(bP ea n ec q h).all (·.oneCell')=true:=by simp [bP,Value.oneCell']
theorem yg (plain:Bool) (ps:List Int) (i:Nat) (hi:i<ps.length) (h:HartM) (evs:List EvM):
 (evs++(cY plain (ps.drop i) h).1,(cY plain (ps.drop i) h).2)=((evs++[⟨h.pc,h.mode,(aW plain (ps[i]) h).cause,(aW plain (ps[i]) h).tval⟩])++(cY plain (ps.drop (i+1)) (aW plain (ps[i]) h).h).1,(cY plain (ps.drop (i+1)) (aW plain (ps[i]) h).h).2):=by
 rw [List.drop_eq_getElem_cons hi,cY];simp
structure RunS (w wr:World) (b5 b6 b7:Nat) (S:Array Value) (pa:Option Addr) (pc:Nat) (ps:List Int) (i:Nat) (q:PtrM) (h:HartM) (ev:Value) (evs:List EvM):Prop where
 n:Bw w wr
 h4:wr.heap[w.heap.size]?=some (.cells ip 35 (0,0))
 h5:wr.heap[b5]?=some (.cells S 47 (0,0))
 pk:wr.ownsRow w.heap.size 2 1 (.slice pa ps.length pc) ps.length (cR ps)
 h6:wr.heap[b6]?=some (.cells (aA q h) 44 (0,0))
 h7:wr.heap[b7]?=some (.cells #[ev,SN,SN,VU 0,VI 0,.bool false,.bool false,VU 0,VU 0,VI 0,VI 0,VU 0] 35 (0,0))
 ev:wr.ownsRow w.heap.size 97 4 ev i (fL evs)
 hi:HartIn wr q h
 ok:HOk h
 ne:∀x,some x∈dW q->x.block≠w.heap.size∧x.block≠b6∧x.block≠b7
theorem RunS.keep {w wr v:World} {b5 b6 b7:Nat} {S:Array Value} {pa:Option Addr} {pc:Nat} {ps:List Int} {i:Nat} {q:PtrM} {h:HartM} {ev:Value} {evs:List EvM} (k:RunS w wr b5 b6 b7 S pa pc ps i q h ev evs) (hb:Bw wr v):RunS w v b5 b6 b7 S pa pc ps i q h ev evs:=
 ⟨bst k.n hb,ag k.h4 hb (hpl k.h4),ag k.h5 hb (hpl k.h5),ai k.pk hb,ag k.h6 hb (hpl k.h6),ag k.h7 hb (hpl k.h7),ai k.ev hb,k.hi.keep hb,k.ok,k.ne⟩
theorem HartIn.own {w w':World} {q:PtrM} {h:HartM} {v:Value} (k:HartIn w q h) (hg:w.grownBy w' v.ownBlock) (hne:∀g,v.ownBlock=some g->∀x,some x∈dW q->x.block≠g):HartIn w' q h:=by
 cases hv:v.ownBlock with
 | none=>
  rw [hv] at hg;exact k.keep ⟨hg.os,hg.tape,hg.output,hg.size,fun i hi=>hg.block i hi (by simp)⟩
 | some g=>
  rw [hv] at hg;exact k.gb hg (hne g hv)
theorem RunS.next {w wr v3:World} {b5 b6 b7:Nat} {S:Array Value} {pa:Option Addr} {pc:Nat} {ps:List Int} {i g' c':Nat} {q q':PtrM} {h h':HartM} {ev:Value} {evs:List EvM} {e:EvM} (k:RunS w wr b5 b6 b7 S pa pc ps i q h ev evs) (hi:HartIn wr q' h') (ok:HOk h') (hne:∀x,some x∈dW q'->x.block≠w.heap.size∧x.block≠b6∧x.block≠b7∧∀g,ev.ownBlock=some g->x.block≠g)
 (hg:wr.grownBy v3 ev.ownBlock) (ho:v3.ownsRow w.heap.size 97 4 (SL g' (i+1) c') (i+1) (fL evs++evC e)) (n67:b6≠b7) (n47:w.heap.size≠b7) (n46:w.heap.size≠b6) (l7:w.heap.size<=b7) (l6:w.heap.size<=b6):
 RunS w ((v3.setCell (AD b7 0) (SL g' (i+1) c')).setCells b6 0 (aA q' h').toList) b5 b6 b7 S pa pc ps (i+1) q' h' (SL g' (i+1) c') (evs++[e]):=by
 have j4:=jm k.h4 hg (aY k.ev k.h4 (by decide));have j5:=jm k.h5 hg (aY k.ev k.h5 (by decide));have j6:=jm k.h6 hg (aY k.ev k.h6 (by decide));have j7:=jm k.h7 hg (aY k.ev k.h7 (by decide));have jp:=vS k.pk hg (nm k.pk k.ev (by decide));have jh:=hi.own hg (fun g hgg x hx=>(hne x hx).2.2.2 g hgg);have jn:=k.n.grown hg k.n.size (fun g hgg=>(k.ev.lt g hgg).1);have g7:=aj (ap v3 (some b7)) 0 (SL g' (i+1) c');have i4:=aq j4 g7 n47;have i5:b5≠b7:=fun hh=>by subst hh;rw [j5] at j7;cases j7
 have i6:=aq j6 g7 n67;have i7:=cV j7 0 (SL g' (i+1) c');have g6:=bK b6 (aA q' h').toList 0 (v3.setCell (AD b7 0) (SL g' (i+1) c')) _ (ap _ _);have i56:b5≠b6:=fun hh=>by subst hh;rw [j5] at j6;cases j6
 refine ⟨?_,aq i4 g6 n46,aq (aq j5 g7 i5) g6 i56,bS (bS jp j7 (by decide) g7) i6 (by decide) g6,cD i6 rfl,aq i7 g6 (Ne.symm n67),?_,(jh.gb g7 (fun x hx=>(hne x hx).2.2.1)).gb g6 (fun x hx=>(hne x hx).2.1),ok,fun x hx=>⟨(hne x hx).1,(hne x hx).2.1,(hne x hx).2.2.1⟩⟩
 ·exact dn l6 _ _ _ (eO jn l7 _ _)
 ·rw [nU,show fL [e]=evC e from by simp [fL]];exact bS (bS ho j7 (by decide) g7) i6 (by decide) g6
theorem uS:(Tryz.prog.info? 35).map (·.size)=some 12:=by kernel_rfl
theorem Tryz.infoEv:(Tryz.prog.info? 97).map (fun i=>(i.zero,i.size,i.bytes))=some (some (.agg #[VU 0,VI 0,VI 0,VU 0]),4,32):=by kernel_rfl
theorem sH (p:PtrM) (pa:Option Addr) (pc:Nat) (h:HartM) (ps:List Int):((dV p pa pc h ps).toList.drop 0).take 21=(aA p h).toList:=rfl
theorem sI (p:PtrM) (pa:Option Addr) (pc:Nat) (h:HartM) (ps:List Int):(dV p pa pc h ps)[21]?=some (.slice pa ps.length pc):=rfl
theorem nV {zs:List Int} (hz:∀i:Nat,0<=zs[i]?.getD 0∧zs[i]?.getD 0<=255):∀y∈bh zs,0<=y∧y<=255:=by
 intro y hy;simp only [bh,List.mem_map] at hy;obtain ⟨k,_,rfl⟩:=hy;exact hz _
end
end Go.Proofs.YthdgiakgepmabaaGreat
