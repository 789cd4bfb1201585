import Derived.Test.YtkenjknmfhoppaaGreatPk41
namespace Go.Proofs.YtkenjknmfhoppaaGreat
open Go.RowKit
set_option linter.unusedVariables false
set_option maxHeartbeats 6400000
set_option maxRecDepth 20000
theorem HartIn.row {w:World} {p:PtrM} {h:HartM} (k:HartIn w p h):HartR w p h∧h.k.i.es.length<=1048576∧h.k.d.es.length<=1048576∧h.k.p.es.length<=1048576:=by
 obtain ⟨a1,c1,a2,c2,a3,c3,he,t1,t2,t3⟩:=k.ks;simp only [kA,Value.agg.injEq,Array.mk.injEq,List.cons.injEq,Value.slice.injEq,true_and,and_true] at he;obtain ⟨⟨rfl,rfl⟩,⟨rfl,rfl⟩,rfl,rfl⟩:=he;exact ⟨⟨k.mem,k.regs,t1.row.1,t2.row.1,t3.row.1⟩,t1.row.2,t2.row.2,t3.row.2⟩
theorem qZ (zs:List Int):(bq zs).length<=20000:=by
 simp only [bq,List.length_map,List.length_range,it];omega
structure ScrO (base:Nat) (v:World) (p:PtrM) (h:HartM) (pa:Option Addr) (pc:Nat) (ps:List Int):Prop where
 hart:HartO base v p h (eC h.mem) (dm h.regs) (cH h.k.i.es) (cH h.k.d.es) (cH h.k.p.es)
 pick:v.ownsRow base 2 1 (.slice pa ps.length pc) ps.length (cU ps)
theorem ScrO.keep {base:Nat} {v v':World} {p:PtrM} {h:HartM} {pa:Option Addr} {pc:Nat} {ps:List Int} (k:ScrO base v p h pa pc ps) (hb:Bw v v'):ScrO base v' p h pa pc ps:=
 ⟨k.hart.keep hb,aq k.pick hb⟩
theorem ScrO.gb {base r:Nat} {v v':World} {p:PtrM} {h:HartM} {pa:Option Addr} {pc:Nat} {ps:List Int} (k:ScrO base v p h pa pc ps) (hg:v.grownBy v' (some r)) (hr:r<base):ScrO base v' p h pa pc ps:=
 ⟨k.hart.gb hg hr,aD k.pick hg hr⟩
theorem ScrO.low {base:Nat} {v:World} {p:PtrM} {h:HartM} {pa:Option Addr} {pc:Nat} {ps:List Int} (k:ScrO base v p h pa pc ps):∀g,Id p h pa pc ps g->base<=g:=by
 rintro g (h1 | h1)
 ·exact (k.hart.low g h1).1
 ·exact (k.pick.lt g h1).1
theorem ScrO.box {base pb:Nat} {v:World} {p:PtrM} {h:HartM} {pa:Option Addr} {pc:Nat} {ps:List Int} {cur:Array Value} {q:Nat × Nat} (k:ScrO base v p h pa pc ps) (hp:v.heap[pb]?=some (.cells cur 46 q)):¬Id p h pa pc ps pb:=by
 rintro (h1 | h1)
 ·exact k.hart.box_ne hp (by decide) (by decide) (by decide) h1
 ·exact cC k.pick hp (by decide) h1
theorem DecOwn.own {w v:World} {h:HartM} {ps:List Int} {e:Ending} (d:DecOwn w h ps e v):(∃p pa pc,e=.returned (.agg (cF p pa pc h ps))∧ScrO w.heap.size v p h pa pc ps)∧Bw w v:=by
 obtain ⟨⟨g1,c1,g2,c2,g3,c3,gm,cm,gr,cr,gp,cp,rfl,o1,o2,o3,om,oR,op,n12,n13,n23⟩,n⟩:=d;refine ⟨⟨_,_,_,rfl,⟨om,oR,o1,o2,o3,?_,?_,?_⟩,op⟩,n⟩
 ·intro g h1 h2;exact n12 (Option.some.inj (h1.trans h2.symm))
 ·intro g h1 h2;exact n13 (Option.some.inj (h1.trans h2.symm))
 ·intro g h1 h2;exact n23 (Option.some.inj (h1.trans h2.symm))
theorem Co {base size n c:Nat} {e:TypeId} {w:World} {a:Option Addr} {cs:List Value} (h:w.ownsRow base e size (.slice a n c) n cs):n<=c∧c<=9223372036854775807:=by
 rcases h.2 with ⟨h1,h2⟩ | ⟨g,cap,cur,h1,_,_,h2,h3,_⟩
 ·simp only [Value.slice.injEq] at h1;omega
 ·simp only [Value.slice.injEq] at h1;unfold maxLen at h3;omega
theorem HartO.hin {base:Nat} {w:World} {p:PtrM} {h:HartM} (k:HartO base w p h (eC h.mem) (dm h.regs) (cH h.k.i.es) (cH h.k.d.es) (cH h.k.p.es)) (hz:∀i:Nat,0<=h.mem[i]?.getD 0∧h.mem[i]?.getD 0<=255) (hk:kOk h.k):HartIn w p h:=by
 have r:=k.read hz;refine ⟨r.mem,Co k.mem,r.regs,Co k.regs,?_,⟨_,_,_,_,_,_,rfl,jA k.r1 hk.1,jA k.r2 hk.2.1,jA k.r3 hk.2.2⟩,?_⟩
 ·rcases qD k.regs with ⟨h1,h2,_⟩ | ⟨g,cap,h1⟩
  ·simp only [Value.slice.injEq] at h1;exact ⟨fun _=>⟨h2,h1.2.2⟩,fun q hq=>by rw [h1.1] at hq;cases hq⟩
  ·simp only [Value.slice.injEq] at h1;exact ⟨fun hq=>(by rw [h1.1] at hq;cases hq),fun q hq=>(by rw [h1.1] at hq;cases hq;rfl)⟩
 ·intro q hq;simp only [aU,List.mem_cons,List.not_mem_nil,or_false] at hq;rcases hq with hq | hq | hq | hq | hq
  ·exact (dP k.mem q hq.symm).2
  ·exact (dP k.regs q hq.symm).2
  ·exact (dP k.r1 q hq.symm).2
  ·exact (dP k.r2 q hq.symm).2
  ·exact (dP k.r3 q hq.symm).2
section
attribute [local go_sem ↓] Go.wp_at_zero Go.wp_at_succ
theorem zK (p:PtrM) (h:HartM) (w:World) (hi:HartIn w p h) (hl:h.mem.length<=1048576) (s0:0<=h.satp) (s1:h.satp<=18446744073709551615) (t0:0<=h.tvec) (h8:h.regs.length=8):
 Calls Tryz.prog 70 #[.agg (aj p h)] w fun e w'=>e=.returned (.bool (eR h.mem.length && iR h))∧Bw w w':=by
 have F:=bX w (aj p h) 43;have A0:Hid ((aj p h)[0]?=some (.slice p.am h.mem.length p.cm)):=by show _=_;rfl
 have A1:Hid ((aj p h)[1]?=some (.slice p.ar h.regs.length p.cr)):=by show _=_;rfl
 have A3:Hid ((aj p h)[3]?=some (VI h.mode)):=by show _=_;rfl
 have A6:Hid ((aj p h)[6]?=some (VU h.satp)):=by show _=_;rfl
 have A7:Hid ((aj p h)[7]?=some (VU h.tvec)):=by show _=_;rfl
 have A9:Hid ((aj p h)[9]?=some (VI h.emode)):=by show _=_;rfl
 have A10:Hid ((aj p h)[10]?=some (VI h.cause)):=by show _=_;rfl
 obtain ⟨R,hR⟩:∃R,(eR h.mem.length && iR h)=R:=⟨_,rfl⟩;have HF:=hid fun (hr:R=true)=>(pO h).1 (hR.trans hr);have HT:=hid fun (h1:qF h)=>hR.symm.trans ((pO h).2 h1);unfold qF at HF HT;rw [hR];have P1:=hid fun u=>oG h.mem.length u hl;have P2:=hid fun m u=>js m u;have P3:=hid fun u=>ik h.satp u s0 s1;obtain ⟨rb,ro,hra,rlt,rc⟩:=Cz hi.regs h8;have g8:(h.regs.length:Int)=8:=by omega
 rw [hra] at A1;clear hi hR h8;generalize aj p h=A at *;generalize h.mem.length=n at *;generalize h.regs.length=m at *;generalize h.regs[0]?.getD 0=r0 at *;go_enter Tryz.func70,Tryz.ntmps70;go_upto_region 1 with fail;generalize (w.alloc (Obj.cells A 43))=u0 at F |-;obtain ⟨f1,hz,nB⟩:=F;have H1:Hid _:=f1;clear f1;have m8:m=8:=by omega
 subst m8;have x0:=(nB.cell (by exact rlt)).trans rc;clear rc;have c0:=ab H1.out 0 A0.out;have c1:=ab H1.out 1 A1.out;have c3:=ab H1.out 3 A3.out;have c6:=ab H1.out 6 A6.out;have c7:=ab H1.out 7 A7.out;have c9:=ab H1.out 9 A9.out;have c10:=ab H1.out 10 A10.out;go_wp2_with fail;refine (P1.out u0).mono ?_;rintro e _ ⟨rfl,rfl⟩;by_cases hzz:(n:Int)%64=0∧64<=(n:Int)∧(n:Int)<=4096
 rotate_left 1
 ·rw [show eR n=false from (by unfold eR;exact decide_eq_false (by omega))];go_wp2_with fail
  any_goals (
   go_ret;refine ⟨?_,nB⟩;have hq:R=false:=(by
    cases R with
    | false=>rfl
    | true=>
     obtain ⟨⟨q1,q2,q3⟩,q4,q5,⟨q6,q7⟩,⟨q8,q9⟩,q10,q11,⟨q12,q13⟩⟩:=HF.out rfl;first
     | (exfalso;omega)
     | (simp_all))
   subst hq;exact rfl)
 rw [show eR n=true from (by unfold eR;exact decide_eq_true (by omega))];by_cases hr0:r0=0
 rotate_left 1
 ·have dr:(r0 != 0)=true:=by simpa using hr0
  go_wp2_with fail
  any_goals (
   go_ret;refine ⟨?_,nB⟩;have hq:R=false:=(by
    cases R with
    | false=>rfl
    | true=>
     obtain ⟨⟨q1,q2,q3⟩,q4,q5,⟨q6,q7⟩,⟨q8,q9⟩,q10,q11,⟨q12,q13⟩⟩:=HF.out rfl;first
     | (exfalso;omega)
     | (simp_all))
   subst hq;exact rfl)
 subst hr0;go_wp2_with fail;refine (P2.out h.mode _).mono ?_;rintro e _ ⟨rfl,rfl⟩;by_cases hm:0<=h.mode∧h.mode<=2
 rotate_left 1
 ·rw [decide_eq_false hm];go_wp2_with fail
  any_goals (
   go_ret;refine ⟨?_,nB⟩;have hq:R=false:=(by
    cases R with
    | false=>rfl
    | true=>
     obtain ⟨⟨q1,q2,q3⟩,q4,q5,⟨q6,q7⟩,⟨q8,q9⟩,q10,q11,⟨q12,q13⟩⟩:=HF.out rfl;first
     | (exfalso;omega)
     | (simp_all))
   subst hq;exact rfl)
 rw [decide_eq_true hm];have HM:Hid _:=hm;clear hm;go_wp2_with fail;refine (P2.out h.emode _).mono ?_;rintro e _ ⟨rfl,rfl⟩;by_cases he:0<=h.emode∧h.emode<=2
 rotate_left 1
 ·rw [decide_eq_false he];go_wp2_with fail
  any_goals (
   go_ret;refine ⟨?_,nB⟩;have hq:R=false:=(by
    cases R with
    | false=>rfl
    | true=>
     obtain ⟨⟨q1,q2,q3⟩,q4,q5,⟨q6,q7⟩,⟨q8,q9⟩,q10,q11,⟨q12,q13⟩⟩:=HF.out rfl;first
     | (exfalso;omega)
     | (simp_all))
   subst hq;exact rfl)
 rw [decide_eq_true he];have HE:Hid _:=he;clear he;go_wp2_with fail
 any_goals (
  go_ret;refine ⟨?_,nB⟩;have hq:R=false:=(by
   cases R with
   | false=>rfl
   | true=>
    obtain ⟨⟨q1,q2,q3⟩,q4,q5,⟨q6,q7⟩,⟨q8,q9⟩,q10,q11,⟨q12,q13⟩⟩:=HF.out rfl;first
    | (exfalso;omega)
    | (simp_all))
  subst hq;exact rfl)
 refine (P3.out _).mono ?_;rintro e _ ⟨rfl,rfl⟩;rcases Bool.eq_false_or_eq_true (du h.satp) with hs | hs
 rotate_left 1
 ·rw [hs];go_wp2_with fail
  any_goals (
   go_ret;refine ⟨?_,nB⟩;have hq:R=false:=(by
    cases R with
    | false=>rfl
    | true=>
     obtain ⟨⟨q1,q2,q3⟩,q4,q5,⟨q6,q7⟩,⟨q8,q9⟩,q10,q11,⟨q12,q13⟩⟩:=HF.out rfl;first
     | (exfalso;omega)
     | (simp_all))
   subst hq;exact rfl)
 rw [hs];have HS:Hid _:=hs;clear hs;by_cases h4:h.tvec%4=0
 ·have hq:=HT.out ⟨hzz,by first | trivial | rfl | omega,by first | trivial | rfl | omega,HM.out,HE.out,HS.out,h4,⟨by omega,by omega⟩⟩;subst hq;go_wp2;go_ret;exact ⟨rfl,nB⟩
 ·have hq:R=false:=(by
   cases R with
   | false=>rfl
   | true=>
    obtain ⟨⟨q1,q2,q3⟩,q4,q5,⟨q6,q7⟩,⟨q8,q9⟩,q10,q11,⟨q12,q13⟩⟩:=HF.out rfl;exfalso;omega)
  subst hq;have d4:(h.tvec%4 == 0)=false:=by simpa using h4
  go_wp2;go_ret;exact ⟨rfl,nB⟩
theorem zL (p:PtrM) (h:HartM) (w:World) (hi:HartIn w p h) (hl:h.mem.length<=1048576) (s0:0<=h.satp) (s1:h.satp<=18446744073709551615) (t0:0<=h.tvec) (h8:¬h.regs.length=8):
 Calls Tryz.prog 70 #[.agg (aj p h)] w fun e w'=>e=.returned (.bool (eR h.mem.length && iR h))∧Bw w w':=by
 have F:=bX w (aj p h) 43;have A0:Hid ((aj p h)[0]?=some (.slice p.am h.mem.length p.cm)):=by show _=_;rfl
 have A1:Hid ((aj p h)[1]?=some (.slice p.ar h.regs.length p.cr)):=by show _=_;rfl
 have A3:Hid ((aj p h)[3]?=some (VI h.mode)):=by show _=_;rfl
 have A6:Hid ((aj p h)[6]?=some (VU h.satp)):=by show _=_;rfl
 have A7:Hid ((aj p h)[7]?=some (VU h.tvec)):=by show _=_;rfl
 have A9:Hid ((aj p h)[9]?=some (VI h.emode)):=by show _=_;rfl
 have A10:Hid ((aj p h)[10]?=some (VI h.cause)):=by show _=_;rfl
 obtain ⟨R,hR⟩:∃R,(eR h.mem.length && iR h)=R:=⟨_,rfl⟩;have HF:=hid fun (hr:R=true)=>(pO h).1 (hR.trans hr);have HT:=hid fun (h1:qF h)=>hR.symm.trans ((pO h).2 h1);unfold qF at HF HT;rw [hR];have P1:=hid fun u=>oG h.mem.length u hl;have P2:=hid fun m u=>js m u;have P3:=hid fun u=>ik h.satp u s0 s1;have g8:¬(h.regs.length:Int)=8:=by omega
 clear hi hR h8;generalize aj p h=A at *;generalize h.mem.length=n at *;generalize h.regs.length=m at *;generalize h.regs[0]?.getD 0=r0 at *;go_enter Tryz.func70,Tryz.ntmps70;go_upto_region 1 with fail;generalize (w.alloc (Obj.cells A 43))=u0 at F |-;obtain ⟨f1,hz,nB⟩:=F;have H1:Hid _:=f1;clear f1;have c0:=ab H1.out 0 A0.out;have c1:=ab H1.out 1 A1.out;have c3:=ab H1.out 3 A3.out;have c6:=ab H1.out 6 A6.out;have c7:=ab H1.out 7 A7.out;have c9:=ab H1.out 9 A9.out;have c10:=ab H1.out 10 A10.out;go_wp2_with fail;refine (P1.out u0).mono ?_;rintro e _ ⟨rfl,rfl⟩;by_cases hzz:(n:Int)%64=0∧64<=(n:Int)∧(n:Int)<=4096
 rotate_left 1
 ·rw [show eR n=false from (by unfold eR;exact decide_eq_false (by omega))];go_wp2_with fail
  any_goals (
   go_ret;refine ⟨?_,nB⟩;have hq:R=false:=(by
    cases R with
    | false=>rfl
    | true=>
     obtain ⟨⟨q1,q2,q3⟩,q4,q5,⟨q6,q7⟩,⟨q8,q9⟩,q10,q11,⟨q12,q13⟩⟩:=HF.out rfl;first
     | (exfalso;omega)
     | (simp_all))
   subst hq;exact rfl)
 rw [show eR n=true from (by unfold eR;exact decide_eq_true (by omega))];go_wp2_with fail
 any_goals (
  go_ret;refine ⟨?_,nB⟩;have hq:R=false:=(by
   cases R with
   | false=>rfl
   | true=>
    obtain ⟨⟨q1,q2,q3⟩,q4,q5,⟨q6,q7⟩,⟨q8,q9⟩,q10,q11,⟨q12,q13⟩⟩:=HF.out rfl;first
    | (exfalso;omega)
    | (simp_all))
  subst hq;exact rfl)
theorem uA (p:PtrM) (h:HartM) (w:World) (hi:HartIn w p h) (hl:h.mem.length<=1048576) (s0:0<=h.satp) (s1:h.satp<=18446744073709551615) (t0:0<=h.tvec):
 Calls Tryz.prog 70 #[.agg (aj p h)] w fun e w'=>e=.returned (.bool (eR h.mem.length && iR h))∧Bw w w':=by
 by_cases h8:h.regs.length=8
 ·exact zK p h w hi hl s0 s1 t0 h8
 ·exact zL p h w hi hl s0 s1 t0 h8
end
theorem rQ (c:Addr) (w:World):Calls Tryz.prog 73 #[.bool true,.pointer (some c)] w fun e w'=>e=.returned (.iface 72 (.agg #[]))∧w'=w:=by
 go_enter Tryz.func73,Tryz.ntmps73;go_wp2;go_ret;exact ⟨rfl,rfl⟩
theorem rR (c:Addr) (w:World):Calls Tryz.prog 73 #[.bool false,.pointer (some c)] w fun e w'=>e=.returned (.iface 209 (PT w.heap.size 0))∧w'.heap[w.heap.size]?=some (.cells #[.pointer (some c),VI 0] 211 (0,0))∧Bw w w':=by
 have F:=bX w #[.pointer (some c),VI 0] 211;go_enter Tryz.func73,Tryz.ntmps73;go_wp2;go_ret;exact ⟨rfl,F.1,F.2.2⟩
theorem FY (qb qo c:Nat) (w:World):(Instr.arrayAt 79 (.slice (some (AD qb qo)) 8 c)).run Tryz.prog w=.ok (PT qb qo) w:=by kernel_rfl
theorem FZ (p:PtrM) (h:HartM) (w:World) (hi:HartIn w p h) (h8:h.regs.length=8):
 Calls Tryz.prog 71 #[.agg (aj p h)] w fun e w'=>e=.returned (.agg (gV h))∧Bw w w':=by
 have F:=ku w (aj p h) #[VU 0,VU 0,VU 0,VU 0,VU 0,VU 0,VU 0,VU 0,VU 0,VI 0,.bool false,.bool false,VU 0,VU 0,VU 0,VI 0,VI 0,VU 0] 43 81;have HR:Hid _:=hi.regs;obtain ⟨q,hq⟩:∃q,p.ar=some q:=by
  cases e:p.ar with
  | none=>have:=(hi.rega.1 e).1;omega
  | some q=>exact ⟨q,rfl⟩
 have hql:=hi.low q (by simp [aU,hq]);have hqs:=hi.rega.2 q hq;obtain ⟨qb,qo,qs⟩:=q;simp only at hqs hql;subst hqs;have HRw:Hid (∀u,Bw w u->∀i:Nat,i<8->u.cell? ⟨qb,qo+i,none⟩=some (VU (h.regs[i]?.getD 0))):=fun u hu i hlt=>by
  rcases (hi.regs.keep hu).2 with h0 | ⟨b,off,e,_,hc⟩
  ·omega
  ·rw [hq] at e;cases e;refine hc i _ ?_;unfold dm;rw [List.getElem?_map,geg (by omega)];rfl
 clear hi HR;unfold aj at F |-;rw [hq,h8] at F |-;have ha:=FY qb qo p.cr;go_enter Tryz.func71,Tryz.ntmps71;go_upto_region 1 with fail;generalize (w.alloc _).alloc _=v1 at F |-;obtain ⟨f1,f2,f3,n1⟩:=F;have D:Bw w v1.drew:=bst n1 (brf).drew;have e1:v1.drew.heap[w.heap.size]?=_:=f1;have e2:v1.drew.heap[w.heap.size+1]?=_:=f2;have RW:∀i:Nat,i<8->v1.drew.cell? ⟨qb,qo+i,none⟩=some (VU (h.regs[i]?.getD 0)):=fun i hi=>HRw.out v1.drew D i hi;have c1:=ab e1 1 (v:=.slice (some (AD qb qo)) 8 p.cr) rfl;have c2:=ab e1 2 (v:=VU h.pc) rfl;have c3:=ab e1 3 (v:=VI h.mode) rfl;have c4:=ab e1 4 (v:=.bool h.sum) rfl;have c5:=ab e1 5 (v:=.bool h.mxr) rfl;have c6:=ab e1 6 (v:=VU h.satp) rfl;have c7:=ab e1 7 (v:=VU h.tvec) rfl;have c8:=ab e1 8 (v:=VU h.epc) rfl;have c9:=ab e1 9 (v:=VI h.emode) rfl;have c10:=ab e1 10 (v:=VI h.cause) rfl;have c11:=ab e1 11 (v:=VU h.tval) rfl;have r0:v1.drew.cell? (AD qb qo)=some (VU (h.regs[0]?.getD 0)):=RW 0 (by omega);have r1:=RW 1 (by omega);have r2:=RW 2 (by omega);have r3:=RW 3 (by omega);have r4:=RW 4 (by omega);have r5:=RW 5 (by omega);have r6:=RW 6 (by omega);have r7:=RW 7 (by omega);obtain ⟨x0,hx0⟩:∃x,h.regs[0]?.getD 0=x:=⟨_,rfl⟩;rw [hx0] at r0;obtain ⟨x1,hx1⟩:∃x,h.regs[1]?.getD 0=x:=⟨_,rfl⟩;rw [hx1] at r1;obtain ⟨x2,hx2⟩:∃x,h.regs[2]?.getD 0=x:=⟨_,rfl⟩;rw [hx2] at r2;obtain ⟨x3,hx3⟩:∃x,h.regs[3]?.getD 0=x:=⟨_,rfl⟩;rw [hx3] at r3;obtain ⟨x4,hx4⟩:∃x,h.regs[4]?.getD 0=x:=⟨_,rfl⟩;rw [hx4] at r4;obtain ⟨x5,hx5⟩:∃x,h.regs[5]?.getD 0=x:=⟨_,rfl⟩;rw [hx5] at r5;obtain ⟨x6,hx6⟩:∃x,h.regs[6]?.getD 0=x:=⟨_,rfl⟩;rw [hx6] at r6;obtain ⟨x7,hx7⟩:∃x,h.regs[7]?.getD 0=x:=⟨_,rfl⟩;rw [hx7] at r7;have HCA:Hid (gV h=#[VU x0,VU x1,VU x2,VU x3,VU x4,VU x5,VU x6,VU x7,VU h.pc,VI h.mode,.bool h.sum,.bool h.mxr,VU h.satp,VU h.tvec,VU h.epc,VI h.emode,VI h.cause,VU h.tval]):=by
  show _=_;unfold gV;rw [hx0,hx1,hx2,hx3,hx4,hx5,hx6,hx7]
 have HE2:Hid _:=e2;have HD:Hid (Bw w v1.drew):=D;clear f1 f2 f3 n1 D e1 e2 RW hx0 hx1 hx2 hx3 hx4 hx5 hx6 hx7 HRw h8 hq;refine dz 25 (by kernel_rfl) (by kernel_rfl) ?_;simp only [List.take_succ_cons,List.take_zero,List.drop_succ_cons,List.drop_zero];generalize v1.drew=u at *;repeat still_step
 refine wpStill_nil ?_;have HS:Hid _:=aR (P:=Tryz.prog) (T:=81) (V:=#[VU x0,VU x1,VU x2,VU x3,VU x4,VU x5,VU x6,VU x7,VU h.pc,VI h.mode,.bool h.sum,.bool h.mxr,VU h.satp,VU h.tvec,VU h.epc,VI h.emode,VI h.cause,VU h.tval]) HE2.out Cj rfl (by simp [Value.oneCell']);have HB:=aH (V:=#[VU x0,VU x1,VU x2,VU x3,VU x4,VU x5,VU x6,VU x7,VU h.pc,VI h.mode,.bool h.sum,.bool h.mxr,VU h.satp,VU h.tvec,VU h.epc,VI h.emode,VI h.cause,VU h.tval]) HE2.out rfl;have HN:Hid _:=aJ (show w.heap.size<=w.heap.size+1 by omega) (#[VU x0,VU x1,VU x2,VU x3,VU x4,VU x5,VU x6,VU x7,VU h.pc,VI h.mode,.bool h.sum,.bool h.mxr,VU h.satp,VU h.tvec,VU h.epc,VI h.emode,VI h.cause,VU h.tval]:Array Value).toList 0 _ HD.out;have HW:Hid _:=bE (P:=Tryz.prog) HB Tryz.underlying81 rfl Cj;obtain ⟨CA,hCA⟩:∃CA:Array Value,#[VU x0,VU x1,VU x2,VU x3,VU x4,VU x5,VU x6,VU x7,VU h.pc,VI h.mode,.bool h.sum,.bool h.mxr,VU h.satp,VU h.tvec,VU h.epc,VI h.emode,VI h.cause,VU h.tval]=CA:=⟨_,rfl⟩;rw [hCA] at HS HB HN HW HCA |-;clear hCA r0 r1 r2 r3 r4 r5 r6 r7 c1 c2 c3 c4 c5 c6 c7 c8 c9 c10 c11;go_wp2_with ((with_reducible refine ax ?_ ?_ HS.out ?_);(exact rfl);(exact rfl));refine dE (b:=w.heap.size+1) Tryz.results71 rfl HW.out rfl ?_;exact ⟨by rw [HCA.out],HN.out⟩
def zP (h:HartM) (gi gd gp:Nat):Array Value:=#[VU (h.regs[0]?.getD 0),VU (h.regs[1]?.getD 0),VU (h.regs[2]?.getD 0),VU (h.regs[3]?.getD 0),VU (h.regs[4]?.getD 0),VU (h.regs[5]?.getD 0),VU (h.regs[6]?.getD 0),VU (h.regs[7]?.getD 0),
 VU h.pc,VI h.mode,.bool h.sum,.bool h.mxr,VU h.satp,VU h.tvec,VU h.epc,VI h.emode,VI h.cause,VU h.tval,SN,SN,
 VI h.k.i.sets,VI h.k.i.ways,SL gi h.k.i.es.length h.k.i.es.length,VI h.k.d.sets,VI h.k.d.ways,SL gd h.k.d.es.length h.k.d.es.length,VI h.k.p.sets,VI h.k.p.ways,SL gp h.k.p.es.length h.k.p.es.length,.nilIface]
theorem FT {w:World} {O X:Nat->Prop} {m:MP} {h:HartM} (hb:w.heap[m.b]?=some (.cells (cV h m.gm (SN) m.gi m.gd m.gp m.pv) 97 (0,0))) (hm:Blk 5 w m.gm h.mem) (ob:O m.b) (om:O m.gm) (bm:m.b≠m.gm) (xb:¬X m.b) (xm:¬X m.gm) (xo:∀i,X i->O i) (hh:HOk h) (obd:∀i,O i->i<w.heap.size):MW w O X m (SN) h []:=by
 have hs:=hh.v.size;simp only [eR,decide_eq_true_eq] at hs;exact ⟨hb,hm,⟨rfl,.inl ⟨rfl,rfl⟩⟩,ob,om,fun g e=>by simp [Value.ownBlock] at e,bm,xb,xm,fun i hi=>⟨xo i hi,obd i (xo i hi)⟩,hh.mem,hs.2.2,hh.v.regs,Nat.zero_le _,⟨0,0,none,rfl⟩,obd,fun o ho=>by simp at ho⟩
def Jv (plain:Bool) (h:HartM) (w:World) (e:Ending) (w':World):Prop:=
 ∃m O X PI PA base,e=.returned (.tuple #[PT m.b 0,.bool true])∧MW w' O X m (SN) h []∧Path m plain base X PI PA∧PI h.k w'∧(∀i,O i->w.heap.size<=i)∧w.heap.size<=base∧m.b≠m.gi∧m.b≠m.gd∧m.b≠m.gp
theorem qw (plain:Bool) (p:PtrM) (h:HartM) (w:World) (hi:HartIn w p h) (hl:h.mem.length<=1048576) (s0:0<=h.satp) (s1:h.satp<=18446744073709551615) (t0:0<=h.tvec) (hh:HOk h):
 Calls Tryz.prog 26 #[.agg (aj p h),.bool plain] w fun e w'=>Jv plain h w e w'∧Bw w w':=by
 have F:=bX w (aj p h) 43;have KP:Hid (((aj p h).toList.drop 12).take 9=(kA p h.k).toList):=by show _=_;rfl
 have SA:Hid ((aj p h).size=21):=rfl;have A0:Hid ((aj p h)[0]?=some (.slice p.am h.mem.length p.cm)):=by show _=_;rfl
 have hv:=hh.v;have HHk:=hid hh;have hgk:=hv.ks;have hvv:=(eh h).2 hv;have hR:(eR h.mem.length && iR h)=true:=by
  have:=hvv;unfold rZ at this;rw [hgk,Bool.and_true] at this;exact this
 have C1:Hid (∀u,Bw w u->Calls Tryz.prog 69 #[.agg (kA p h.k)] u fun e w'=>Eg u.heap.size w' e h.k∧Bw u w'):=fun u hu=>by
  have:=sg _ h.k u (hi.ks.keep hu);rw [hgk] at this;exact this
 have C2:Hid (∀u,Bw w u->Calls Tryz.prog 70 #[.agg (aj p h)] u fun e w'=>e=.returned (.bool true)∧Bw u w'):=fun u hu=>by
  have:=uA p h u (hi.keep hu) hl s0 s1 t0;rw [hR] at this;exact this
 have C3:=hid fun u (hu:Bw w u)=>FZ p h u (hi.keep hu) hv.regs;have HI:=hid hi;have HVH:=hid hv;clear hi hv hvv hR hgk hh;generalize aj p h=A at *;go_enter Tryz.func26,Tryz.ntmps26;go_upto_region 1 with fail;generalize (w.alloc (Obj.cells A 43))=u0 at F |-;obtain ⟨f1,hz,nB⟩:=F;have H1:Hid _:=f1;clear f1;have J1:Hid _:=ez (P:=Tryz.prog) (T:=41) H1.out Tryz.underlying41 rfl (o:=12) (kA p h.k).toList kI KP.out rfl;rw [show (kA p h.k).toList.toArray=kA p h.k from rfl] at J1;generalize kA p h.k=KA at *;go_wp2_with (first | ((with_reducible refine aZ ?_ J1.out ?_);(exact rfl)));refine (C1.out u0 nB).mono ?_;rintro e u1 ⟨⟨gi,gd,gp,rfl,hrw⟩,k1⟩;have HRw:=hid hrw;have lB:=nB.size;replace nB:=bst nB k1;replace H1:=ah H1 k1;clear J1 k1 hrw;have l1:w.heap.size<u1.heap.size:=by have:=(hpl H1.out);exact this
 unfold iu;go_upto_region 2 with fail;have n2:Bw w (u1.alloc (Obj.cells #[VI h.k.i.sets,VI h.k.i.ways,SL gi h.k.i.es.length h.k.i.es.length,VI h.k.d.sets,VI h.k.d.ways,SL gd h.k.d.es.length h.k.d.es.length,VI h.k.p.sets,VI h.k.p.ways,SL gp h.k.p.es.length h.k.p.es.length] 93)):=nB.alloc nB.size _;have F2:=bX u1 #[VI h.k.i.sets,VI h.k.i.ways,SL gi h.k.i.es.length h.k.i.es.length,VI h.k.d.sets,VI h.k.d.ways,SL gd h.k.d.es.length h.k.d.es.length,VI h.k.p.sets,VI h.k.p.ways,SL gp h.k.p.es.length h.k.p.es.length] 93;have H2:Hid ((u1.alloc (Obj.cells #[VI h.k.i.sets,VI h.k.i.ways,SL gi h.k.i.es.length h.k.i.es.length,VI h.k.d.sets,VI h.k.d.ways,SL gd h.k.d.es.length h.k.d.es.length,VI h.k.p.sets,VI h.k.p.ways,SL gp h.k.p.es.length h.k.p.es.length] 93)).heap[w.heap.size]?=some (.cells A 43 (0,0))):=(zF u1 _ l1).trans H1.out;generalize u1.alloc (Obj.cells #[VI h.k.i.sets,VI h.k.i.ways,SL gi h.k.i.es.length h.k.i.es.length,VI h.k.d.sets,VI h.k.d.ways,SL gd h.k.d.es.length h.k.d.es.length,VI h.k.p.sets,VI h.k.p.ways,SL gp h.k.p.es.length h.k.p.es.length] 93)=u2 at n2 H2 F2 |-;obtain ⟨fc,fs,fb⟩:=F2;have R2:=hid (HRw.out.keep fb);have S2:=hid fc;clear fc fs fb HRw;have J2:Hid _:=aT (P:=Tryz.prog) (T:=43) H2.out Tryz.underlying43 rfl (by rw [SA.out];exact fm);go_wp2_with (first | ((with_reducible refine Dl ?_ ?_ J2.out ?_);(exact rfl);(exact rfl)));refine (C2.out u2 n2).mono ?_;rintro e u3 ⟨rfl,k3⟩;have R3:=hid (R2.out.keep k3);have S3:Hid _:=ah S2 k3;have H3:Hid _:=ah H2 k3;replace n2:=bst n2 k3;clear k3 H2 J2 S2 R2;go_upto_region 4 with fail;have HLa:=hid fun (u:World) (hu:u.heap[w.heap.size]?=some (.cells A 43 (0,0)))=>aT (P:=Tryz.prog) (T:=43) hu Tryz.underlying43 rfl (by rw [SA.out];exact fm);have HLs:=hid fun (u:World) (hu:u.heap[u1.heap.size]?=some (.cells (iu h.k gi gd gp) 93 (0,0)))=>aT (P:=Tryz.prog) (T:=93) hu Tryz.underlying93 rfl (by kernel_rfl);have hF:u3.drew.heap[w.heap.size]?=some (.cells A 43 (0,0))∧u3.drew.heap[u1.heap.size]?=some (.cells (iu h.k gi gd gp) 93 (0,0)):=⟨H3.out,S3.out⟩;refine az (fun v=>v.heap[w.heap.size]?=some (.cells A 43 (0,0))∧v.heap[u1.heap.size]?=some (.cells (iu h.k gi gd gp) 93 (0,0))) 3 ?_;refine ao 0 22 (.agg A) rfl hF ?_ (hy:=fun u hu=>aK rfl (HLa.out u hu.1))
 go_frame
 refine ao 2 24 (.agg (iu h.k gi gd gp)) rfl hF ?_ (hy:=fun u hu=>aK rfl (HLs.out u hu.2))
 go_frame
 have D3:=bdr u3;refine eF 1 23 rfl ((C3.out u3.drew (bst n2 D3)).mono ?_);rintro e u4 ⟨rfl,k4'⟩;have k4:=bst D3 k4';have n4:=bst n2 k4;have R4:=hid (R3.out.keep k4);have H4:Hid _:=ah H3 k4;have S4:Hid _:=ah S3 k4;refine .inl ⟨_,rfl,fun _=>⟨H4.out,S4.out⟩,?_⟩
 go_frame
 refine ji 3 25 (.agg (zP h gi gd gp)) (w':=u4) rfl (fun h=>by simp at h) ?_
 go_frame
 have F5:=bX u4 (zP h gi gd gp) 97;refine ji 4 26 (PT u4.heap.size 0) (w':=u4.alloc (Obj.cells (zP h gi gd gp) 97)) rfl (fun h=>by simp at h) ?_
 go_frame
 refine ji 5 8 (PT u4.heap.size 0) (w':=u4.alloc (Obj.cells (zP h gi gd gp) 97)) rfl (fun h=>by simp at h) ?_
 go_frame
 refine dJ ?_;obtain ⟨f5,z5,b5⟩:=F5;generalize u4.alloc (Obj.cells (zP h gi gd gp) 97)=u5 at f5 z5 b5 |-;have n5:=bst n4 b5;have R5:=hid (R4.out.keep b5);have H5:Hid _:=ah H4 b5;have M5:=hid f5;have l4:=(hpl H4.out);have CC:Hid _:=Ah p.am h.mem.length p.cm h.mem u5 (HI.out.mem.keep n5) hl;have c0:=ab H5.out 0 A0.out;have Z5:Hid _:=z5;have LI:Hid (gi<u4.heap.size∧gd<u4.heap.size∧gp<u4.heap.size):=⟨(db R4.out.1).2.2,(db R4.out.2.1).2.2,(db R4.out.2.2.1).2.2⟩;have LB:Hid (w.heap.size<=gi∧w.heap.size<=gd∧w.heap.size<=gp):=by
  have q1:=(db R4.out.1).2.1;have q2:=(db R4.out.2.1).2.1;have q3:=(db R4.out.2.2.1).2.1;simp only at q1 q2 q3;exact ⟨by omega,by omega,by omega⟩
 clear f5 z5 b5 R4 H4 S4 hF D3 k4 k4' n4 R3 S3 H3 n2 HLa HLs C1 C2 C3;go_wp2_with fail;refine Calls.mono CC.out ?_;rintro e u6 ⟨rfl,m6,b6⟩;have M6:Hid _:=ah M5 b6;have k18:=ab M6.out 18 (v:=SN) rfl;have f18:=ap M6.out 18;have G6:=hid m6;have R6:=hid (R5.out.keep b6);have n6:=bst n5 b6;clear m6 b6 c0 CC R5 H5 M5 n5;go_upto_region 6 with fail;have g7:=au (ak u6 (some u4.heap.size)) 18 (SL u5.heap.size h.mem.length h.mem.length);have M7:Hid _:=bB (v:=SL u5.heap.size h.mem.length h.mem.length) (i:=18) M6.out;generalize u6.setCell (AD u4.heap.size 18) (SL u5.heap.size h.mem.length h.mem.length)=u7 at g7 M7 |-;have hz5:=Z5.out;have hli:=LI.out;have G7:=hid (G6.out.gb g7 (by omega));have R7:Hid (RowsAt u7 u0.heap.size gi gd gp h.k):=⟨dM R6.out.1 g7 (by omega),dM R6.out.2.1 g7 (by omega),dM R6.out.2.2.1 g7 (by omega),R6.out.2.2.2⟩;have n7:Bw w u7:=⟨g7.os.trans n6.os,g7.tape.trans n6.tape,g7.output.trans n6.output,Nat.le_trans n6.size g7.size,fun i hi=>(g7.block i (ltl hi n6.size) (by simp;omega)).trans (n6.block i hi)⟩;have k29:=ab M7.out 29 (v:=.nilIface) rfl;have f29:=ap M7.out 29;clear hz5 hli g7 M6 G6 R6 n6 k18 f18;cases plain
 ·have CT:Hid _:=rR (AD u4.heap.size 20) u7;go_wp2_with fail;refine Calls.mono CT.out ?_;rintro e v7 ⟨rfl,hbx,b8⟩;have HBx:=hid hbx;have M8':Hid _:=ah M7 b8;have G8':=hid (G7.out.keep b8 G7.out.lt);have R8':=hid (R7.out.keep b8);have n8':=bst n7 b8;have L7:=hid G7.out.lt;replace k29:=ab M8'.out 29 (v:=.nilIface) rfl;replace f29:=ap M8'.out 29;clear hbx b8 CT;go_wp2_with fail;have g8:=au (ak v7 (some u4.heap.size)) 29 (.iface 209 (PT u7.heap.size 0));have M8:=bB (v:=(.iface 209 (PT u7.heap.size 0))) (i:=29) M8'.out;generalize v7.setCell (AD u4.heap.size 29) (.iface 209 (PT u7.heap.size 0))=u8 at g8 M8 |-;have hz5:=Z5.out;have hli:=LI.out;have hlb:=LB.out;have hl7:=L7.out;have G8:=G8'.out.gb g8 (by omega);have R8:RowsAt u8 u0.heap.size gi gd gp h.k:=⟨dM R8'.out.1 g8 (by omega),dM R8'.out.2.1 g8 (by omega),dM R8'.out.2.2.1 g8 (by omega),R8'.out.2.2.2⟩;have B8:=aA HBx.out g8 (show u7.heap.size≠u4.heap.size by omega);have n8:Bw w u8:=⟨g8.os.trans n8'.os,g8.tape.trans n8'.tape,g8.output.trans n8'.output,Nat.le_trans n8'.size g8.size,fun i hi=>(g8.block i (ltl hi n8'.size) (by simp;omega)).trans (n8'.block i hi)⟩;have q5:=G8.lt;have q7:=(hpl B8);refine bodyPost_ret (v:=.tuple #[PT u4.heap.size 0,.bool true]) (by simp [results,Tryz.results26,go_sem]) rfl ⟨⟨⟨u4.heap.size,u5.heap.size,gi,gd,gp,209,PT u7.heap.size 0⟩,fun i=>i=u4.heap.size∨i=u5.heap.size∨i=gi∨i=gd∨i=gp∨i=u7.heap.size,cX _ u7.heap.size,_,_,u0.heap.size,rfl,FT M8 G8 (.inl rfl) (.inr (.inl rfl)) (show u4.heap.size≠u5.heap.size by omega) ?_ ?_ ?_ HHk.out ?_,Path.cached _ u7.heap.size _ ⟨rfl,rfl,show u4.heap.size≠gi by omega,show u4.heap.size≠gd by omega,show u4.heap.size≠gp by omega,show u7.heap.size≠gi by omega,show u7.heap.size≠gd by omega,show u7.heap.size≠gp by omega⟩ (show u4.heap.size≠u7.heap.size by omega),⟨0,R8,B8⟩,?_,by omega,show u4.heap.size≠gi by omega,show u4.heap.size≠gd by omega,show u4.heap.size≠gp by omega⟩,n8⟩
  ·rintro (e | e | e | e) <;> (simp only at e;omega)
  ·rintro (e | e | e | e) <;> (simp only at e;omega)
  ·rintro i (e | e | e | e)
   ·exact .inr (.inr (.inl e))
   ·exact .inr (.inr (.inr (.inl e)))
   ·exact .inr (.inr (.inr (.inr (.inl e))))
   ·exact .inr (.inr (.inr (.inr (.inr e))))
  ·rintro i (e | e | e | e | e | e) <;> omega
  ·rintro i (e | e | e | e | e | e) <;> omega
 ·have CT:Hid _:=rQ (AD u4.heap.size 20) u7;go_wp2_with fail;refine Calls.mono CT.out ?_;rintro e u8 ⟨rfl,hu⟩;rw [hu];clear hu CT;go_wp2_with fail;have g8:=au (ak u7 (some u4.heap.size)) 29 (.iface 72 (.agg #[]));have M8:=bB (v:=(.iface 72 (.agg #[]))) (i:=29) M7.out;generalize u7.setCell (AD u4.heap.size 29) (.iface 72 (.agg #[]))=u8 at g8 M8 |-;have hz5:=Z5.out;have hli:=LI.out;have hlb:=LB.out;have G8:=G7.out.gb g8 (by omega);have R8:RowsAt u8 u0.heap.size gi gd gp h.k:=⟨dM R7.out.1 g8 (by omega),dM R7.out.2.1 g8 (by omega),dM R7.out.2.2.1 g8 (by omega),R7.out.2.2.2⟩;have n8:Bw w u8:=⟨g8.os.trans n7.os,g8.tape.trans n7.tape,g8.output.trans n7.output,Nat.le_trans n7.size g8.size,fun i hi=>(g8.block i (ltl hi n7.size) (by simp;omega)).trans (n7.block i hi)⟩;have q5:=G8.lt;refine bodyPost_ret (v:=.tuple #[PT u4.heap.size 0,.bool true]) (by simp [results,Tryz.results26,go_sem]) rfl ⟨⟨⟨u4.heap.size,u5.heap.size,gi,gd,gp,72,.agg #[]⟩,fun i=>i=u4.heap.size∨i=u5.heap.size∨i=gi∨i=gd∨i=gp,pX _,_,_,u0.heap.size,rfl,FT M8 G8 (.inl rfl) (.inr (.inl rfl)) (show u4.heap.size≠u5.heap.size by omega) ?_ ?_ ?_ HHk.out ?_,Path.plain _ _ rfl rfl,R8,?_,by omega,show u4.heap.size≠gi by omega,show u4.heap.size≠gd by omega,show u4.heap.size≠gp by omega⟩,n8⟩
  ·rintro (e | e | e) <;> (simp only at e;omega)
  ·rintro (e | e | e) <;> (simp only at e;omega)
  ·rintro i (e | e | e)
   ·exact .inr (.inr (.inl e))
   ·exact .inr (.inr (.inr (.inl e)))
   ·exact .inr (.inr (.inr (.inr e)))
  ·rintro i (e | e | e | e | e) <;> omega
  ·rintro i (e | e | e | e | e) <;> omega
end Go.Proofs.YtkenjknmfhoppaaGreat
