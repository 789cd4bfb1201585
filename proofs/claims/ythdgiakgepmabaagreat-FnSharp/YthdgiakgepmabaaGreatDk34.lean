import Derived.Test.YthdgiakgepmabaaGreatDk33
import Derived.Test.YthdgiakgepmabaaGreatDk18
import Derived.Test.YthdgiakgepmabaaGreatDk29
namespace Go.Proofs.YthdgiakgepmabaaGreat
open Go.RowKit
set_option linter.unusedVariables false
set_option maxHeartbeats 6400000
set_option maxRecDepth 20000
theorem HartIn.row {w:World} {p:PtrM} {h:HartM} (k:HartIn w p h):HartR w p h∧h.k.i.es.length<=1048576∧h.k.d.es.length<=1048576∧h.k.p.es.length<=1048576:=by
 obtain ⟨a1,c1,a2,c2,a3,c3,he,t1,t2,t3⟩:=k.ks;simp only [kA,Value.agg.injEq,Array.mk.injEq,List.cons.injEq,Value.slice.injEq,true_and,and_true] at he;obtain ⟨⟨rfl,rfl⟩,⟨rfl,rfl⟩,rfl,rfl⟩:=he;exact ⟨⟨k.mem,k.regs,t1.row.1,t2.row.1,t3.row.1⟩,t1.row.2,t2.row.2,t3.row.2⟩
theorem ql (zs:List Int):(bE zs).length<=20000:=by
 simp only [bE,List.length_map,List.length_range,iU];omega
structure ScrO (base:Nat) (v:World) (p:PtrM) (h:HartM) (pa:Option Addr) (pc:Nat) (ps:List Int):Prop where
 hart:HartO base v p h (eh h.mem) (cW h.regs) (co h.k.i.es) (co h.k.d.es) (co h.k.p.es)
 pick:v.ownsRow base 2 1 (.slice pa ps.length pc) ps.length (cL ps)
theorem ScrO.keep {base:Nat} {v v':World} {p:PtrM} {h:HartM} {pa:Option Addr} {pc:Nat} {ps:List Int} (k:ScrO base v p h pa pc ps) (hb:Bw v v'):ScrO base v' p h pa pc ps:=
 ⟨k.hart.keep hb,aq k.pick hb⟩
theorem ScrO.gb {base r:Nat} {v v':World} {p:PtrM} {h:HartM} {pa:Option Addr} {pc:Nat} {ps:List Int} (k:ScrO base v p h pa pc ps) (hg:v.grownBy v' (some r)) (hr:r<base):ScrO base v' p h pa pc ps:=
 ⟨k.hart.gb hg hr,aE k.pick hg hr⟩
theorem ScrO.low {base:Nat} {v:World} {p:PtrM} {h:HartM} {pa:Option Addr} {pc:Nat} {ps:List Int} (k:ScrO base v p h pa pc ps):∀g,srq p h pa pc ps g->base<=g:=by
 rintro g (h1 | h1)
 ·exact (k.hart.low g h1).1
 ·exact (k.pick.lt g h1).1
theorem ScrO.box {base pb:Nat} {v:World} {p:PtrM} {h:HartM} {pa:Option Addr} {pc:Nat} {ps:List Int} {cur:Array Value} {q:Nat × Nat} (k:ScrO base v p h pa pc ps) (hp:v.heap[pb]?=some (.cells cur 47 q)):¬srq p h pa pc ps pb:=by
 rintro (h1 | h1)
 ·exact k.hart.box_ne hp (by decide) (by decide) (by decide) h1
 ·exact bY k.pick hp (by decide) h1
theorem DecOwn.own {w v:World} {h:HartM} {ps:List Int} {e:Ending} (d:DecOwn w h ps e v):(∃p pa pc,e=.returned (.agg (cy p pa pc h ps))∧ScrO w.heap.size v p h pa pc ps)∧Bw w v:=by
 obtain ⟨⟨g1,c1,g2,c2,g3,c3,gm,cm,gr,cr,gp,cp,rfl,o1,o2,o3,om,oR,op,n12,n13,n23⟩,n⟩:=d;refine ⟨⟨_,_,_,rfl,⟨om,oR,o1,o2,o3,?_,?_,?_⟩,op⟩,n⟩
 ·intro g h1 h2;exact n12 (Option.some.inj (h1.trans h2.symm))
 ·intro g h1 h2;exact n13 (Option.some.inj (h1.trans h2.symm))
 ·intro g h1 h2;exact n23 (Option.some.inj (h1.trans h2.symm))
theorem AT {base size n c:Nat} {e:TypeId} {w:World} {a:Option Addr} {cs:List Value} (h:w.ownsRow base e size (.slice a n c) n cs):n<=c∧c<=9223372036854775807:=by
 rcases h.2 with ⟨h1,h2⟩ | ⟨g,cap,cur,h1,_,_,h2,h3,_⟩
 ·simp only [Value.slice.injEq] at h1;omega
 ·simp only [Value.slice.injEq] at h1;unfold maxLen at h3;omega
theorem HartO.hin {base:Nat} {w:World} {p:PtrM} {h:HartM} (k:HartO base w p h (eh h.mem) (cW h.regs) (co h.k.i.es) (co h.k.d.es) (co h.k.p.es)) (hz:∀i:Nat,0<=h.mem[i]?.getD 0∧h.mem[i]?.getD 0<=255) (hk:kOk h.k):HartIn w p h:=by
 have r:=k.read hz;refine ⟨r.mem,AT k.mem,r.regs,AT k.regs,?_,⟨_,_,_,_,_,_,rfl,ji k.r1 hk.1,ji k.r2 hk.2.1,ji k.r3 hk.2.2⟩,?_⟩
 ·rcases pL k.regs with ⟨h1,h2,_⟩ | ⟨g,cap,h1⟩
  ·simp only [Value.slice.injEq] at h1;exact ⟨fun _=>⟨h2,h1.2.2⟩,fun q hq=>by rw [h1.1] at hq;cases hq⟩
  ·simp only [Value.slice.injEq] at h1;exact ⟨fun hq=>(by rw [h1.1] at hq;cases hq),fun q hq=>(by rw [h1.1] at hq;cases hq;rfl)⟩
 ·intro q hq;simp only [be,List.mem_cons,List.not_mem_nil,or_false] at hq;rcases hq with hq | hq | hq | hq | hq
  ·exact (dG k.mem q hq.symm).2
  ·exact (dG k.regs q hq.symm).2
  ·exact (dG k.r1 q hq.symm).2
  ·exact (dG k.r2 q hq.symm).2
  ·exact (dG k.r3 q hq.symm).2
section
attribute [local go_sem ↓] Go.wp_at_zero Go.wp_at_succ
theorem yC (p:PtrM) (h:HartM) (w:World) (hi:HartIn w p h) (hl:h.mem.length<=1048576) (s0:0<=h.satp) (s1:h.satp<=18446744073709551615) (t0:0<=h.tvec) (h8:h.regs.length=8):
 Calls Tryz.prog 52 #[.agg (ak p h)] w fun e w'=>e=.returned (.bool (ez h.mem.length && iB h))∧Bw w w':=by
 have F:=bF w (ak p h) 44;have A0:Hid ((ak p h)[0]?=some (.slice p.am h.mem.length p.cm)):=by show _=_;rfl
 have A1:Hid ((ak p h)[1]?=some (.slice p.ar h.regs.length p.cr)):=by show _=_;rfl
 have A3:Hid ((ak p h)[3]?=some (VI h.mode)):=by show _=_;rfl
 have A6:Hid ((ak p h)[6]?=some (VU h.satp)):=by show _=_;rfl
 have A7:Hid ((ak p h)[7]?=some (VU h.tvec)):=by show _=_;rfl
 have A9:Hid ((ak p h)[9]?=some (VI h.emode)):=by show _=_;rfl
 have A10:Hid ((ak p h)[10]?=some (VI h.cause)):=by show _=_;rfl
 obtain ⟨R,hR⟩:∃R,(ez h.mem.length && iB h)=R:=⟨_,rfl⟩;have HF:=hid fun (hr:R=true)=>(oK h).1 (hR.trans hr);have HT:=hid fun (h1:pN h)=>hR.symm.trans ((oK h).2 h1);unfold pN at HF HT;rw [hR];have P1:=hid fun u=>mU h.mem.length u hl;have P2:=hid fun m u=>ja m u;have P3:=hid fun u=>gO h.satp u s0 s1;obtain ⟨rb,ro,hra,rlt,rc⟩:=Bc hi.regs h8;have g8:(h.regs.length:Int)=8:=by omega
 rw [hra] at A1;clear hi hR h8;generalize ak p h=A at *;generalize h.mem.length=n at *;generalize h.regs.length=m at *;generalize h.regs[0]?.getD 0=r0 at *;go_enter Tryz.func52,Tryz.ntmps52;go_upto_region 1 with fail;generalize (w.alloc (Obj.cells A 44))=u0 at F |-;obtain ⟨f1,hz,nB⟩:=F;have H1:Hid _:=f1;clear f1;have m8:m=8:=by omega
 subst m8;have x0:=(nB.cell (by exact rlt)).trans rc;clear rc;have c0:=ab H1.out 0 A0.out;have c1:=ab H1.out 1 A1.out;have c3:=ab H1.out 3 A3.out;have c6:=ab H1.out 6 A6.out;have c7:=ab H1.out 7 A7.out;have c9:=ab H1.out 9 A9.out;have c10:=ab H1.out 10 A10.out;go_wp2_with fail;refine (P1.out u0).mono ?_;rintro e _ ⟨rfl,rfl⟩;by_cases hzz:(n:Int)%64=0∧64<=(n:Int)∧(n:Int)<=4096
 rotate_left 1
 ·rw [show ez n=false from (by unfold ez;exact decide_eq_false (by omega))];go_wp2_with fail
  any_goals (
   go_ret;refine ⟨?_,nB⟩;have hq:R=false:=(by
    cases R with
    | false=>rfl
    | true=>
     obtain ⟨⟨q1,q2,q3⟩,q4,q5,⟨q6,q7⟩,⟨q8,q9⟩,q10,q11,⟨q12,q13⟩⟩:=HF.out rfl;first
     | (exfalso;omega)
     | (simp_all))
   subst hq;exact rfl)
 rw [show ez n=true from (by unfold ez;exact decide_eq_true (by omega))];by_cases hr0:r0=0
 rotate_left 1
 ·have dr:(r0 != 0)=true:=by simpa using hr0
  go_wp2_with fail
  any_goals (
   go_ret;refine ⟨?_,nB⟩;have hq:R=false:=(by
    cases R with
    | false=>rfl
    | true=>
     obtain ⟨⟨q1,q2,q3⟩,q4,q5,⟨q6,q7⟩,⟨q8,q9⟩,q10,q11,⟨q12,q13⟩⟩:=HF.out rfl;first
     | (exfalso;omega)
     | (simp_all))
   subst hq;exact rfl)
 subst hr0;go_wp2_with fail;refine (P2.out h.mode _).mono ?_;rintro e _ ⟨rfl,rfl⟩;by_cases hm:0<=h.mode∧h.mode<=2
 rotate_left 1
 ·rw [decide_eq_false hm];go_wp2_with fail
  any_goals (
   go_ret;refine ⟨?_,nB⟩;have hq:R=false:=(by
    cases R with
    | false=>rfl
    | true=>
     obtain ⟨⟨q1,q2,q3⟩,q4,q5,⟨q6,q7⟩,⟨q8,q9⟩,q10,q11,⟨q12,q13⟩⟩:=HF.out rfl;first
     | (exfalso;omega)
     | (simp_all))
   subst hq;exact rfl)
 rw [decide_eq_true hm];have HM:Hid _:=hm;clear hm;go_wp2_with fail;refine (P2.out h.emode _).mono ?_;rintro e _ ⟨rfl,rfl⟩;by_cases he:0<=h.emode∧h.emode<=2
 rotate_left 1
 ·rw [decide_eq_false he];go_wp2_with fail
  any_goals (
   go_ret;refine ⟨?_,nB⟩;have hq:R=false:=(by
    cases R with
    | false=>rfl
    | true=>
     obtain ⟨⟨q1,q2,q3⟩,q4,q5,⟨q6,q7⟩,⟨q8,q9⟩,q10,q11,⟨q12,q13⟩⟩:=HF.out rfl;first
     | (exfalso;omega)
     | (simp_all))
   subst hq;exact rfl)
 rw [decide_eq_true he];have HE:Hid _:=he;clear he;go_wp2_with fail
 any_goals (
  go_ret;refine ⟨?_,nB⟩;have hq:R=false:=(by
   cases R with
   | false=>rfl
   | true=>
    obtain ⟨⟨q1,q2,q3⟩,q4,q5,⟨q6,q7⟩,⟨q8,q9⟩,q10,q11,⟨q12,q13⟩⟩:=HF.out rfl;first
    | (exfalso;omega)
    | (simp_all))
  subst hq;exact rfl)
 refine (P3.out _).mono ?_;rintro e _ ⟨rfl,rfl⟩;rcases Bool.eq_false_or_eq_true (de h.satp) with hs | hs
 rotate_left 1
 ·rw [hs];go_wp2_with fail
  any_goals (
   go_ret;refine ⟨?_,nB⟩;have hq:R=false:=(by
    cases R with
    | false=>rfl
    | true=>
     obtain ⟨⟨q1,q2,q3⟩,q4,q5,⟨q6,q7⟩,⟨q8,q9⟩,q10,q11,⟨q12,q13⟩⟩:=HF.out rfl;first
     | (exfalso;omega)
     | (simp_all))
   subst hq;exact rfl)
 rw [hs];have HS:Hid _:=hs;clear hs;by_cases h4:h.tvec%4=0
 ·have hq:=HT.out ⟨hzz,by first | trivial | rfl | omega,by first | trivial | rfl | omega,HM.out,HE.out,HS.out,h4,⟨by omega,by omega⟩⟩;subst hq;go_wp2;go_ret;exact ⟨rfl,nB⟩
 ·have hq:R=false:=(by
   cases R with
   | false=>rfl
   | true=>
    obtain ⟨⟨q1,q2,q3⟩,q4,q5,⟨q6,q7⟩,⟨q8,q9⟩,q10,q11,⟨q12,q13⟩⟩:=HF.out rfl;exfalso;omega)
  subst hq;have d4:(h.tvec%4 == 0)=false:=by simpa using h4
  go_wp2;go_ret;exact ⟨rfl,nB⟩
theorem yD (p:PtrM) (h:HartM) (w:World) (hi:HartIn w p h) (hl:h.mem.length<=1048576) (s0:0<=h.satp) (s1:h.satp<=18446744073709551615) (t0:0<=h.tvec) (h8:¬h.regs.length=8):
 Calls Tryz.prog 52 #[.agg (ak p h)] w fun e w'=>e=.returned (.bool (ez h.mem.length && iB h))∧Bw w w':=by
 have F:=bF w (ak p h) 44;have A0:Hid ((ak p h)[0]?=some (.slice p.am h.mem.length p.cm)):=by show _=_;rfl
 have A1:Hid ((ak p h)[1]?=some (.slice p.ar h.regs.length p.cr)):=by show _=_;rfl
 have A3:Hid ((ak p h)[3]?=some (VI h.mode)):=by show _=_;rfl
 have A6:Hid ((ak p h)[6]?=some (VU h.satp)):=by show _=_;rfl
 have A7:Hid ((ak p h)[7]?=some (VU h.tvec)):=by show _=_;rfl
 have A9:Hid ((ak p h)[9]?=some (VI h.emode)):=by show _=_;rfl
 have A10:Hid ((ak p h)[10]?=some (VI h.cause)):=by show _=_;rfl
 obtain ⟨R,hR⟩:∃R,(ez h.mem.length && iB h)=R:=⟨_,rfl⟩;have HF:=hid fun (hr:R=true)=>(oK h).1 (hR.trans hr);have HT:=hid fun (h1:pN h)=>hR.symm.trans ((oK h).2 h1);unfold pN at HF HT;rw [hR];have P1:=hid fun u=>mU h.mem.length u hl;have P2:=hid fun m u=>ja m u;have P3:=hid fun u=>gO h.satp u s0 s1;have g8:¬(h.regs.length:Int)=8:=by omega
 clear hi hR h8;generalize ak p h=A at *;generalize h.mem.length=n at *;generalize h.regs.length=m at *;generalize h.regs[0]?.getD 0=r0 at *;go_enter Tryz.func52,Tryz.ntmps52;go_upto_region 1 with fail;generalize (w.alloc (Obj.cells A 44))=u0 at F |-;obtain ⟨f1,hz,nB⟩:=F;have H1:Hid _:=f1;clear f1;have c0:=ab H1.out 0 A0.out;have c1:=ab H1.out 1 A1.out;have c3:=ab H1.out 3 A3.out;have c6:=ab H1.out 6 A6.out;have c7:=ab H1.out 7 A7.out;have c9:=ab H1.out 9 A9.out;have c10:=ab H1.out 10 A10.out;go_wp2_with fail;refine (P1.out u0).mono ?_;rintro e _ ⟨rfl,rfl⟩;by_cases hzz:(n:Int)%64=0∧64<=(n:Int)∧(n:Int)<=4096
 rotate_left 1
 ·rw [show ez n=false from (by unfold ez;exact decide_eq_false (by omega))];go_wp2_with fail
  any_goals (
   go_ret;refine ⟨?_,nB⟩;have hq:R=false:=(by
    cases R with
    | false=>rfl
    | true=>
     obtain ⟨⟨q1,q2,q3⟩,q4,q5,⟨q6,q7⟩,⟨q8,q9⟩,q10,q11,⟨q12,q13⟩⟩:=HF.out rfl;first
     | (exfalso;omega)
     | (simp_all))
   subst hq;exact rfl)
 rw [show ez n=true from (by unfold ez;exact decide_eq_true (by omega))];go_wp2_with fail
 any_goals (
  go_ret;refine ⟨?_,nB⟩;have hq:R=false:=(by
   cases R with
   | false=>rfl
   | true=>
    obtain ⟨⟨q1,q2,q3⟩,q4,q5,⟨q6,q7⟩,⟨q8,q9⟩,q10,q11,⟨q12,q13⟩⟩:=HF.out rfl;first
    | (exfalso;omega)
    | (simp_all))
  subst hq;exact rfl)
theorem tO (p:PtrM) (h:HartM) (w:World) (hi:HartIn w p h) (hl:h.mem.length<=1048576) (s0:0<=h.satp) (s1:h.satp<=18446744073709551615) (t0:0<=h.tvec):
 Calls Tryz.prog 52 #[.agg (ak p h)] w fun e w'=>e=.returned (.bool (ez h.mem.length && iB h))∧Bw w w':=by
 by_cases h8:h.regs.length=8
 ·exact yC p h w hi hl s0 s1 t0 h8
 ·exact yD p h w hi hl s0 s1 t0 h8
end
theorem qW (c:Addr) (w:World):Calls Tryz.prog 55 #[.bool true,.pointer (some c)] w fun e w'=>e=.returned (.iface 65 (.agg #[]))∧w'=w:=by
 go_enter Tryz.func55,Tryz.ntmps55;go_wp2;go_ret;exact ⟨rfl,rfl⟩
theorem qX (c:Addr) (w:World):Calls Tryz.prog 55 #[.bool false,.pointer (some c)] w fun e w'=>e=.returned (.iface 180 (PT w.heap.size 0))∧w'.heap[w.heap.size]?=some (.cells #[.pointer (some c),VI 0] 182 (0,0))∧Bw w w':=by
 have F:=bF w #[.pointer (some c),VI 0] 182;go_enter Tryz.func55,Tryz.ntmps55;go_wp2;go_ret;exact ⟨rfl,F.1,F.2.2⟩
theorem Ei (qb qo c:Nat) (w:World):(Instr.arrayAt 72 (.slice (some (AD qb qo)) 8 c)).run Tryz.prog w=.ok (PT qb qo) w:=by kernel_rfl
theorem Ej (p:PtrM) (h:HartM) (w:World) (hi:HartIn w p h) (h8:h.regs.length=8):
 Calls Tryz.prog 53 #[.agg (ak p h)] w fun e w'=>e=.returned (.agg (gy h))∧Bw w w':=by
 have F:=jW w (ak p h) #[VU 0,VU 0,VU 0,VU 0,VU 0,VU 0,VU 0,VU 0,VU 0,VI 0,.bool false,.bool false,VU 0,VU 0,VU 0,VI 0,VI 0,VU 0] 44 74;have HR:Hid _:=hi.regs;obtain ⟨q,hq⟩:∃q,p.ar=some q:=by
  cases e:p.ar with
  | none=>have:=(hi.rega.1 e).1;omega
  | some q=>exact ⟨q,rfl⟩
 have hql:=hi.low q (by simp [be,hq]);have hqs:=hi.rega.2 q hq;obtain ⟨qb,qo,qs⟩:=q;simp only at hqs hql;subst hqs;have HRw:Hid (∀u,Bw w u->∀i:Nat,i<8->u.cell? ⟨qb,qo+i,none⟩=some (VU (h.regs[i]?.getD 0))):=fun u hu i hlt=>by
  rcases (hi.regs.keep hu).2 with h0 | ⟨b,off,e,_,hc⟩
  ·omega
  ·rw [hq] at e;cases e;refine hc i _ ?_;unfold cW;rw [List.getElem?_map,geg (by omega)];rfl
 clear hi HR;unfold ak at F |-;rw [hq,h8] at F |-;have ha:=Ei qb qo p.cr;go_enter Tryz.func53,Tryz.ntmps53;go_upto_region 1 with fail;generalize (w.alloc _).alloc _=v1 at F |-;obtain ⟨f1,f2,f3,n1⟩:=F;have D:Bw w v1.drew:=bst n1 (brf).drew;have e1:v1.drew.heap[w.heap.size]?=_:=f1;have e2:v1.drew.heap[w.heap.size+1]?=_:=f2;have RW:∀i:Nat,i<8->v1.drew.cell? ⟨qb,qo+i,none⟩=some (VU (h.regs[i]?.getD 0)):=fun i hi=>HRw.out v1.drew D i hi;have c1:=ab e1 1 (v:=.slice (some (AD qb qo)) 8 p.cr) rfl;have c2:=ab e1 2 (v:=VU h.pc) rfl;have c3:=ab e1 3 (v:=VI h.mode) rfl;have c4:=ab e1 4 (v:=.bool h.sum) rfl;have c5:=ab e1 5 (v:=.bool h.mxr) rfl;have c6:=ab e1 6 (v:=VU h.satp) rfl;have c7:=ab e1 7 (v:=VU h.tvec) rfl;have c8:=ab e1 8 (v:=VU h.epc) rfl;have c9:=ab e1 9 (v:=VI h.emode) rfl;have c10:=ab e1 10 (v:=VI h.cause) rfl;have c11:=ab e1 11 (v:=VU h.tval) rfl;have r0:v1.drew.cell? (AD qb qo)=some (VU (h.regs[0]?.getD 0)):=RW 0 (by omega);have r1:=RW 1 (by omega);have r2:=RW 2 (by omega);have r3:=RW 3 (by omega);have r4:=RW 4 (by omega);have r5:=RW 5 (by omega);have r6:=RW 6 (by omega);have r7:=RW 7 (by omega);obtain ⟨x0,hx0⟩:∃x,h.regs[0]?.getD 0=x:=⟨_,rfl⟩;rw [hx0] at r0;obtain ⟨x1,hx1⟩:∃x,h.regs[1]?.getD 0=x:=⟨_,rfl⟩;rw [hx1] at r1;obtain ⟨x2,hx2⟩:∃x,h.regs[2]?.getD 0=x:=⟨_,rfl⟩;rw [hx2] at r2;obtain ⟨x3,hx3⟩:∃x,h.regs[3]?.getD 0=x:=⟨_,rfl⟩;rw [hx3] at r3;obtain ⟨x4,hx4⟩:∃x,h.regs[4]?.getD 0=x:=⟨_,rfl⟩;rw [hx4] at r4;obtain ⟨x5,hx5⟩:∃x,h.regs[5]?.getD 0=x:=⟨_,rfl⟩;rw [hx5] at r5;obtain ⟨x6,hx6⟩:∃x,h.regs[6]?.getD 0=x:=⟨_,rfl⟩;rw [hx6] at r6;obtain ⟨x7,hx7⟩:∃x,h.regs[7]?.getD 0=x:=⟨_,rfl⟩;rw [hx7] at r7;have HCA:Hid (gy h=#[VU x0,VU x1,VU x2,VU x3,VU x4,VU x5,VU x6,VU x7,VU h.pc,VI h.mode,.bool h.sum,.bool h.mxr,VU h.satp,VU h.tvec,VU h.epc,VI h.emode,VI h.cause,VU h.tval]):=by
  show _=_;unfold gy;rw [hx0,hx1,hx2,hx3,hx4,hx5,hx6,hx7]
 have HE2:Hid _:=e2;have HD:Hid (Bw w v1.drew):=D;clear f1 f2 f3 n1 D e1 e2 RW hx0 hx1 hx2 hx3 hx4 hx5 hx6 hx7 HRw h8 hq;refine dl 25 (by kernel_rfl) (by kernel_rfl) ?_;simp only [List.take_succ_cons,List.take_zero,List.drop_succ_cons,List.drop_zero];generalize v1.drew=u at *;repeat still_step
 refine wpStill_nil ?_;have HS:Hid _:=aR (P:=Tryz.prog) (T:=74) (V:=#[VU x0,VU x1,VU x2,VU x3,VU x4,VU x5,VU x6,VU x7,VU h.pc,VI h.mode,.bool h.sum,.bool h.mxr,VU h.satp,VU h.tvec,VU h.epc,VI h.emode,VI h.cause,VU h.tval]) HE2.out AO rfl (by simp [Value.oneCell']);have HB:=aI (V:=#[VU x0,VU x1,VU x2,VU x3,VU x4,VU x5,VU x6,VU x7,VU h.pc,VI h.mode,.bool h.sum,.bool h.mxr,VU h.satp,VU h.tvec,VU h.epc,VI h.emode,VI h.cause,VU h.tval]) HE2.out rfl;have HN:Hid _:=aK (show w.heap.size<=w.heap.size+1 by omega) (#[VU x0,VU x1,VU x2,VU x3,VU x4,VU x5,VU x6,VU x7,VU h.pc,VI h.mode,.bool h.sum,.bool h.mxr,VU h.satp,VU h.tvec,VU h.epc,VI h.emode,VI h.cause,VU h.tval]:Array Value).toList 0 _ HD.out;have HW:Hid _:=bC (P:=Tryz.prog) HB Tryz.underlying74 rfl AO;obtain ⟨CA,hCA⟩:∃CA:Array Value,#[VU x0,VU x1,VU x2,VU x3,VU x4,VU x5,VU x6,VU x7,VU h.pc,VI h.mode,.bool h.sum,.bool h.mxr,VU h.satp,VU h.tvec,VU h.epc,VI h.emode,VI h.cause,VU h.tval]=CA:=⟨_,rfl⟩;rw [hCA] at HS HB HN HW HCA |-;clear hCA r0 r1 r2 r3 r4 r5 r6 r7 c1 c2 c3 c4 c5 c6 c7 c8 c9 c10 c11;go_wp2_with ((with_reducible refine az ?_ ?_ HS.out ?_);(exact rfl);(exact rfl));refine dE (b:=w.heap.size+1) Tryz.results53 rfl HW.out rfl ?_;exact ⟨by rw [HCA.out],HN.out⟩
def yG (h:HartM) (gi gd gp:Nat):Array Value:=#[VU (h.regs[0]?.getD 0),VU (h.regs[1]?.getD 0),VU (h.regs[2]?.getD 0),VU (h.regs[3]?.getD 0),VU (h.regs[4]?.getD 0),VU (h.regs[5]?.getD 0),VU (h.regs[6]?.getD 0),VU (h.regs[7]?.getD 0),
 VU h.pc,VI h.mode,.bool h.sum,.bool h.mxr,VU h.satp,VU h.tvec,VU h.epc,VI h.emode,VI h.cause,VU h.tval,SN,SN,
 VI h.k.i.sets,VI h.k.i.ways,SL gi h.k.i.es.length h.k.i.es.length,VI h.k.d.sets,VI h.k.d.ways,SL gd h.k.d.es.length h.k.d.es.length,VI h.k.p.sets,VI h.k.p.ways,SL gp h.k.p.es.length h.k.p.es.length,.nilIface]
theorem Ed {w:World} {O X:Nat->Prop} {m:MP} {h:HartM} (hb:w.heap[m.b]?=some (.cells (cJ h m.gm (SN) m.gi m.gd m.gp m.pv) 90 (0,0))) (hm:Blk 5 w m.gm h.mem) (ob:O m.b) (om:O m.gm) (bm:m.b≠m.gm) (xb:¬X m.b) (xm:¬X m.gm) (xo:∀i,X i->O i) (hh:HOk h) (obd:∀i,O i->i<w.heap.size):MW w O X m (SN) h []:=by
 have hs:=hh.v.size;simp only [ez,decide_eq_true_eq] at hs;exact ⟨hb,hm,⟨rfl,.inl ⟨rfl,rfl⟩⟩,ob,om,fun g e=>by simp [Value.ownBlock] at e,bm,xb,xm,fun i hi=>⟨xo i hi,obd i (xo i hi)⟩,hh.mem,hs.2.2,hh.v.regs,Nat.zero_le _,⟨0,0,none,rfl⟩,obd,fun o ho=>by simp at ho⟩
def G9 (plain:Bool) (h:HartM) (w:World) (e:Ending) (w':World):Prop:=
 ∃m O X PI PA base,e=.returned (.tuple #[PT m.b 0,.bool true])∧MW w' O X m (SN) h []∧Path m plain base X PI PA∧PI h.k w'∧(∀i,O i->w.heap.size<=i)∧w.heap.size<=base∧m.b≠m.gi∧m.b≠m.gd∧m.b≠m.gp
theorem pC (plain:Bool) (p:PtrM) (h:HartM) (w:World) (hi:HartIn w p h) (hl:h.mem.length<=1048576) (s0:0<=h.satp) (s1:h.satp<=18446744073709551615) (t0:0<=h.tvec) (hh:HOk h):
 Calls Tryz.prog 18 #[.agg (ak p h),.bool plain] w fun e w'=>G9 plain h w e w'∧Bw w w':=by
 have F:=bF w (ak p h) 44;have KP:Hid (((ak p h).toList.drop 12).take 9=(kA p h.k).toList):=by show _=_;rfl
 have SA:Hid ((ak p h).size=21):=rfl;have A0:Hid ((ak p h)[0]?=some (.slice p.am h.mem.length p.cm)):=by show _=_;rfl
 have hv:=hh.v;have HHk:=hid hh;have hgk:=hv.ks;have hvv:=(dQ h).2 hv;have hR:(ez h.mem.length && iB h)=true:=by
  have:=hvv;unfold rn at this;rw [hgk,Bool.and_true] at this;exact this
 have C1:Hid (∀u,Bw w u->Calls Tryz.prog 51 #[.agg (kA p h.k)] u fun e w'=>Cx u.heap.size w' e h.k∧Bw u w'):=fun u hu=>by
  have:=rx _ h.k u (hi.ks.keep hu);rw [hgk] at this;exact this
 have C2:Hid (∀u,Bw w u->Calls Tryz.prog 52 #[.agg (ak p h)] u fun e w'=>e=.returned (.bool true)∧Bw u w'):=fun u hu=>by
  have:=tO p h u (hi.keep hu) hl s0 s1 t0;rw [hR] at this;exact this
 have C3:=hid fun u (hu:Bw w u)=>Ej p h u (hi.keep hu) hv.regs;have HI:=hid hi;have HVH:=hid hv;clear hi hv hvv hR hgk hh;generalize ak p h=A at *;go_enter Tryz.func18,Tryz.ntmps18;go_upto_region 1 with fail;generalize (w.alloc (Obj.cells A 44))=u0 at F |-;obtain ⟨f1,hz,nB⟩:=F;have H1:Hid _:=f1;clear f1;have J1:Hid _:=eA (P:=Tryz.prog) (T:=42) H1.out Tryz.underlying42 rfl (o:=12) (kA p h.k).toList kI KP.out rfl;rw [show (kA p h.k).toList.toArray=kA p h.k from rfl] at J1;generalize kA p h.k=KA at *;go_wp2_with (first | ((with_reducible refine bj ?_ J1.out ?_);(exact rfl)));refine (C1.out u0 nB).mono ?_;rintro e u1 ⟨⟨gi,gd,gp,rfl,hrw⟩,k1⟩;have HRw:=hid hrw;have lB:=nB.size;replace nB:=bst nB k1;replace H1:=ah H1 k1;clear J1 k1 hrw;have l1:w.heap.size<u1.heap.size:=by have:=(hpl H1.out);exact this
 unfold gX;go_upto_region 2 with fail;have n2:Bw w (u1.alloc (Obj.cells #[VI h.k.i.sets,VI h.k.i.ways,SL gi h.k.i.es.length h.k.i.es.length,VI h.k.d.sets,VI h.k.d.ways,SL gd h.k.d.es.length h.k.d.es.length,VI h.k.p.sets,VI h.k.p.ways,SL gp h.k.p.es.length h.k.p.es.length] 86)):=nB.alloc nB.size _;have F2:=bF u1 #[VI h.k.i.sets,VI h.k.i.ways,SL gi h.k.i.es.length h.k.i.es.length,VI h.k.d.sets,VI h.k.d.ways,SL gd h.k.d.es.length h.k.d.es.length,VI h.k.p.sets,VI h.k.p.ways,SL gp h.k.p.es.length h.k.p.es.length] 86;have H2:Hid ((u1.alloc (Obj.cells #[VI h.k.i.sets,VI h.k.i.ways,SL gi h.k.i.es.length h.k.i.es.length,VI h.k.d.sets,VI h.k.d.ways,SL gd h.k.d.es.length h.k.d.es.length,VI h.k.p.sets,VI h.k.p.ways,SL gp h.k.p.es.length h.k.p.es.length] 86)).heap[w.heap.size]?=some (.cells A 44 (0,0))):=(yw u1 _ l1).trans H1.out;generalize u1.alloc (Obj.cells #[VI h.k.i.sets,VI h.k.i.ways,SL gi h.k.i.es.length h.k.i.es.length,VI h.k.d.sets,VI h.k.d.ways,SL gd h.k.d.es.length h.k.d.es.length,VI h.k.p.sets,VI h.k.p.ways,SL gp h.k.p.es.length h.k.p.es.length] 86)=u2 at n2 H2 F2 |-;obtain ⟨fc,fs,fb⟩:=F2;have R2:=hid (HRw.out.keep fb);have S2:=hid fc;clear fc fs fb HRw;have J2:Hid _:=aW (P:=Tryz.prog) (T:=44) H2.out Tryz.underlying44 rfl (by rw [SA.out];exact fy);go_wp2_with (first | ((with_reducible refine Bz ?_ ?_ J2.out ?_);(exact rfl);(exact rfl)));refine (C2.out u2 n2).mono ?_;rintro e u3 ⟨rfl,k3⟩;have R3:=hid (R2.out.keep k3);have S3:Hid _:=ah S2 k3;have H3:Hid _:=ah H2 k3;replace n2:=bst n2 k3;clear k3 H2 J2 S2 R2;go_upto_region 4 with fail;have HLa:=hid fun (u:World) (hu:u.heap[w.heap.size]?=some (.cells A 44 (0,0)))=>aW (P:=Tryz.prog) (T:=44) hu Tryz.underlying44 rfl (by rw [SA.out];exact fy);have HLs:=hid fun (u:World) (hu:u.heap[u1.heap.size]?=some (.cells (gX h.k gi gd gp) 86 (0,0)))=>aW (P:=Tryz.prog) (T:=86) hu Tryz.underlying86 rfl (by kernel_rfl);have hF:u3.drew.heap[w.heap.size]?=some (.cells A 44 (0,0))∧u3.drew.heap[u1.heap.size]?=some (.cells (gX h.k gi gd gp) 86 (0,0)):=⟨H3.out,S3.out⟩;refine ax (fun v=>v.heap[w.heap.size]?=some (.cells A 44 (0,0))∧v.heap[u1.heap.size]?=some (.cells (gX h.k gi gd gp) 86 (0,0))) 3 ?_;refine aj 0 22 (.agg A) rfl hF ?_ (hy:=fun u hu=>aD rfl (HLa.out u hu.1))
 go_frame
 refine aj 2 24 (.agg (gX h.k gi gd gp)) rfl hF ?_ (hy:=fun u hu=>aD rfl (HLs.out u hu.2))
 go_frame
 have D3:=bdr u3;refine ep 1 23 rfl ((C3.out u3.drew (bst n2 D3)).mono ?_);rintro e u4 ⟨rfl,k4'⟩;have k4:=bst D3 k4';have n4:=bst n2 k4;have R4:=hid (R3.out.keep k4);have H4:Hid _:=ah H3 k4;have S4:Hid _:=ah S3 k4;refine .inl ⟨_,rfl,fun _=>⟨H4.out,S4.out⟩,?_⟩
 go_frame
 refine iR 3 25 (.agg (yG h gi gd gp)) (w':=u4) rfl (fun h=>by simp at h) ?_
 go_frame
 have F5:=bF u4 (yG h gi gd gp) 90;refine iR 4 26 (PT u4.heap.size 0) (w':=u4.alloc (Obj.cells (yG h gi gd gp) 90)) rfl (fun h=>by simp at h) ?_
 go_frame
 refine iR 5 8 (PT u4.heap.size 0) (w':=u4.alloc (Obj.cells (yG h gi gd gp) 90)) rfl (fun h=>by simp at h) ?_
 go_frame
 refine dc ?_;obtain ⟨f5,z5,b5⟩:=F5;generalize u4.alloc (Obj.cells (yG h gi gd gp) 90)=u5 at f5 z5 b5 |-;have n5:=bst n4 b5;have R5:=hid (R4.out.keep b5);have H5:Hid _:=ah H4 b5;have M5:=hid f5;have l4:=(hpl H4.out);have CC:Hid _:=yZ p.am h.mem.length p.cm h.mem u5 (HI.out.mem.keep n5) hl;have c0:=ab H5.out 0 A0.out;have Z5:Hid _:=z5;have LI:Hid (gi<u4.heap.size∧gd<u4.heap.size∧gp<u4.heap.size):=⟨(cQ R4.out.1).2.2,(cQ R4.out.2.1).2.2,(cQ R4.out.2.2.1).2.2⟩;have LB:Hid (w.heap.size<=gi∧w.heap.size<=gd∧w.heap.size<=gp):=by
  have q1:=(cQ R4.out.1).2.1;have q2:=(cQ R4.out.2.1).2.1;have q3:=(cQ R4.out.2.2.1).2.1;simp only at q1 q2 q3;exact ⟨by omega,by omega,by omega⟩
 clear f5 z5 b5 R4 H4 S4 hF D3 k4 k4' n4 R3 S3 H3 n2 HLa HLs C1 C2 C3;go_wp2_with fail;refine Calls.mono CC.out ?_;rintro e u6 ⟨rfl,m6,b6⟩;have M6:Hid _:=ah M5 b6;have k18:=ab M6.out 18 (v:=SN) rfl;have f18:=ap M6.out 18;have G6:=hid m6;have R6:=hid (R5.out.keep b6);have n6:=bst n5 b6;clear m6 b6 c0 CC R5 H5 M5 n5;go_upto_region 6 with fail;have g7:=au (ao u6 (some u4.heap.size)) 18 (SL u5.heap.size h.mem.length h.mem.length);have M7:Hid _:=bq (v:=SL u5.heap.size h.mem.length h.mem.length) (i:=18) M6.out;generalize u6.setCell (AD u4.heap.size 18) (SL u5.heap.size h.mem.length h.mem.length)=u7 at g7 M7 |-;have hz5:=Z5.out;have hli:=LI.out;have G7:=hid (G6.out.gb g7 (by omega));have R7:Hid (RowsAt u7 u0.heap.size gi gd gp h.k):=⟨dD R6.out.1 g7 (by omega),dD R6.out.2.1 g7 (by omega),dD R6.out.2.2.1 g7 (by omega),R6.out.2.2.2⟩;have n7:Bw w u7:=⟨g7.os.trans n6.os,g7.tape.trans n6.tape,g7.output.trans n6.output,Nat.le_trans n6.size g7.size,fun i hi=>(g7.block i (ltl hi n6.size) (by simp;omega)).trans (n6.block i hi)⟩;have k29:=ab M7.out 29 (v:=.nilIface) rfl;have f29:=ap M7.out 29;clear hz5 hli g7 M6 G6 R6 n6 k18 f18;cases plain
 ·have CT:Hid _:=qX (AD u4.heap.size 20) u7;go_wp2_with fail;refine Calls.mono CT.out ?_;rintro e v7 ⟨rfl,hbx,b8⟩;have HBx:=hid hbx;have M8':Hid _:=ah M7 b8;have G8':=hid (G7.out.keep b8 G7.out.lt);have R8':=hid (R7.out.keep b8);have n8':=bst n7 b8;have L7:=hid G7.out.lt;replace k29:=ab M8'.out 29 (v:=.nilIface) rfl;replace f29:=ap M8'.out 29;clear hbx b8 CT;go_wp2_with fail;have g8:=au (ao v7 (some u4.heap.size)) 29 (.iface 180 (PT u7.heap.size 0));have M8:=bq (v:=(.iface 180 (PT u7.heap.size 0))) (i:=29) M8'.out;generalize v7.setCell (AD u4.heap.size 29) (.iface 180 (PT u7.heap.size 0))=u8 at g8 M8 |-;have hz5:=Z5.out;have hli:=LI.out;have hlb:=LB.out;have hl7:=L7.out;have G8:=G8'.out.gb g8 (by omega);have R8:RowsAt u8 u0.heap.size gi gd gp h.k:=⟨dD R8'.out.1 g8 (by omega),dD R8'.out.2.1 g8 (by omega),dD R8'.out.2.2.1 g8 (by omega),R8'.out.2.2.2⟩;have B8:=aA HBx.out g8 (show u7.heap.size≠u4.heap.size by omega);have n8:Bw w u8:=⟨g8.os.trans n8'.os,g8.tape.trans n8'.tape,g8.output.trans n8'.output,Nat.le_trans n8'.size g8.size,fun i hi=>(g8.block i (ltl hi n8'.size) (by simp;omega)).trans (n8'.block i hi)⟩;have q5:=G8.lt;have q7:=(hpl B8);refine bodyPost_ret (v:=.tuple #[PT u4.heap.size 0,.bool true]) (by simp [results,Tryz.results18,go_sem]) rfl ⟨⟨⟨u4.heap.size,u5.heap.size,gi,gd,gp,180,PT u7.heap.size 0⟩,fun i=>i=u4.heap.size∨i=u5.heap.size∨i=gi∨i=gd∨i=gp∨i=u7.heap.size,cX _ u7.heap.size,_,_,u0.heap.size,rfl,Ed M8 G8 (.inl rfl) (.inr (.inl rfl)) (show u4.heap.size≠u5.heap.size by omega) ?_ ?_ ?_ HHk.out ?_,Path.cached _ u7.heap.size _ ⟨rfl,rfl,show u4.heap.size≠gi by omega,show u4.heap.size≠gd by omega,show u4.heap.size≠gp by omega,show u7.heap.size≠gi by omega,show u7.heap.size≠gd by omega,show u7.heap.size≠gp by omega⟩ (show u4.heap.size≠u7.heap.size by omega),⟨0,R8,B8⟩,?_,by omega,show u4.heap.size≠gi by omega,show u4.heap.size≠gd by omega,show u4.heap.size≠gp by omega⟩,n8⟩
  ·rintro (e | e | e | e) <;> (simp only at e;omega)
  ·rintro (e | e | e | e) <;> (simp only at e;omega)
  ·rintro i (e | e | e | e)
   ·exact .inr (.inr (.inl e))
   ·exact .inr (.inr (.inr (.inl e)))
   ·exact .inr (.inr (.inr (.inr (.inl e))))
   ·exact .inr (.inr (.inr (.inr (.inr e))))
  ·rintro i (e | e | e | e | e | e) <;> omega
  ·rintro i (e | e | e | e | e | e) <;> omega
 ·have CT:Hid _:=qW (AD u4.heap.size 20) u7;go_wp2_with fail;refine Calls.mono CT.out ?_;rintro e u8 ⟨rfl,hu⟩;rw [hu];clear hu CT;go_wp2_with fail;have g8:=au (ao u7 (some u4.heap.size)) 29 (.iface 65 (.agg #[]));have M8:=bq (v:=(.iface 65 (.agg #[]))) (i:=29) M7.out;generalize u7.setCell (AD u4.heap.size 29) (.iface 65 (.agg #[]))=u8 at g8 M8 |-;have hz5:=Z5.out;have hli:=LI.out;have hlb:=LB.out;have G8:=G7.out.gb g8 (by omega);have R8:RowsAt u8 u0.heap.size gi gd gp h.k:=⟨dD R7.out.1 g8 (by omega),dD R7.out.2.1 g8 (by omega),dD R7.out.2.2.1 g8 (by omega),R7.out.2.2.2⟩;have n8:Bw w u8:=⟨g8.os.trans n7.os,g8.tape.trans n7.tape,g8.output.trans n7.output,Nat.le_trans n7.size g8.size,fun i hi=>(g8.block i (ltl hi n7.size) (by simp;omega)).trans (n7.block i hi)⟩;have q5:=G8.lt;refine bodyPost_ret (v:=.tuple #[PT u4.heap.size 0,.bool true]) (by simp [results,Tryz.results18,go_sem]) rfl ⟨⟨⟨u4.heap.size,u5.heap.size,gi,gd,gp,65,.agg #[]⟩,fun i=>i=u4.heap.size∨i=u5.heap.size∨i=gi∨i=gd∨i=gp,pX _,_,_,u0.heap.size,rfl,Ed M8 G8 (.inl rfl) (.inr (.inl rfl)) (show u4.heap.size≠u5.heap.size by omega) ?_ ?_ ?_ HHk.out ?_,Path.plain _ _ rfl rfl,R8,?_,by omega,show u4.heap.size≠gi by omega,show u4.heap.size≠gd by omega,show u4.heap.size≠gp by omega⟩,n8⟩
  ·rintro (e | e | e) <;> (simp only at e;omega)
  ·rintro (e | e | e) <;> (simp only at e;omega)
  ·rintro i (e | e | e)
   ·exact .inr (.inr (.inl e))
   ·exact .inr (.inr (.inr (.inl e)))
   ·exact .inr (.inr (.inr (.inr e)))
  ·rintro i (e | e | e | e | e) <;> omega
  ·rintro i (e | e | e | e | e) <;> omega
section
open Go.RowKit Go.Maps
attribute [local go_sem ↓] Go.wp_at_zero Go.wp_at_succ
structure DisP (w wr:World) (B sb:Nat) (S:Array Value) (m:MP) (wb mb base:Nat) (pa:Option Addr) (pc:Nat) (ps:List Int) (i:Nat) (O:Nat->Prop) (ov:Value) (ol:List (Nat × Int)) (h:HartM) (gs:List ay):Prop where
 n:Bw w wr
 h2:wr.heap[w.heap.size]?=some (.cells #[.bool false,VI 0] 24 (0,0))
 pk:wr.ownsRow w.heap.size 2 1 (.slice pa ps.length pc) ps.length (cL ps)
 pl:∀g,(Value.slice pa ps.length pc).ownBlock=some g->g<B
 mw:MW wr O (wX m wb mb) m ov h ol
 pi:wI m wb mb base gs (9*i) h.k wr
 ok:HOk h
 ob:∀i,O i->B<=i
 sc:wr.heap[sb]?=some (.cells S 47 (0,0))
 sl:sb<B
theorem DisP.low {w wr v:World} {B sb:Nat} {S:Array Value} {m:MP} {wb mb base:Nat} {pa:Option Addr} {pc:Nat} {ps:List Int} {i:Nat} {O:Nat->Prop} {ov:Value} {ol:List (Nat × Int)} {h:HartM} {gs:List ay} (k:DisP w wr B sb S m wb mb base pa pc ps i O ov ol h gs) (hb:Bw wr v):DisP w v B sb S m wb mb base pa pc ps i O ov ol h gs:=by
 obtain ⟨r,gm,a,g⟩:=k.pi;exact ⟨bst k.n hb,ae k.h2 hb (hpl k.h2),aq k.pk hb,k.pl,k.mw.low hb,⟨jo (m:=m) r hb,gm,⟨ae a.1 hb (hpl a.1),a.2.keep hb⟩,g⟩,k.ok,k.ob,ae k.sc hb (hpl k.sc),k.sl⟩
theorem DisP.step {w wr v:World} {B sb:Nat} {S:Array Value} {m:MP} {wb mb base:Nat} {pa:Option Addr} {pc:Nat} {ps:List Int} {i:Nat} {O O':Nat->Prop} {ov ov':Value} {ol ol':List (Nat × Int)} {h:HartM} {gs:List ay} {y:Int} (k:DisP w wr B sb S m wb mb base pa pc ps i O ov ol h gs) (hy:0<=y∧y<=255) (hB:w.heap.size<B) (hBw:B<=wr.heap.size)
 (kw:MW v O' (wX m wb mb) m ov' (bT true y h).h ol') (kp:Kp O wr v) (hO:∀i,i<wr.heap.size->O' i->O i) (hA:wA m wb mb base h gs (9*i) v (bT true y h)):
 ∃c,v.heap[wb]?=some (.cells (wtA mb c) 67 (0,0))∧((aZ h (bT true y h).looks gs).1=true->c=false∧DisP w v B sb S m wb mb base pa pc ps (i+1) O' ov' ol' (bT true y h).h (dX (bT true y h) (aZ h (bT true y h).looks gs).2))∧((aZ h (bT true y h).looks gs).1=false->c=true)∧Bw w v∧v.heap[w.heap.size]?=some (.cells #[.bool false,VI 0] 24 (0,0)):=by
 obtain ⟨r,c,gm,a,j1,j2⟩:=hA;have n:=kp.below k.n k.n.size (fun i hi=>by have:=k.ob i hi;omega);have h2:=kp.heap k.h2 (fun hh=>by have:=k.ob _ hh;omega);refine ⟨c,a.1,fun hj=>?_,j2,n,h2⟩;obtain ⟨hc,R⟩:=j1 hj;have hl:=sP true y h;refine ⟨hc,n,h2,kp.own k.pk (fun g e hh=>by have:=k.ob g hh;have:=k.pl g e;omega),k.pl,kw,⟨r,gm,⟨by rw [<-hc];exact a.1,a.2.mono (by omega)⟩,R⟩,(oJ true hy k.ok).h,fun j hj=>?_,kp.heap k.sc (fun hh=>by have:=k.ob _ hh;have:=k.sl;omega),k.sl⟩;by_cases hlt:j<wr.heap.size
 ·exact k.ob j (hO j hlt hj)
 ·omega
theorem ES {w w':World} {O X X':Nat->Prop} {m:MP} {ov:Value} {h:HartM} {ol:List (Nat × Int)} (k:MW w O X m ov h ol) (pd:TypeId) (px:Value) (hg:w.grownBy w' (some m.b)) (hb:w'.heap[m.b]?=some (.cells (cJ h m.gm ov m.gi m.gd m.gp (.iface pd px)) 90 (0,0)))
 (hov:ov.ownBlock=none) (xb:¬X' m.b) (xm:¬X' m.gm) (hX:∀i,X' i->i<w.heap.size):MW w' (fun i=>O i∨X' i) X' ⟨m.b,m.gm,m.gi,m.gd,m.gp,pd,px⟩ ov h ol:=by
 have hk:Kp (fun i=>i=m.b) w w':=Kp.of_gb hg rfl;exact ⟨hb,hk.blk k.mem (Ne.symm k.bm),hk.own k.old (fun g e=>by rw [hov] at e;cases e),.inl k.ob,.inl k.om,fun g e=>(by rw [hov] at e;cases e),k.bm,xb,xm,fun i hi=>⟨.inr hi,ltl (hX i hi) hg.size⟩,k.byt,k.len,k.regs,k.oll,k.sh,
  fun i hi=>hi.elim (fun hi=>ltl (k.obd i hi) hg.size) (fun hi=>ltl (hX i hi) hg.size),k.oln⟩
theorem Bj (v:World):∃v3,Hid ((v.alloc (.map #[] 0)).alloc (.cells #[.map (some v.heap.size),.bool false] 67)=v3)∧Hid (WAt v3 (v.heap.size+1) v.heap.size 0 false [])∧Bw v v3∧v.heap.size+1<v3.heap.size:=by
 have a:=bF (v.alloc (.map #[] 0)) #[.map (some v.heap.size),.bool false] 67;have e:(v.alloc (.map #[] 0)).heap.size=v.heap.size+1:=by simp
 rw [e] at a;exact ⟨_,rfl,⟨a.1,(GMap.made v).keep a.2.2⟩,bst ((brf).alloc nle _) a.2.2,by omega⟩
theorem ET {w:World} {base gi gd gp gm:Nat} {k:KM} {zs:List Int} (h:RowsAt w base gi gd gp k) (hm:Blk 5 w gm zs):gm≠gi∧gm≠gd∧gm≠gp:=
 ⟨fun e=>bY h.1 hm (by decide) (by rw [e];rfl),fun e=>bY h.2.1 hm (by decide) (by rw [e];rfl),fun e=>bY h.2.2.1 hm (by decide) (by rw [e];rfl)⟩
theorem qA (a:Option Addr) (len cap:Nat) (zs:List Int) (w:World) (hB:Byt w a len zs) (hl:len<=16777216):
 Calls Tryz.prog 7 #[.slice a len cap] w fun e w'=>e=.returned (.agg #[.bool (hU (bE zs) (aJ zs) [] 0).1,VI ((hU (bE zs) (aJ zs) [] 0).2:Int)])∧Bw w w':=by
 have hok:=qY hB.2.1;have pl:=ql zs;have PB:=hid (oX hB.2.1);have CS:Hid (∀u,Bw w u->Calls Tryz.prog 17 #[.slice a len cap] u fun e v=>(∃p pa pc,e=.returned (.agg (cy p pa pc (aJ zs) (bE zs)))∧HartIn v p (aJ zs)∧v.ownsRow u.heap.size 2 1 (.slice pa (bE zs).length pc) (bE zs).length (cL (bE zs)))∧Bw u v):=fun u hu=>(lS a len cap zs u (hB.keep hu) hl).mono fun e v d=>by
  obtain ⟨⟨p,pa,pc,he,o⟩,n⟩:=d.own;exact ⟨⟨p,pa,pc,he,o.hart.hin hok.mem hok.ks,o.pick⟩,n⟩
 have hml:(aJ zs).mem.length<=1048576:=by
  have:=hok.v.size;simp only [ez,decide_eq_true_eq] at this;omega
 have CM:=hid fun (p:PtrM) (u:World) (hu:HartIn u p (aJ zs))=>pC true p _ u hu hml hok.satp.1 hok.satp.2 hok.tvec.1 hok;clear hB hl hml;generalize aJ zs=h0 at *;generalize bE zs=ps at *;obtain ⟨⟨RB,RN⟩,hR⟩:∃R,hU ps h0 [] 0=R:=⟨_,rfl⟩;have HR:=hid hR;rw [hR];clear hR;have HOK:=hid hok;clear hok;obtain ⟨u0,Eu0,n0,H4,l4⟩:=al1 w #[.bool false,VI 0] 24;go_enter Tryz.func7,Tryz.ntmps7;go_upto_region 1 with fail;rw [Eu0.out];clear Eu0;go_wp2_with fail;refine (CS.out u0 n0).mono ?_;rintro e v1 ⟨⟨p,pa,pc,rfl,hi,op⟩,n1⟩;have HI:=hid hi;have OP:=hid (bS op n0.size);replace H4:=ah H4 n1;replace n0:=bst n0 n1;have s1:=n1.size;clear n1 hi op CS;obtain ⟨v2,hs2,P2,l2,n2⟩:=sq v1 (cy p pa pc h0 ps) rfl (jH _ _ _ _ _);have SH:=hid (sR p pa pc h0 ps);have SP:=hid (sS p pa pc h0 ps);have HS2:=hid hs2;generalize cy p pa pc h0 ps=S at *;have H5:=hid P2;replace H4:=ah H4 n2;replace n0:=bst n0 n2;replace HI:=hid (HI.out.keep n2);replace OP:=hid (aq OP.out n2);clear hs2 P2 n2;have hmm:=@run_makeMap Tryz.prog;go_upto_region 2 with (first | ((with_reducible refine az ?_ ?_ HS2.out ?_);(exact rfl);(exact rfl)));clear HS2;obtain ⟨v3,Ev3,W3,n3,l3⟩:=Bj v2;go_upto_region 3 with fail;rw [Ev3.out];clear Ev3 hmm;have H53:=ah H5 n3;have J5:=hid (eA (P:=Tryz.prog) (T:=44) H53.out Tryz.underlying44 rfl (o:=0) (ak p h0).toList fy SH.out rfl);rw [show (ak p h0).toList.toArray=ak p h0 from rfl] at J5;have CM2:=hid (CM.out p v3 (HI.out.keep n3));obtain ⟨A0,hA0⟩:∃A,ak p h0=A:=⟨_,rfl⟩;rw [hA0] at J5 CM2;clear hA0 CM;go_wp2_with (first | ((with_reducible refine bj ?_ J5.out ?_);(exact rfl)));clear J5;refine Calls.mono CM2.out ?_;rintro e v4 ⟨⟨m,O,X,PI,PA,base,rfl,kw,hP,hI,hO,hbs,hgi,hgd,hgp⟩,n4⟩;have R4:=hid (hP.rows h0.k v4 hI);have KW:=hid kw;have lmb:=hO m.b kw.ob;have lgm:=hO m.gm kw.om;have LO:=hid hO;have c29:=ab kw.blk 29 (v:=m.pv) rfl;have f29:=ap kw.blk 29;obtain ⟨mb,hmb⟩:∃mb,m.b=mb:=⟨_,rfl⟩;have HMb:=hid hmb;rw [hmb] at c29 f29 lmb;rw [hmb];clear hmb kw hP hI hO CM2;go_upto_region 5 with fail;have g5:=au (ao v4 (some mb)) 29 (.iface 61 (PT (v2.heap.size+1) 0));have hd:=R4.out;have di:=(cQ hd.1).2;have dd:=(cQ hd.2.1).2;have dp:=(cQ hd.2.2.1).2;simp only at di dd dp;have s4:=n4.size;have B5:Hid ((v4.setCell (AD mb 29) (.iface 61 (PT (v2.heap.size+1) 0))).heap[mb]?=some (.cells (cJ h0 m.gm SN m.gi m.gd m.gp (.iface 61 (PT (v2.heap.size+1) 0))) 90 (0,0))):=by
  have:=bq (i:=29) (v:=.iface 61 (PT (v2.heap.size+1) 0)) KW.out.blk;rw [HMb.out] at this;exact this
 generalize v4.setCell (AD mb 29) (.iface 61 (PT (v2.heap.size+1) 0))=v5 at g5 B5 |-;obtain ⟨m',hm'⟩:∃m':MP,(⟨mb,m.gm,m.gi,m.gd,m.gp,61,PT (v2.heap.size+1) 0⟩:MP)=m':=⟨_,rfl⟩;have nG:=ET R4.out KW.out.mem;have hgi':mb≠m.gi:=HMb.out ▸ hgi;have hgd':mb≠m.gd:=HMb.out ▸ hgd;have hgp':mb≠m.gp:=HMb.out ▸ hgp;have WD:Hid (WDist m' (v2.heap.size+1) v2.heap.size):=by
  show WDist _ _ _;rw [<-hm'];exact ⟨rfl,rfl,by simp only;omega,by simp only;omega,by simp only;omega,by simp only;omega,by simp only;omega,by simp only;omega⟩
 have hx:∀i,wX m' (v2.heap.size+1) v2.heap.size i->i<v4.heap.size∧v2.heap.size<=i∧i≠mb∧i≠m.gm:=by
  rw [<-hm'];rintro i (rfl | rfl | rfl | rfl | rfl)
  ·exact ⟨di.2,by simp only;omega,Ne.symm hgi',Ne.symm nG.1⟩
  ·exact ⟨dd.2,by simp only;omega,Ne.symm hgd',Ne.symm nG.2.1⟩
  ·exact ⟨dp.2,by simp only;omega,Ne.symm hgp',Ne.symm nG.2.2⟩
  ·exact ⟨by omega,by omega,by omega,by omega⟩
  ·exact ⟨by omega,by omega,by omega,by omega⟩
 have K5:Hid (MW v5 (fun i=>O i∨wX m' (v2.heap.size+1) v2.heap.size i) (wX m' (v2.heap.size+1) v2.heap.size) m' SN h0 []):=by
  show MW _ _ _ _ _ _ _;have:=ES (X':=wX m' (v2.heap.size+1) v2.heap.size) KW.out 61 (PT (v2.heap.size+1) 0) (w':=v5) (by rw [HMb.out];exact g5) (by rw [HMb.out];exact B5.out) rfl (fun h=>(hx _ h).2.2.1 HMb.out) (fun h=>(hx _ h).2.2.2 rfl) (fun i hi=>(hx i hi).1);rw [HMb.out,hm'] at this;exact this
 have WI:Hid (wI m' (v2.heap.size+1) v2.heap.size base [] 0 h0.k v5):=by
  show wI _ _ _ _ _ _ _ _;have hk:Kp (fun i=>i=mb) v4 v5:=Kp.of_gb g5 rfl;refine ⟨?_,[],⟨hk.heap (ae W3.out.1 n4 (by omega)) (by omega),((W3.out.2.keep n4)).same (hk.block _ (by omega) (by omega))⟩,Dn⟩;rw [<-hm'];exact hk.rows R4.out (fun e=>hgi' e.symm) (fun e=>hgd' e.symm) (fun e=>hgp' e.symm)
 have N5:Bw w v5:=Below.gb (bst n0 (bst n3 n4)) g5 (by have:=n0.size;omega) (by have:=KW.out.lt;rw [HMb.out] at this;exact this);have K0:Hid (DisP w v5 v2.heap.size v1.heap.size S m' (v2.heap.size+1) v2.heap.size base pa pc ps 0 (fun i=>O i∨wX m' (v2.heap.size+1) v2.heap.size i) SN [] h0 []):=
  ⟨N5,aA (ah H4 (bst n3 n4)).out g5 (by omega),(Kp.of_gb (O:=fun i=>i=mb) g5 rfl).own (aq OP.out (bst n3 n4)) (fun g e he=>by have:=(OP.out.lt g e).2;omega),fun g e=>(OP.out.lt g e).2,K5.out,WI.out,HOK.out,fun i hi=>hi.elim (fun hi=>by have:=LO.out i hi;omega) (fun hi=>(hx i hi).2.1),aA (ah H53 n4).out g5 (by omega),by omega⟩
 have c21:=ab (aA (ah H53 n4).out g5 (by omega)) 21 SP.out;have b24:w.heap.size<v2.heap.size:=by omega
 have b25:v2.heap.size<=v5.heap.size:=by have:=g5.size;omega
 have lmb5:mb<v5.heap.size:=hpl B5.out;have HEm:Hid (m'.b=mb):=by show _=_;rw [<-hm']
 have HX:=hid hx;clear hx hm' WI K5 nG di dd dp hd hgi hgd hgp hgi' hgd' hgp' g5 B5 N5 H4 H5 H53 OP KW R4 W3 LO HI lgm c29 f29;generalize v2.heap.size=BB at *;go_wp2;go_loopw [28] (fun ii wr=>∃(i:Nat) (O:Nat->Prop) (ov:Value) (ol:List (Nat × Int)) (h:HartM) (gs:List ay),i<=ps.length∧ii=VI i∧DisP w wr BB v1.heap.size S m' (BB+1) BB base pa pc ps i O ov ol h gs∧BB<=wr.heap.size∧hU (ps.drop i) h gs i=(RB,RN)) (fun ii _=>ps.length-(intOf ii).toNat)
 case atStart=>exact ⟨0,_,_,[],h0,[],Nat.zero_le _,rfl,K0.out,b25,by rw [List.drop_zero];exact HR.out⟩
 case round=>
 rename World=>wr;obtain ⟨i,O',ov,ol,h,gs,hi,rfl,k,hbw,hr⟩:=hrel;clear K0 HR c21;have HK:=hid k;have HRR:=hid hr;clear k hr;have hd2:=HK.out.h2;have d0:=ab hd2 0 (v:=.bool false) rfl;have d1:=ab hd2 1 (v:=VI 0) rfl;have e0:=ap hd2 0;have e1:=ap hd2 1;clear hd2;by_cases hlt:i<ps.length
 ·have hlt':decide ((i:Int)<(ps.length:Int))=true:=by simp;omega
  obtain ⟨y,hy⟩:∃y,ps[i]=y:=⟨_,rfl⟩;have by':0<=y∧y<=255:=by rw [<-hy];exact PB.out _ (List.getElem_mem hlt)
  have HDr:=hid (yb ps i hlt h gs);rw [hy] at HDr;have pki:(cL ps)[i]?=some (VI y):=by
   rw [<-hy];simp [cL,geg hlt]
  obtain ⟨pg,hpg⟩:=lH HK.out.pk (by omega);subst hpg;have cpk:wr.cell? (AD pg i)=some (VI y):=by
   have:=aQ HK.out.pk i _ pki;simpa using this
  have CSt:=hid (DZ (uV m' (BB+1) BB base WD.out (by omega) ⟨by rw [HEm.out];omega,by rw [HEm.out];omega⟩ y h gs (9*i) (by omega)) by' wr HK.out.mw HK.out.pi HK.out.ok);rw [HEm.out] at CSt;clear pki hy;go_wp2_with fail;refine Calls.mono CSt.out ?_;rintro e v6 ⟨rfl,O2,ov2,ol2,kw,kp,hO2,hA⟩;obtain ⟨c,hc,hj1,hj2,n6,h6⟩:=HK.out.step by' b24 hbw kw kp hO2 hA;have HC:=hid hc;have H1:=hid hj1;have H2:=hid hj2;have cc:=ab hc 1 (v:=.bool c) rfl;have s6:=kp.size;clear kw kp hO2 hA CSt hc hj1 hj2 cpk d0 d1 e0 e1;have d0:=ab h6 0 (v:=.bool false) rfl;have d1:=ab h6 1 (v:=VI 0) rfl;have e0:=ap h6 0;have e1:=ap h6 1;clear h6;cases hJ:(aZ h (bT true y h).looks gs).1
  ·have hcc:=H2.out hJ;subst hcc;have hfin:(false,i)=(RB,RN):=by
    have q:=HDr.out;rw [hJ,if_neg (by simp)] at q;exact q.symm.trans HRR.out
   have HF:=hid hfin;clear H1 H2 HDr HRR hJ hfin;go_wp2_with fail;refine bodyPost_ret (v:=.agg #[.bool false,VI (i:Int)]) (by simp [results,Tryz.results7,go_sem,d0,d1]) rfl ⟨?_,cH (cH n6 nle _ _) nle _ _⟩;obtain ⟨rfl,rfl⟩:=Prod.mk.inj HF.out;rfl
  ·obtain ⟨hcc,kk⟩:=H1.out hJ;subst hcc;have hnx:hU (ps.drop (i+1)) (bT true y h).h (dX (bT true y h) (aZ h (bT true y h).looks gs).2) (i+1)=(RB,RN):=by
    have q:=HDr.out;rw [hJ,if_pos rfl] at q;exact q.symm.trans HRR.out
   have KK:=hid kk;have HN:=hid hnx;clear H1 H2 HDr HRR hJ hnx kk;go_wp2;go_roundw
   case rel=>exact ⟨i+1,_,_,_,_,_,by omega,by go_num,KK.out,by omega,HN.out⟩
   case measure=>simp [intOf];omega
 ·have hin:i=ps.length:=by omega
  subst hin;have hlt':decide ((ps.length:Int)<(ps.length:Int))=false:=by simp
  have hfin:(true,ps.length)=(RB,RN):=by
   have q:=HRR.out;rw [List.drop_length,hU] at q;exact q
  have HF:=hid hfin;clear HRR hfin;have c21:=ab HK.out.sc 21 SP.out;go_wp2_with fail;refine bodyPost_ret (v:=.agg #[.bool true,VI (ps.length:Int)]) (by simp [results,Tryz.results7,go_sem,d0,d1]) rfl ⟨?_,cH (cH HK.out.n nle _ _) nle _ _⟩;obtain ⟨rfl,rfl⟩:=Prod.mk.inj HF.out;rfl
end
end Go.Proofs.YthdgiakgepmabaaGreat
