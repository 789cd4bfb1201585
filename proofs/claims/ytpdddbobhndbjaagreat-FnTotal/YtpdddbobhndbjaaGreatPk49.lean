import Derived.Test.YtpdddbobhndbjaaGreatPk48
import Derived.Test.YtpdddbobhndbjaaGreatPk31
namespace Go.Proofs.YtpdddbobhndbjaaGreat
open Go.RowKit
set_option linter.unusedVariables false
set_option maxHeartbeats 6400000
set_option maxRecDepth 20000
theorem HartIn.row {w:World} {p:PtrM} {h:HartM} (k:HartIn w p h):HartR w p h∧h.k.i.es.length<=1048576∧h.k.d.es.length<=1048576∧h.k.p.es.length<=1048576:=by
 obtain ⟨a1,c1,a2,c2,a3,c3,he,t1,t2,t3⟩:=k.ks;simp only [kA,Value.agg.injEq,Array.mk.injEq,List.cons.injEq,Value.slice.injEq,true_and,and_true] at he;obtain ⟨⟨rfl,rfl⟩,⟨rfl,rfl⟩,rfl,rfl⟩:=he;exact ⟨⟨k.mem,k.regs,t1.row.1,t2.row.1,t3.row.1⟩,t1.row.2,t2.row.2,t3.row.2⟩
theorem pM (zs:List Int):(cf zs).length<=20000:=by
 simp only [cf,List.length_map,List.length_range,iE];omega
structure ScrO (base:Nat) (v:World) (p:PtrM) (h:HartM) (pa:Option Addr) (pc:Nat) (ps:List Int):Prop where
 hart:HartO base v p h (dW h.mem) (cU h.regs) (aR h.k.i.es) (aR h.k.d.es) (aR h.k.p.es)
 pick:v.ownsRow base 2 1 (.slice pa ps.length pc) ps.length (cY ps)
theorem ScrO.keep {base:Nat} {v v':World} {p:PtrM} {h:HartM} {pa:Option Addr} {pc:Nat} {ps:List Int} (k:ScrO base v p h pa pc ps) (hb:Bw v v'):ScrO base v' p h pa pc ps:=
 ⟨k.hart.keep hb,aj k.pick hb⟩
theorem ScrO.gb {base r:Nat} {v v':World} {p:PtrM} {h:HartM} {pa:Option Addr} {pc:Nat} {ps:List Int} (k:ScrO base v p h pa pc ps) (hg:v.grownBy v' (some r)) (hr:r<base):ScrO base v' p h pa pc ps:=
 ⟨k.hart.gb hg hr,aI k.pick hg hr⟩
theorem ScrO.low {base:Nat} {v:World} {p:PtrM} {h:HartM} {pa:Option Addr} {pc:Nat} {ps:List Int} (k:ScrO base v p h pa pc ps):∀g,CN p h pa pc ps g->base<=g:=by
 rintro g (h1 | h1)
 ·exact (k.hart.low g h1).1
 ·exact (k.pick.lt g h1).1
theorem ScrO.box {base pb:Nat} {v:World} {p:PtrM} {h:HartM} {pa:Option Addr} {pc:Nat} {ps:List Int} {cur:Array Value} {q:Nat × Nat} (k:ScrO base v p h pa pc ps) (hp:v.heap[pb]?=some (.cells cur 44 q)):¬CN p h pa pc ps pb:=by
 rintro (h1 | h1)
 ·exact k.hart.box_ne hp (by decide) (by decide) (by decide) h1
 ·exact co k.pick hp (by decide) h1
theorem DecOwn.own {w v:World} {h:HartM} {ps:List Int} {e:Ending} (d:DecOwn w h ps e v):(∃p pa pc,e=.returned (.agg (cu p pa pc h ps))∧ScrO w.heap.size v p h pa pc ps)∧Bw w v:=by
 obtain ⟨⟨g1,c1,g2,c2,g3,c3,gm,cm,gr,cr,gp,cp,rfl,o1,o2,o3,om,oR,op,n12,n13,n23⟩,n⟩:=d;refine ⟨⟨_,_,_,rfl,⟨om,oR,o1,o2,o3,?_,?_,?_⟩,op⟩,n⟩
 ·intro g h1 h2;exact n12 (Option.some.inj (h1.trans h2.symm))
 ·intro g h1 h2;exact n13 (Option.some.inj (h1.trans h2.symm))
 ·intro g h1 h2;exact n23 (Option.some.inj (h1.trans h2.symm))
theorem yU {base size n c:Nat} {e:TypeId} {w:World} {a:Option Addr} {cs:List Value} (h:w.ownsRow base e size (.slice a n c) n cs):n<=c∧c<=9223372036854775807:=by
 rcases h.2 with ⟨h1,h2⟩ | ⟨g,cap,cur,h1,_,_,h2,h3,_⟩
 ·simp only [Value.slice.injEq] at h1;omega
 ·simp only [Value.slice.injEq] at h1;unfold maxLen at h3;omega
theorem HartO.hin {base:Nat} {w:World} {p:PtrM} {h:HartM} (k:HartO base w p h (dW h.mem) (cU h.regs) (aR h.k.i.es) (aR h.k.d.es) (aR h.k.p.es)) (hz:∀i:Nat,0<=h.mem[i]?.getD 0∧h.mem[i]?.getD 0<=255) (hk:kOk h.k):HartIn w p h:=by
 have r:=k.read hz;refine ⟨r.mem,yU k.mem,r.regs,yU k.regs,?_,⟨_,_,_,_,_,_,rfl,iQ k.r1 hk.1,iQ k.r2 hk.2.1,iQ k.r3 hk.2.2⟩,?_⟩
 ·rcases hU k.regs with ⟨h1,h2,_⟩ | ⟨g,cap,h1⟩
  ·simp only [Value.slice.injEq] at h1;exact ⟨fun _=>⟨h2,h1.2.2⟩,fun q hq=>by rw [h1.1] at hq;cases hq⟩
  ·simp only [Value.slice.injEq] at h1;exact ⟨fun hq=>(by rw [h1.1] at hq;cases hq),fun q hq=>(by rw [h1.1] at hq;cases hq;rfl)⟩
 ·intro q hq;simp only [aV,List.mem_cons,List.not_mem_nil,or_false] at hq;rcases hq with hq | hq | hq | hq | hq
  ·exact (dC k.mem q hq.symm).2
  ·exact (dC k.regs q hq.symm).2
  ·exact (dC k.r1 q hq.symm).2
  ·exact (dC k.r2 q hq.symm).2
  ·exact (dC k.r3 q hq.symm).2
section
attribute [local go_sem ↓] Go.wp_at_zero Go.wp_at_succ
theorem wO (p:PtrM) (h:HartM) (w:World) (hi:HartIn w p h) (hl:h.mem.length<=1048576) (s0:0<=h.satp) (s1:h.satp<=18446744073709551615) (t0:0<=h.tvec) (h8:h.regs.length=8):
 Calls Tryz.prog 46 #[.agg (ax p h)] w fun e w'=>e=.returned (.bool (ez h.mem.length && io h))∧Bw w w':=by
 have F:=bS w (ax p h) 41;have A0:Hid ((ax p h)[0]?=some (.slice p.am h.mem.length p.cm)):=by show _=_;rfl
 have A1:Hid ((ax p h)[1]?=some (.slice p.ar h.regs.length p.cr)):=by show _=_;rfl
 have A3:Hid ((ax p h)[3]?=some (.int .i64 h.mode)):=by show _=_;rfl
 have A6:Hid ((ax p h)[6]?=some (.int .u64 h.satp)):=by show _=_;rfl
 have A7:Hid ((ax p h)[7]?=some (.int .u64 h.tvec)):=by show _=_;rfl
 have A9:Hid ((ax p h)[9]?=some (.int .i64 h.emode)):=by show _=_;rfl
 have A10:Hid ((ax p h)[10]?=some (.int .i64 h.cause)):=by show _=_;rfl
 obtain ⟨R,hR⟩:∃R,(ez h.mem.length && io h)=R:=⟨_,rfl⟩;have HF:=hid fun (hr:R=true)=>(nl h).1 (hR.trans hr);have HT:=hid fun (h1:oW h)=>hR.symm.trans ((nl h).2 h1);unfold oW at HF HT;rw [hR];have P1:=hid fun u=>ms h.mem.length u hl;have P2:=hid fun m u=>iL m u;have P3:=hid fun u=>gF h.satp u s0 s1;obtain ⟨rb,ro,hra,rlt,rc⟩:=zd hi.regs h8;have g8:(h.regs.length:Int)=8:=by omega
 rw [hra] at A1;clear hi hR h8;generalize ax p h=A at *;generalize h.mem.length=n at *;generalize h.regs.length=m at *;generalize h.regs[0]?.getD 0=r0 at *;go_enter Tryz.func46,Tryz.ntmps46;go_upto_region 1 with fail;generalize (w.alloc (Obj.cells A 41))=u0 at F |-;obtain ⟨f1,hz,nB⟩:=F;have H1:Hid _:=f1;clear f1;have m8:m=8:=by omega
 subst m8;have x0:=(nB.cell (by exact rlt)).trans rc;clear rc;have c0:=ab H1.out 0 A0.out;have c1:=ab H1.out 1 A1.out;have c3:=ab H1.out 3 A3.out;have c6:=ab H1.out 6 A6.out;have c7:=ab H1.out 7 A7.out;have c9:=ab H1.out 9 A9.out;have c10:=ab H1.out 10 A10.out;go_wp2_with fail;refine (P1.out u0).mono ?_;rintro e _ ⟨rfl,rfl⟩;by_cases hzz:(n:Int)%64=0∧64<=(n:Int)∧(n:Int)<=4096
 rotate_left 1
 ·rw [show ez n=false from (by unfold ez;exact decide_eq_false (by omega))];go_wp2_with fail
  any_goals (
   go_ret;refine ⟨?_,nB⟩;have hq:R=false:=(by
    cases R with
    | false=>rfl
    | true=>
     obtain ⟨⟨q1,q2,q3⟩,q4,q5,⟨q6,q7⟩,⟨q8,q9⟩,q10,q11,⟨q12,q13⟩⟩:=HF.out rfl;first
     | (exfalso;omega)
     | (simp_all))
   subst hq;exact rfl)
 rw [show ez n=true from (by unfold ez;exact decide_eq_true (by omega))];by_cases hr0:r0=0
 rotate_left 1
 ·have dr:(r0 != 0)=true:=by simpa using hr0
  go_wp2_with fail
  any_goals (
   go_ret;refine ⟨?_,nB⟩;have hq:R=false:=(by
    cases R with
    | false=>rfl
    | true=>
     obtain ⟨⟨q1,q2,q3⟩,q4,q5,⟨q6,q7⟩,⟨q8,q9⟩,q10,q11,⟨q12,q13⟩⟩:=HF.out rfl;first
     | (exfalso;omega)
     | (simp_all))
   subst hq;exact rfl)
 subst hr0;go_wp2_with fail;refine (P2.out h.mode _).mono ?_;rintro e _ ⟨rfl,rfl⟩;by_cases hm:0<=h.mode∧h.mode<=2
 rotate_left 1
 ·rw [decide_eq_false hm];go_wp2_with fail
  any_goals (
   go_ret;refine ⟨?_,nB⟩;have hq:R=false:=(by
    cases R with
    | false=>rfl
    | true=>
     obtain ⟨⟨q1,q2,q3⟩,q4,q5,⟨q6,q7⟩,⟨q8,q9⟩,q10,q11,⟨q12,q13⟩⟩:=HF.out rfl;first
     | (exfalso;omega)
     | (simp_all))
   subst hq;exact rfl)
 rw [decide_eq_true hm];have HM:Hid _:=hm;clear hm;go_wp2_with fail;refine (P2.out h.emode _).mono ?_;rintro e _ ⟨rfl,rfl⟩;by_cases he:0<=h.emode∧h.emode<=2
 rotate_left 1
 ·rw [decide_eq_false he];go_wp2_with fail
  any_goals (
   go_ret;refine ⟨?_,nB⟩;have hq:R=false:=(by
    cases R with
    | false=>rfl
    | true=>
     obtain ⟨⟨q1,q2,q3⟩,q4,q5,⟨q6,q7⟩,⟨q8,q9⟩,q10,q11,⟨q12,q13⟩⟩:=HF.out rfl;first
     | (exfalso;omega)
     | (simp_all))
   subst hq;exact rfl)
 rw [decide_eq_true he];have HE:Hid _:=he;clear he;go_wp2_with fail
 any_goals (
  go_ret;refine ⟨?_,nB⟩;have hq:R=false:=(by
   cases R with
   | false=>rfl
   | true=>
    obtain ⟨⟨q1,q2,q3⟩,q4,q5,⟨q6,q7⟩,⟨q8,q9⟩,q10,q11,⟨q12,q13⟩⟩:=HF.out rfl;first
    | (exfalso;omega)
    | (simp_all))
  subst hq;exact rfl)
 refine (P3.out _).mono ?_;rintro e _ ⟨rfl,rfl⟩;rcases Bool.eq_false_or_eq_true (de h.satp) with hs | hs
 rotate_left 1
 ·rw [hs];go_wp2_with fail
  any_goals (
   go_ret;refine ⟨?_,nB⟩;have hq:R=false:=(by
    cases R with
    | false=>rfl
    | true=>
     obtain ⟨⟨q1,q2,q3⟩,q4,q5,⟨q6,q7⟩,⟨q8,q9⟩,q10,q11,⟨q12,q13⟩⟩:=HF.out rfl;first
     | (exfalso;omega)
     | (simp_all))
   subst hq;exact rfl)
 rw [hs];have HS:Hid _:=hs;clear hs;by_cases h4:h.tvec%4=0
 ·have hq:=HT.out ⟨hzz,by first | trivial | rfl | omega,by first | trivial | rfl | omega,HM.out,HE.out,HS.out,h4,⟨by omega,by omega⟩⟩;subst hq;go_wp2_with fail;go_ret;exact ⟨rfl,nB⟩
 ·have hq:R=false:=(by
   cases R with
   | false=>rfl
   | true=>
    obtain ⟨⟨q1,q2,q3⟩,q4,q5,⟨q6,q7⟩,⟨q8,q9⟩,q10,q11,⟨q12,q13⟩⟩:=HF.out rfl;exfalso;omega)
  subst hq;have d4:(h.tvec%4 == 0)=false:=by simpa using h4
  go_wp2_with fail;go_ret;exact ⟨rfl,nB⟩
theorem wP (p:PtrM) (h:HartM) (w:World) (hi:HartIn w p h) (hl:h.mem.length<=1048576) (s0:0<=h.satp) (s1:h.satp<=18446744073709551615) (t0:0<=h.tvec) (h8:¬h.regs.length=8):
 Calls Tryz.prog 46 #[.agg (ax p h)] w fun e w'=>e=.returned (.bool (ez h.mem.length && io h))∧Bw w w':=by
 have F:=bS w (ax p h) 41;have A0:Hid ((ax p h)[0]?=some (.slice p.am h.mem.length p.cm)):=by show _=_;rfl
 have A1:Hid ((ax p h)[1]?=some (.slice p.ar h.regs.length p.cr)):=by show _=_;rfl
 have A3:Hid ((ax p h)[3]?=some (.int .i64 h.mode)):=by show _=_;rfl
 have A6:Hid ((ax p h)[6]?=some (.int .u64 h.satp)):=by show _=_;rfl
 have A7:Hid ((ax p h)[7]?=some (.int .u64 h.tvec)):=by show _=_;rfl
 have A9:Hid ((ax p h)[9]?=some (.int .i64 h.emode)):=by show _=_;rfl
 have A10:Hid ((ax p h)[10]?=some (.int .i64 h.cause)):=by show _=_;rfl
 obtain ⟨R,hR⟩:∃R,(ez h.mem.length && io h)=R:=⟨_,rfl⟩;have HF:=hid fun (hr:R=true)=>(nl h).1 (hR.trans hr);have HT:=hid fun (h1:oW h)=>hR.symm.trans ((nl h).2 h1);unfold oW at HF HT;rw [hR];have P1:=hid fun u=>ms h.mem.length u hl;have P2:=hid fun m u=>iL m u;have P3:=hid fun u=>gF h.satp u s0 s1;have g8:¬(h.regs.length:Int)=8:=by omega
 clear hi hR h8;generalize ax p h=A at *;generalize h.mem.length=n at *;generalize h.regs.length=m at *;generalize h.regs[0]?.getD 0=r0 at *;go_enter Tryz.func46,Tryz.ntmps46;go_upto_region 1 with fail;generalize (w.alloc (Obj.cells A 41))=u0 at F |-;obtain ⟨f1,hz,nB⟩:=F;have H1:Hid _:=f1;clear f1;have c0:=ab H1.out 0 A0.out;have c1:=ab H1.out 1 A1.out;have c3:=ab H1.out 3 A3.out;have c6:=ab H1.out 6 A6.out;have c7:=ab H1.out 7 A7.out;have c9:=ab H1.out 9 A9.out;have c10:=ab H1.out 10 A10.out;go_wp2_with fail;refine (P1.out u0).mono ?_;rintro e _ ⟨rfl,rfl⟩;by_cases hzz:(n:Int)%64=0∧64<=(n:Int)∧(n:Int)<=4096
 rotate_left 1
 ·rw [show ez n=false from (by unfold ez;exact decide_eq_false (by omega))];go_wp2_with fail
  any_goals (
   go_ret;refine ⟨?_,nB⟩;have hq:R=false:=(by
    cases R with
    | false=>rfl
    | true=>
     obtain ⟨⟨q1,q2,q3⟩,q4,q5,⟨q6,q7⟩,⟨q8,q9⟩,q10,q11,⟨q12,q13⟩⟩:=HF.out rfl;first
     | (exfalso;omega)
     | (simp_all))
   subst hq;exact rfl)
 rw [show ez n=true from (by unfold ez;exact decide_eq_true (by omega))];go_wp2_with fail
 any_goals (
  go_ret;refine ⟨?_,nB⟩;have hq:R=false:=(by
   cases R with
   | false=>rfl
   | true=>
    obtain ⟨⟨q1,q2,q3⟩,q4,q5,⟨q6,q7⟩,⟨q8,q9⟩,q10,q11,⟨q12,q13⟩⟩:=HF.out rfl;first
    | (exfalso;omega)
    | (simp_all))
  subst hq;exact rfl)
theorem td (p:PtrM) (h:HartM) (w:World) (hi:HartIn w p h) (hl:h.mem.length<=1048576) (s0:0<=h.satp) (s1:h.satp<=18446744073709551615) (t0:0<=h.tvec):
 Calls Tryz.prog 46 #[.agg (ax p h)] w fun e w'=>e=.returned (.bool (ez h.mem.length && io h))∧Bw w w':=by
 by_cases h8:h.regs.length=8
 ·exact wO p h w hi hl s0 s1 t0 h8
 ·exact wP p h w hi hl s0 s1 t0 h8
end
theorem qy (c:Addr) (w:World):Calls Tryz.prog 49 #[.bool true,.pointer (some c)] w fun e w'=>e=.returned (.iface 147 (.agg #[]))∧w'=w:=by
 go_enter Tryz.func49,Tryz.ntmps49;go_wp2_with fail;go_ret;exact ⟨rfl,rfl⟩
theorem qz (c:Addr) (w:World):Calls Tryz.prog 49 #[.bool false,.pointer (some c)] w fun e w'=>e=.returned (.iface 148 (.pointer (some ⟨w.heap.size,0,none⟩)))∧w'.heap[w.heap.size]?=some (.cells #[.pointer (some c),.int .i64 0] 150 (0,0))∧Bw w w':=by
 have F:=bS w #[.pointer (some c),.int .i64 0] 150;go_enter Tryz.func49,Tryz.ntmps49;go_wp2_with fail;go_ret;exact ⟨rfl,F.1,F.2.2⟩
theorem Bu (qb qo c:Nat) (w:World):(Instr.arrayAt 59 (.slice (some ⟨qb,qo,none⟩) 8 c)).run Tryz.prog w=.ok (.pointer (some ⟨qb,qo,none⟩)) w:=by kernel_rfl
theorem Bv (p:PtrM) (h:HartM) (w:World) (hi:HartIn w p h) (h8:h.regs.length=8):
 Calls Tryz.prog 47 #[.agg (ax p h)] w fun e w'=>e=.returned (.agg (gc h))∧Bw w w':=by
 have F:=jw w (ax p h) #[.int .u64 0,.int .u64 0,.int .u64 0,.int .u64 0,.int .u64 0,.int .u64 0,.int .u64 0,.int .u64 0,.int .u64 0,.int .i64 0,.bool false,.bool false,.int .u64 0,.int .u64 0,.int .u64 0,.int .i64 0,.int .i64 0,.int .u64 0] 41 61;have HR:Hid _:=hi.regs;obtain ⟨q,hq⟩:∃q,p.ar=some q:=by
  cases e:p.ar with
  | none=>have:=(hi.rega.1 e).1;omega
  | some q=>exact ⟨q,rfl⟩
 have hql:=hi.low q (by simp [aV,hq]);have hqs:=hi.rega.2 q hq;obtain ⟨qb,qo,qs⟩:=q;simp only at hqs hql;subst hqs;have HRw:Hid (∀u,Bw w u->∀i:Nat,i<8->u.cell? ⟨qb,qo+i,none⟩=some (.int .u64 (h.regs[i]?.getD 0))):=fun u hu i hlt=>by
  rcases (hi.regs.keep hu).2 with h0 | ⟨b,off,e,_,hc⟩
  ·omega
  ·rw [hq] at e;cases e;refine hc i _ ?_;unfold cU;rw [List.getElem?_map,List.getElem?_eq_getElem (by omega)];rfl
 clear hi HR;unfold ax at F |-;rw [hq,h8] at F |-;have ha:=Bu qb qo p.cr;go_enter Tryz.func47,Tryz.ntmps47;go_upto_region 1 with fail;generalize (w.alloc _).alloc _=v1 at F |-;obtain ⟨f1,f2,f3,n1⟩:=F;have D:Bw w v1.drew:=bst n1 (Below.refl _ _).drew;have e1:v1.drew.heap[w.heap.size]?=_:=f1;have e2:v1.drew.heap[w.heap.size+1]?=_:=f2;have RW:∀i:Nat,i<8->v1.drew.cell? ⟨qb,qo+i,none⟩=some (.int .u64 (h.regs[i]?.getD 0)):=fun i hi=>HRw.out v1.drew D i hi;have c1:=ab e1 1 (v:=.slice (some ⟨qb,qo,none⟩) 8 p.cr) rfl;have c2:=ab e1 2 (v:=.int .u64 h.pc) rfl;have c3:=ab e1 3 (v:=.int .i64 h.mode) rfl;have c4:=ab e1 4 (v:=.bool h.sum) rfl;have c5:=ab e1 5 (v:=.bool h.mxr) rfl;have c6:=ab e1 6 (v:=.int .u64 h.satp) rfl;have c7:=ab e1 7 (v:=.int .u64 h.tvec) rfl;have c8:=ab e1 8 (v:=.int .u64 h.epc) rfl;have c9:=ab e1 9 (v:=.int .i64 h.emode) rfl;have c10:=ab e1 10 (v:=.int .i64 h.cause) rfl;have c11:=ab e1 11 (v:=.int .u64 h.tval) rfl;have r0:v1.drew.cell? ⟨qb,qo,none⟩=some (.int .u64 (h.regs[0]?.getD 0)):=RW 0 (by omega);have r1:=RW 1 (by omega);have r2:=RW 2 (by omega);have r3:=RW 3 (by omega);have r4:=RW 4 (by omega);have r5:=RW 5 (by omega);have r6:=RW 6 (by omega);have r7:=RW 7 (by omega);obtain ⟨x0,hx0⟩:∃x,h.regs[0]?.getD 0=x:=⟨_,rfl⟩;rw [hx0] at r0;obtain ⟨x1,hx1⟩:∃x,h.regs[1]?.getD 0=x:=⟨_,rfl⟩;rw [hx1] at r1;obtain ⟨x2,hx2⟩:∃x,h.regs[2]?.getD 0=x:=⟨_,rfl⟩;rw [hx2] at r2;obtain ⟨x3,hx3⟩:∃x,h.regs[3]?.getD 0=x:=⟨_,rfl⟩;rw [hx3] at r3;obtain ⟨x4,hx4⟩:∃x,h.regs[4]?.getD 0=x:=⟨_,rfl⟩;rw [hx4] at r4;obtain ⟨x5,hx5⟩:∃x,h.regs[5]?.getD 0=x:=⟨_,rfl⟩;rw [hx5] at r5;obtain ⟨x6,hx6⟩:∃x,h.regs[6]?.getD 0=x:=⟨_,rfl⟩;rw [hx6] at r6;obtain ⟨x7,hx7⟩:∃x,h.regs[7]?.getD 0=x:=⟨_,rfl⟩;rw [hx7] at r7;have HCA:Hid (gc h=#[.int .u64 x0,.int .u64 x1,.int .u64 x2,.int .u64 x3,.int .u64 x4,.int .u64 x5,.int .u64 x6,.int .u64 x7,.int .u64 h.pc,.int .i64 h.mode,.bool h.sum,.bool h.mxr,.int .u64 h.satp,.int .u64 h.tvec,.int .u64 h.epc,.int .i64 h.emode,.int .i64 h.cause,.int .u64 h.tval]):=by
  show _=_;unfold gc;rw [hx0,hx1,hx2,hx3,hx4,hx5,hx6,hx7]
 have HE2:Hid _:=e2;have HD:Hid (Bw w v1.drew):=D;clear f1 f2 f3 n1 D e1 e2 RW hx0 hx1 hx2 hx3 hx4 hx5 hx6 hx7 HRw h8 hq;refine dl 25 (by kernel_rfl) (by kernel_rfl) ?_;simp only [List.take_succ_cons,List.take_zero,List.drop_succ_cons,List.drop_zero];generalize v1.drew=u at *;repeat still_step
 refine wpStill_nil ?_;have HS:Hid _:=bh (P:=Tryz.prog) (T:=61) (V:=#[.int .u64 x0,.int .u64 x1,.int .u64 x2,.int .u64 x3,.int .u64 x4,.int .u64 x5,.int .u64 x6,.int .u64 x7,.int .u64 h.pc,.int .i64 h.mode,.bool h.sum,.bool h.mxr,.int .u64 h.satp,.int .u64 h.tvec,.int .u64 h.epc,.int .i64 h.emode,.int .i64 h.cause,.int .u64 h.tval]) HE2.out yO rfl (by simp [Value.oneCell']);have HB:=aT (V:=#[.int .u64 x0,.int .u64 x1,.int .u64 x2,.int .u64 x3,.int .u64 x4,.int .u64 x5,.int .u64 x6,.int .u64 x7,.int .u64 h.pc,.int .i64 h.mode,.bool h.sum,.bool h.mxr,.int .u64 h.satp,.int .u64 h.tvec,.int .u64 h.epc,.int .i64 h.emode,.int .i64 h.cause,.int .u64 h.tval]) HE2.out rfl;have HN:Hid _:=aS (show w.heap.size<=w.heap.size+1 by omega) (#[.int .u64 x0,.int .u64 x1,.int .u64 x2,.int .u64 x3,.int .u64 x4,.int .u64 x5,.int .u64 x6,.int .u64 x7,.int .u64 h.pc,.int .i64 h.mode,.bool h.sum,.bool h.mxr,.int .u64 h.satp,.int .u64 h.tvec,.int .u64 h.epc,.int .i64 h.emode,.int .i64 h.cause,.int .u64 h.tval]:Array Value).toList 0 _ HD.out;have HW:Hid _:=bu (P:=Tryz.prog) HB Tryz.underlying61 rfl yO;obtain ⟨CA,hCA⟩:∃CA:Array Value,#[.int .u64 x0,.int .u64 x1,.int .u64 x2,.int .u64 x3,.int .u64 x4,.int .u64 x5,.int .u64 x6,.int .u64 x7,.int .u64 h.pc,.int .i64 h.mode,.bool h.sum,.bool h.mxr,.int .u64 h.satp,.int .u64 h.tvec,.int .u64 h.epc,.int .i64 h.emode,.int .i64 h.cause,.int .u64 h.tval]=CA:=⟨_,rfl⟩;rw [hCA] at HS HB HN HW HCA |-;clear hCA r0 r1 r2 r3 r4 r5 r6 r7 c1 c2 c3 c4 c5 c6 c7 c8 c9 c10 c11;go_wp2_with ((with_reducible refine aG ?_ ?_ HS.out ?_);(exact rfl);(exact rfl));refine dz (b:=w.heap.size+1) Tryz.results47 rfl HW.out rfl ?_;exact ⟨by rw [HCA.out],HN.out⟩
def wS (h:HartM) (gi gd gp:Nat):Array Value:=#[.int .u64 (h.regs[0]?.getD 0),.int .u64 (h.regs[1]?.getD 0),.int .u64 (h.regs[2]?.getD 0),.int .u64 (h.regs[3]?.getD 0),.int .u64 (h.regs[4]?.getD 0),.int .u64 (h.regs[5]?.getD 0),.int .u64 (h.regs[6]?.getD 0),.int .u64 (h.regs[7]?.getD 0),
 .int .u64 h.pc,.int .i64 h.mode,.bool h.sum,.bool h.mxr,.int .u64 h.satp,.int .u64 h.tvec,.int .u64 h.epc,.int .i64 h.emode,.int .i64 h.cause,.int .u64 h.tval,.slice none 0 0,.slice none 0 0,
 .int .i64 h.k.i.sets,.int .i64 h.k.i.ways,.slice (some ⟨gi,0,none⟩) h.k.i.es.length h.k.i.es.length,.int .i64 h.k.d.sets,.int .i64 h.k.d.ways,.slice (some ⟨gd,0,none⟩) h.k.d.es.length h.k.d.es.length,.int .i64 h.k.p.sets,.int .i64 h.k.p.ways,.slice (some ⟨gp,0,none⟩) h.k.p.es.length h.k.p.es.length,.nilIface]
theorem Bm {w:World} {O X:Nat->Prop} {m:MP} {h:HartM} (hb:w.heap[m.b]?=some (.cells (cJ h m.gm (.slice none 0 0) m.gi m.gd m.gp m.pv) 77 (0,0))) (hm:Blk 5 w m.gm h.mem) (ob:O m.b) (om:O m.gm) (bm:m.b≠m.gm) (xb:¬X m.b) (xm:¬X m.gm) (xo:∀i,X i->O i) (hh:HOk h) (obd:∀i,O i->i<w.heap.size):MW w O X m (.slice none 0 0) h []:=by
 have hs:=hh.v.size;simp only [ez,decide_eq_true_eq] at hs;exact ⟨hb,hm,⟨rfl,.inl ⟨rfl,rfl⟩⟩,ob,om,fun g e=>by simp [Value.ownBlock] at e,bm,xb,xm,fun i hi=>⟨xo i hi,obd i (xo i hi)⟩,hh.mem,hs.2.2,hh.v.regs,Nat.zero_le _,⟨0,0,none,rfl⟩,obd,fun o ho=>by simp at ho⟩
def DP (plain:Bool) (h:HartM) (w:World) (e:Ending) (w':World):Prop:=
 ∃m O X PI PA base,e=.returned (.tuple #[.pointer (some ⟨m.b,0,none⟩),.bool true])∧MW w' O X m (.slice none 0 0) h []∧Path m plain base X PI PA∧PI h.k w'∧(∀i,O i->w.heap.size<=i)∧w.heap.size<=base∧m.b≠m.gi∧m.b≠m.gd∧m.b≠m.gp
theorem uI (plain:Bool) (p:PtrM) (h:HartM) (w:World) (hi:HartIn w p h) (hl:h.mem.length<=1048576) (s0:0<=h.satp) (s1:h.satp<=18446744073709551615) (t0:0<=h.tvec) (hh:HOk h):
 Calls Tryz.prog 17 #[.agg (ax p h),.bool plain] w fun e w'=>DP plain h w e w'∧Bw w w':=by
 have F:=bS w (ax p h) 41;have KP:Hid (((ax p h).toList.drop 12).take 9=(kA p h.k).toList):=by show _=_;rfl
 have SA:Hid ((ax p h).size=21):=rfl;have A0:Hid ((ax p h)[0]?=some (.slice p.am h.mem.length p.cm)):=by show _=_;rfl
 have hv:=hh.v;have HHk:=hid hh;have hgk:=hv.ks;have hvv:=(dL h).2 hv;have hR:(ez h.mem.length && io h)=true:=by
  have:=hvv;unfold qK at this;rw [hgk,Bool.and_true] at this;exact this
 have C1:Hid (∀u,Bw w u->Calls Tryz.prog 45 #[.agg (kA p h.k)] u fun e w'=>Af u.heap.size w' e h.k∧Bw u w'):=fun u hu=>by
  have:=qQ _ h.k u (hi.ks.keep hu);rw [hgk] at this;exact this
 have C2:Hid (∀u,Bw w u->Calls Tryz.prog 46 #[.agg (ax p h)] u fun e w'=>e=.returned (.bool true)∧Bw u w'):=fun u hu=>by
  have:=td p h u (hi.keep hu) hl s0 s1 t0;rw [hR] at this;exact this
 have C3:=hid fun u (hu:Bw w u)=>Bv p h u (hi.keep hu) hv.regs;have HI:=hid hi;have HVH:=hid hv;clear hi hv hvv hR hgk hh;generalize ax p h=A at *;go_enter Tryz.func17,Tryz.ntmps17;go_upto_region 1 with fail;generalize (w.alloc (Obj.cells A 41))=u0 at F |-;obtain ⟨f1,hz,nB⟩:=F;have H1:Hid _:=f1;clear f1;have J1:Hid _:=dw (P:=Tryz.prog) (T:=39) H1.out Tryz.underlying39 rfl (o:=12) (kA p h.k).toList kI KP.out rfl;rw [show (kA p h.k).toList.toArray=kA p h.k from rfl] at J1;generalize kA p h.k=KA at *;go_wp2_with (first | ((with_reducible refine aZ ?_ J1.out ?_);(exact rfl)));refine (C1.out u0 nB).mono ?_;rintro e u1 ⟨⟨gi,gd,gp,rfl,hrw⟩,k1⟩;have HRw:=hid hrw;have lB:=nB.size;replace nB:=bst nB k1;replace H1:=ah H1 k1;clear J1 k1 hrw;have l1:w.heap.size<u1.heap.size:=by have:=(hpl H1.out);exact this
 unfold gP;go_upto_region 2 with fail;have n2:Bw w (u1.alloc (Obj.cells #[Value.int .i64 h.k.i.sets,Value.int .i64 h.k.i.ways,Value.slice (some ⟨gi,0,none⟩) h.k.i.es.length h.k.i.es.length,Value.int .i64 h.k.d.sets,Value.int .i64 h.k.d.ways,Value.slice (some ⟨gd,0,none⟩) h.k.d.es.length h.k.d.es.length,Value.int .i64 h.k.p.sets,Value.int .i64 h.k.p.ways,Value.slice (some ⟨gp,0,none⟩) h.k.p.es.length h.k.p.es.length] 73)):=nB.alloc nB.size _;have F2:=bS u1 #[Value.int .i64 h.k.i.sets,Value.int .i64 h.k.i.ways,Value.slice (some ⟨gi,0,none⟩) h.k.i.es.length h.k.i.es.length,Value.int .i64 h.k.d.sets,Value.int .i64 h.k.d.ways,Value.slice (some ⟨gd,0,none⟩) h.k.d.es.length h.k.d.es.length,Value.int .i64 h.k.p.sets,Value.int .i64 h.k.p.ways,Value.slice (some ⟨gp,0,none⟩) h.k.p.es.length h.k.p.es.length] 73;have H2:Hid ((u1.alloc (Obj.cells #[Value.int .i64 h.k.i.sets,Value.int .i64 h.k.i.ways,Value.slice (some ⟨gi,0,none⟩) h.k.i.es.length h.k.i.es.length,Value.int .i64 h.k.d.sets,Value.int .i64 h.k.d.ways,Value.slice (some ⟨gd,0,none⟩) h.k.d.es.length h.k.d.es.length,Value.int .i64 h.k.p.sets,Value.int .i64 h.k.p.ways,Value.slice (some ⟨gp,0,none⟩) h.k.p.es.length h.k.p.es.length] 73)).heap[w.heap.size]?=some (.cells A 41 (0,0))):=(heap_alloc_old u1 _ l1).trans H1.out;generalize u1.alloc (Obj.cells #[Value.int .i64 h.k.i.sets,Value.int .i64 h.k.i.ways,Value.slice (some ⟨gi,0,none⟩) h.k.i.es.length h.k.i.es.length,Value.int .i64 h.k.d.sets,Value.int .i64 h.k.d.ways,Value.slice (some ⟨gd,0,none⟩) h.k.d.es.length h.k.d.es.length,Value.int .i64 h.k.p.sets,Value.int .i64 h.k.p.ways,Value.slice (some ⟨gp,0,none⟩) h.k.p.es.length h.k.p.es.length] 73)=u2 at n2 H2 F2 |-;obtain ⟨fc,fs,fb⟩:=F2;have R2:=hid (HRw.out.keep fb);have S2:=hid fc;clear fc fs fb HRw;have J2:Hid _:=be (P:=Tryz.prog) (T:=41) H2.out Tryz.underlying41 rfl (by rw [SA.out];exact fx);go_wp2_with (first | ((with_reducible refine pr ?_ ?_ J2.out ?_);(exact rfl);(exact rfl)));refine (C2.out u2 n2).mono ?_;rintro e u3 ⟨rfl,k3⟩;have R3:=hid (R2.out.keep k3);have S3:Hid _:=ah S2 k3;have H3:Hid _:=ah H2 k3;replace n2:=bst n2 k3;clear k3 H2 J2 S2 R2;go_upto_region 4 with fail;have HLa:=hid fun (u:World) (hu:u.heap[w.heap.size]?=some (.cells A 41 (0,0)))=>be (P:=Tryz.prog) (T:=41) hu Tryz.underlying41 rfl (by rw [SA.out];exact fx);have HLs:=hid fun (u:World) (hu:u.heap[u1.heap.size]?=some (.cells (gP h.k gi gd gp) 73 (0,0)))=>be (P:=Tryz.prog) (T:=73) hu Tryz.underlying73 rfl (by kernel_rfl);have hF:u3.drew.heap[w.heap.size]?=some (.cells A 41 (0,0))∧u3.drew.heap[u1.heap.size]?=some (.cells (gP h.k gi gd gp) 73 (0,0)):=⟨H3.out,S3.out⟩;refine aN (fun v=>v.heap[w.heap.size]?=some (.cells A 41 (0,0))∧v.heap[u1.heap.size]?=some (.cells (gP h.k gi gd gp) 73 (0,0))) 3 (by kernel_rfl) ?_;refine lj 0 22 (.agg A) rfl hF ?_ (hy:=fun u hu=>aX rfl (HLa.out u hu.1));simp only [aPt,sTa,sCs,sCz];refine lj 2 24 (.agg (gP h.k gi gd gp)) rfl hF ?_ (hy:=fun u hu=>aX rfl (HLs.out u hu.2));simp only [aPt,sTa,sCs,sCz];have D3:=bdr u3;refine cO 1 23 (by kernel_rfl) rfl (by kernel_rfl) (by kernel_rfl) (f:=47) (args:=#[.agg A]) (by kernel_rfl) ?_;refine (C3.out u3.drew (bst n2 D3)).mono ?_;rintro e u4 ⟨rfl,k4'⟩;have k4:=bst D3 k4';have n4:=bst n2 k4;have R4:=hid (R3.out.keep k4);have H4:Hid _:=ah H3 k4;have S4:Hid _:=ah S3 k4;refine .inl ⟨_,rfl,fun _=>⟨H4.out,S4.out⟩,?_⟩;simp only [aPt,sTa,sCs,sCz];refine eM 3 25 (w':=u4) (.agg (wS h gi gd gp)) (by kernel_rfl) rfl (by kernel_rfl) (by kernel_rfl) (by kernel_rfl) (fun h=>by simp at h) ?_;simp only [aPt,sTa,sCs,sCz];have F5:=bS u4 (wS h gi gd gp) 77;refine eM 4 26 (w':=u4.alloc (Obj.cells (wS h gi gd gp) 77)) (.pointer (some ⟨u4.heap.size,0,none⟩)) (by kernel_rfl) rfl (by kernel_rfl) (by kernel_rfl) (by kernel_rfl) (fun h=>by simp at h) ?_;simp only [aPt,sTa,sCs,sCz];refine eM 5 8 (w':=u4.alloc (Obj.cells (wS h gi gd gp) 77)) (.pointer (some ⟨u4.heap.size,0,none⟩)) (by kernel_rfl) rfl (by kernel_rfl) (by kernel_rfl) (by kernel_rfl) (fun h=>by simp at h) ?_;simp only [aPt,sTa,sCs,sCz];refine bJ (by kernel_rfl) ?_ _;obtain ⟨f5,z5,b5⟩:=F5;generalize u4.alloc (Obj.cells (wS h gi gd gp) 77)=u5 at f5 z5 b5 |-;have n5:=bst n4 b5;have R5:=hid (R4.out.keep b5);have H5:Hid _:=ah H4 b5;have M5:=hid f5;have l4:=(hpl H4.out);have CC:Hid _:=xy p.am h.mem.length p.cm h.mem u5 (HI.out.mem.keep n5) hl;have c0:=ab H5.out 0 A0.out;have Z5:Hid _:=z5;have LI:Hid (gi<u4.heap.size∧gd<u4.heap.size∧gp<u4.heap.size):=⟨(bZ R4.out.1).2.2,(bZ R4.out.2.1).2.2,(bZ R4.out.2.2.1).2.2⟩;have LB:Hid (w.heap.size<=gi∧w.heap.size<=gd∧w.heap.size<=gp):=by
  have q1:=(bZ R4.out.1).2.1;have q2:=(bZ R4.out.2.1).2.1;have q3:=(bZ R4.out.2.2.1).2.1;simp only at q1 q2 q3;exact ⟨by omega,by omega,by omega⟩
 clear f5 z5 b5 R4 H4 S4 hF D3 k4 k4' n4 R3 S3 H3 n2 HLa HLs C1 C2 C3;go_wp2_with fail;refine Calls.mono CC.out ?_;rintro e u6 ⟨rfl,m6,b6⟩;have M6:Hid _:=ah M5 b6;have k18:=ab M6.out 18 (v:=.slice none 0 0) rfl;have f18:=ay M6.out 18;have G6:=hid m6;have R6:=hid (R5.out.keep b6);have n6:=bst n5 b6;clear m6 b6 c0 CC R5 H5 M5 n5;go_upto_region 6 with fail;have g7:=ak (aq u6 (some u4.heap.size)) 18 (.slice (some ⟨u5.heap.size,0,none⟩) h.mem.length h.mem.length);have M7:Hid _:=bB (v:=.slice (some ⟨u5.heap.size,0,none⟩) h.mem.length h.mem.length) (i:=18) M6.out;generalize u6.setCell ⟨u4.heap.size,18,none⟩ (.slice (some ⟨u5.heap.size,0,none⟩) h.mem.length h.mem.length)=u7 at g7 M7 |-;have hz5:=Z5.out;have hli:=LI.out;have G7:=hid (G6.out.gb g7 (by omega));have R7:Hid (RowsAt u7 u0.heap.size gi gd gp h.k):=⟨dy R6.out.1 g7 (by omega),dy R6.out.2.1 g7 (by omega),dy R6.out.2.2.1 g7 (by omega),R6.out.2.2.2⟩;have n7:Bw w u7:=⟨g7.os.trans n6.os,g7.tape.trans n6.tape,g7.output.trans n6.output,Nat.le_trans n6.size g7.size,fun i hi=>(g7.block i (Nat.lt_of_lt_of_le hi n6.size) (by simp;omega)).trans (n6.block i hi)⟩;have k29:=ab M7.out 29 (v:=.nilIface) rfl;have f29:=ay M7.out 29;clear hz5 hli g7 M6 G6 R6 n6 k18 f18;cases plain
 ·have CT:Hid _:=qz ⟨u4.heap.size,20,none⟩ u7;go_wp2_with fail;refine Calls.mono CT.out ?_;rintro e v7 ⟨rfl,hbx,b8⟩;have HBx:=hid hbx;have M8':Hid _:=ah M7 b8;have G8':=hid (G7.out.keep b8 G7.out.lt);have R8':=hid (R7.out.keep b8);have n8':=bst n7 b8;have L7:=hid G7.out.lt;replace k29:=ab M8'.out 29 (v:=.nilIface) rfl;replace f29:=ay M8'.out 29;clear hbx b8 CT;go_wp2_with fail;have g8:=ak (aq v7 (some u4.heap.size)) 29 (.iface 148 (.pointer (some ⟨u7.heap.size,0,none⟩)));have M8:=bB (v:=(.iface 148 (.pointer (some ⟨u7.heap.size,0,none⟩)))) (i:=29) M8'.out;generalize v7.setCell ⟨u4.heap.size,29,none⟩ (.iface 148 (.pointer (some ⟨u7.heap.size,0,none⟩)))=u8 at g8 M8 |-;have hz5:=Z5.out;have hli:=LI.out;have hlb:=LB.out;have hl7:=L7.out;have G8:=G8'.out.gb g8 (by omega);have R8:RowsAt u8 u0.heap.size gi gd gp h.k:=⟨dy R8'.out.1 g8 (by omega),dy R8'.out.2.1 g8 (by omega),dy R8'.out.2.2.1 g8 (by omega),R8'.out.2.2.2⟩;have B8:=aC HBx.out g8 (show u7.heap.size≠u4.heap.size by omega);have n8:Bw w u8:=⟨g8.os.trans n8'.os,g8.tape.trans n8'.tape,g8.output.trans n8'.output,Nat.le_trans n8'.size g8.size,fun i hi=>(g8.block i (Nat.lt_of_lt_of_le hi n8'.size) (by simp;omega)).trans (n8'.block i hi)⟩;have q5:=G8.lt;have q7:=(hpl B8);refine bodyPost_ret (v:=.tuple #[.pointer (some ⟨u4.heap.size,0,none⟩),.bool true]) (by simp [results,Tryz.results17,go_sem]) rfl ⟨⟨⟨u4.heap.size,u5.heap.size,gi,gd,gp,148,.pointer (some ⟨u7.heap.size,0,none⟩)⟩,fun i=>i=u4.heap.size∨i=u5.heap.size∨i=gi∨i=gd∨i=gp∨i=u7.heap.size,cX _ u7.heap.size,_,_,u0.heap.size,rfl,Bm M8 G8 (.inl rfl) (.inr (.inl rfl)) (show u4.heap.size≠u5.heap.size by omega) ?_ ?_ ?_ HHk.out ?_,Path.cached _ u7.heap.size _ ⟨rfl,rfl,show u4.heap.size≠gi by omega,show u4.heap.size≠gd by omega,show u4.heap.size≠gp by omega,show u7.heap.size≠gi by omega,show u7.heap.size≠gd by omega,show u7.heap.size≠gp by omega⟩ (show u4.heap.size≠u7.heap.size by omega),⟨0,R8,B8⟩,?_,by omega,show u4.heap.size≠gi by omega,show u4.heap.size≠gd by omega,show u4.heap.size≠gp by omega⟩,n8⟩
  ·rintro (e | e | e | e) <;> (simp only at e;omega)
  ·rintro (e | e | e | e) <;> (simp only at e;omega)
  ·rintro i (e | e | e | e)
   ·exact .inr (.inr (.inl e))
   ·exact .inr (.inr (.inr (.inl e)))
   ·exact .inr (.inr (.inr (.inr (.inl e))))
   ·exact .inr (.inr (.inr (.inr (.inr e))))
  ·rintro i (e | e | e | e | e | e) <;> omega
  ·rintro i (e | e | e | e | e | e) <;> omega
 ·have CT:Hid _:=qy ⟨u4.heap.size,20,none⟩ u7;go_wp2_with fail;refine Calls.mono CT.out ?_;rintro e u8 ⟨rfl,hu⟩;rw [hu];clear hu CT;go_wp2_with fail;have g8:=ak (aq u7 (some u4.heap.size)) 29 (.iface 147 (.agg #[]));have M8:=bB (v:=(.iface 147 (.agg #[]))) (i:=29) M7.out;generalize u7.setCell ⟨u4.heap.size,29,none⟩ (.iface 147 (.agg #[]))=u8 at g8 M8 |-;have hz5:=Z5.out;have hli:=LI.out;have hlb:=LB.out;have G8:=G7.out.gb g8 (by omega);have R8:RowsAt u8 u0.heap.size gi gd gp h.k:=⟨dy R7.out.1 g8 (by omega),dy R7.out.2.1 g8 (by omega),dy R7.out.2.2.1 g8 (by omega),R7.out.2.2.2⟩;have n8:Bw w u8:=⟨g8.os.trans n7.os,g8.tape.trans n7.tape,g8.output.trans n7.output,Nat.le_trans n7.size g8.size,fun i hi=>(g8.block i (Nat.lt_of_lt_of_le hi n7.size) (by simp;omega)).trans (n7.block i hi)⟩;have q5:=G8.lt;refine bodyPost_ret (v:=.tuple #[.pointer (some ⟨u4.heap.size,0,none⟩),.bool true]) (by simp [results,Tryz.results17,go_sem]) rfl ⟨⟨⟨u4.heap.size,u5.heap.size,gi,gd,gp,147,.agg #[]⟩,fun i=>i=u4.heap.size∨i=u5.heap.size∨i=gi∨i=gd∨i=gp,pX _,_,_,u0.heap.size,rfl,Bm M8 G8 (.inl rfl) (.inr (.inl rfl)) (show u4.heap.size≠u5.heap.size by omega) ?_ ?_ ?_ HHk.out ?_,Path.plain _ _ rfl rfl,R8,?_,by omega,show u4.heap.size≠gi by omega,show u4.heap.size≠gd by omega,show u4.heap.size≠gp by omega⟩,n8⟩
  ·rintro (e | e | e) <;> (simp only at e;omega)
  ·rintro (e | e | e) <;> (simp only at e;omega)
  ·rintro i (e | e | e)
   ·exact .inr (.inr (.inl e))
   ·exact .inr (.inr (.inr (.inl e)))
   ·exact .inr (.inr (.inr (.inr e)))
  ·rintro i (e | e | e | e | e) <;> omega
  ·rintro i (e | e | e | e | e) <;> omega
theorem Au (b c:Nat) (w:World):(binOp .eql 24 (.slice (some ⟨b,0,none⟩) 8 c) (.slice none 0 0)).run Tryz.prog w=.ok (.bool false) w:=by kernel_rfl
theorem Cf (b c:Nat) (zs:List Int) (w:World) (h8:zs.length=8) (hr:RowC w (some ⟨b,0,none⟩) 8 1 (cU zs)):
 Calls Tryz.prog 19 #[.slice (some ⟨b,0,none⟩) 8 c] w fun e w'=>∃v,e=.returned v∧w'.ownsRow w.heap.size 25 1 v 8 (cU zs)∧Bw w w':=by
 have HR:=hid hr;have qe:=Au b c;clear hr;go_enter Tryz.func19,Tryz.ntmps19;have F:=bS w #[] 25;have HO:Hid ((w.alloc (Obj.cells #[] 25)).ownsRow w.heap.size 25 1 (.slice (some ⟨w.heap.size,0,none⟩) 0 0) 0 []):=⟨rfl,.inr ⟨w.heap.size,0,#[],rfl,nle,F.1,by simp,by simp⟩⟩;have HR1:=hid (HR.out.keep F.2.2);have n1:=F.2.2;clear F;go_wp2_with (at_builtin;refine ld _ rfl (.tmp 5) (.tmp 6) 24 rfl 25 (by kernel_rfl) (.int .u64 0) 1 8 (by kernel_rfl) rfl (by decide) w.heap.size 0 _ [] rfl HO.out b 0 8 c (cU zs) rfl (by omega) HR1.out (by intro u hu;simp only [cU,List.mem_map] at hu;obtain ⟨z,_,rfl⟩:=hu;rfl) (by omega) (by omega) (by have:=n1.size;omega) w.heap.size w n1 nle ?_;intro g5 cp5 v5 o5 n5;have HO5:Hid (v5.ownsRow w.heap.size 25 1 (.slice (some ⟨g5,0,none⟩) (0+8) cp5) (0+8) ([]++cU zs)):=o5;have HN5:Hid (Bw w v5):=n5;clear o5 n5);go_ret;exact ⟨_,rfl,HO5.out,HN5.out⟩
theorem zk {w:World} {O X:Nat->Prop} {m:MP} {ov:Value} {h:HartM} {ol:List (Nat × Int)} (k:MW w O X m ov h ol):RowC w (some ⟨m.b,0,none⟩) 8 1 (cU h.regs):=by
 have hl:=k.regs;refine ⟨by simp [cU,hl],.inr ⟨m.b,0,rfl,k.lt,fun i v hv=>?_⟩⟩;have hi:i<8:=by
  have:=(List.getElem?_eq_some_iff.1 hv).1;simpa [cU,hl] using this
 have hv':v=.int .u64 (h.regs[i]?.getD 0):=by
  unfold cU at hv;rw [List.getElem?_map,List.getElem?_eq_getElem (by omega)] at hv;simp only [Option.map_some,Option.some.injEq] at hv;rw [<-hv,List.getElem?_eq_getElem (by omega)];rfl
 rw [hv',Nat.zero_add];obtain rfl | rfl | rfl | rfl | rfl | rfl | rfl | rfl:i=0∨i=1∨i=2∨i=3∨i=4∨i=5∨i=6∨i=7:=by omega
 all_goals exact ab k.blk _ rfl
theorem BH (b:Nat) (w:World):(Instr.sliceAt 59 (.pointer (some ⟨b,0,none⟩)) none none none).run Tryz.prog w=.ok (.slice (some ⟨b,0,none⟩) 8 8) w:=by kernel_rfl
end Go.Proofs.YtpdddbobhndbjaaGreat
