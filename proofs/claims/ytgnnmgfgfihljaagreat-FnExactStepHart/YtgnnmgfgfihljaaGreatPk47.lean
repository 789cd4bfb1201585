import Derived.Test.YtgnnmgfgfihljaaGreatPk46
namespace Go.Proofs.YtgnnmgfgfihljaaGreat
open Go.RowKit
set_option linter.unusedVariables false
set_option maxHeartbeats 6400000
set_option maxRecDepth 20000
section
attribute [local go_sem ↓] Go.wp_at_zero Go.wp_at_succ
def DecOwn (w:World) (h:HartM) (ps:List Int):Ending->World->Prop:=fun e w'=>(∃g1 c1 g2 c2 g3 c3 gm cm gr cr gp cp,e=.returned (.agg (xY ⟨some ⟨gm,0,none⟩,cm,some ⟨gr,0,none⟩,cr,some ⟨g1,0,none⟩,c1,some ⟨g2,0,none⟩,c2,some ⟨g3,0,none⟩,c3⟩ (some ⟨gp,0,none⟩) cp h ps))∧
 OwnC 153 6 w' w.heap.size g1 h.k.i.es.length c1 (az h.k.i.es)∧OwnC 153 6 w' w.heap.size g2 h.k.d.es.length c2 (az h.k.d.es)∧OwnC 153 6 w' w.heap.size g3 h.k.p.es.length c3 (az h.k.p.es)∧
 OwnC 5 1 w' w.heap.size gm h.mem.length cm (ja h.mem)∧OwnC 24 1 w' w.heap.size gr h.regs.length cr (cH h.regs)∧OwnC 2 1 w' w.heap.size gp ps.length cp (At ps)∧g1≠g2∧g1≠g3∧g2≠g3)∧Below w.heap.size w w'
end
theorem HartIn.row {w:World} {p:PtrM} {h:HartM} (k:HartIn w p h):HartR w p h∧h.k.i.es.length<=1048576∧h.k.d.es.length<=1048576∧h.k.p.es.length<=1048576:=by
 obtain ⟨a1,c1,a2,c2,a3,c3,he,t1,t2,t3⟩:=k.ks;simp only [kA,Value.agg.injEq,Array.mk.injEq,List.cons.injEq,Value.slice.injEq,true_and,and_true] at he;obtain ⟨⟨rfl,rfl⟩,⟨rfl,rfl⟩,rfl,rfl⟩:=he;exact ⟨⟨k.mem,k.regs,t1.row.1,t2.row.1,t3.row.1⟩,t1.row.2,t2.row.2,t3.row.2⟩
structure ScrO (base:Nat) (v:World) (p:PtrM) (h:HartM) (pa:Option Addr) (pc:Nat) (ps:List Int):Prop where
 hart:HartO base v p h (ja h.mem) (cH h.regs) (az h.k.i.es) (az h.k.d.es) (az h.k.p.es)
 pick:v.ownsRow base 2 1 (.slice pa ps.length pc) ps.length (At ps)
theorem ScrO.keep {base:Nat} {v v':World} {p:PtrM} {h:HartM} {pa:Option Addr} {pc:Nat} {ps:List Int} (k:ScrO base v p h pa pc ps) (hb:Below v.heap.size v v'):ScrO base v' p h pa pc ps:=
 ⟨k.hart.keep hb,ag k.pick hb⟩
theorem ScrO.gb {base r:Nat} {v v':World} {p:PtrM} {h:HartM} {pa:Option Addr} {pc:Nat} {ps:List Int} (k:ScrO base v p h pa pc ps) (hg:v.grownBy v' (some r)) (hr:r<base):ScrO base v' p h pa pc ps:=
 ⟨k.hart.gb hg hr,bX k.pick hg hr⟩
theorem ScrO.low {base:Nat} {v:World} {p:PtrM} {h:HartM} {pa:Option Addr} {pc:Nat} {ps:List Int} (k:ScrO base v p h pa pc ps):∀g,Bh p h pa pc ps g->base<=g:=by
 rintro g (h1 | h1)
 ·exact (k.hart.low g h1).1
 ·exact (k.pick.lt g h1).1
theorem ScrO.box {base pb:Nat} {v:World} {p:PtrM} {h:HartM} {pa:Option Addr} {pc:Nat} {ps:List Int} {cur:Array Value} {q:Nat × Nat} (k:ScrO base v p h pa pc ps) (hp:v.heap[pb]?=some (.cells cur 83 q)):¬Bh p h pa pc ps pb:=by
 rintro (h1 | h1)
 ·exact k.hart.box_ne hp (by decide) (by decide) (by decide) h1
 ·exact eg k.pick hp (by decide) h1
theorem DecOwn.own {w v:World} {h:HartM} {ps:List Int} {e:Ending} (d:DecOwn w h ps e v):(∃p pa pc,e=.returned (.agg (xY p pa pc h ps))∧ScrO w.heap.size v p h pa pc ps)∧Below w.heap.size w v:=by
 obtain ⟨⟨g1,c1,g2,c2,g3,c3,gm,cm,gr,cr,gp,cp,rfl,o1,o2,o3,om,oR,op,n12,n13,n23⟩,n⟩:=d;refine ⟨⟨_,_,_,rfl,⟨om,oR,o1,o2,o3,?_,?_,?_⟩,op⟩,n⟩
 ·intro g h1 h2;exact n12 (Option.some.inj (h1.trans h2.symm))
 ·intro g h1 h2;exact n13 (Option.some.inj (h1.trans h2.symm))
 ·intro g h1 h2;exact n23 (Option.some.inj (h1.trans h2.symm))
section
attribute [local go_sem ↓] Go.wp_at_zero Go.wp_at_succ
theorem vs (p:PtrM) (h:HartM) (w:World) (hi:HartIn w p h) (hl:h.mem.length<=1048576) (s0:0<=h.satp) (s1:h.satp<=18446744073709551615) (t0:0<=h.tvec) (h8:h.regs.length=8):
 Calls Tryz.prog 54 #[.agg (ah p h)] w fun e w'=>e=.returned (.bool (dU h.mem.length && fl h))∧Below w.heap.size w w':=by
 have F:=bL w (ah p h) 39;have A0:Hid ((ah p h)[0]?=some (.slice p.am h.mem.length p.cm)):=by show _=_;rfl
 have A1:Hid ((ah p h)[1]?=some (.slice p.ar h.regs.length p.cr)):=by show _=_;rfl
 have A3:Hid ((ah p h)[3]?=some (.int .i64 h.mode)):=by show _=_;rfl
 have A6:Hid ((ah p h)[6]?=some (.int .u64 h.satp)):=by show _=_;rfl
 have A7:Hid ((ah p h)[7]?=some (.int .u64 h.tvec)):=by show _=_;rfl
 have A9:Hid ((ah p h)[9]?=some (.int .i64 h.emode)):=by show _=_;rfl
 have A10:Hid ((ah p h)[10]?=some (.int .i64 h.cause)):=by show _=_;rfl
 obtain ⟨R,hR⟩:∃R,(dU h.mem.length && fl h)=R:=⟨_,rfl⟩;have HF:Hid (R=true->fK h):=fun hr=>(gz h).1 (hR.trans hr);have HT:Hid (fK h->R=true):=fun h1=>hR.symm.trans ((gz h).2 h1);unfold fK at HF HT;rw [hR];have P1:Hid (∀u,Calls Tryz.prog 92 #[.int .i64 h.mem.length] u fun e w'=>e=.returned (.bool (dU h.mem.length))∧w'=u):=fun u=>kY h.mem.length u hl;have P2:Hid (∀m u,Calls Tryz.prog 93 #[.int .i64 m] u fun e w'=>e=.returned (.bool (decide (0<=m∧m<=2)))∧w'=u):=fun m u=>je m u;have P3:Hid (∀u,Calls Tryz.prog 94 #[.int .u64 h.satp] u fun e w'=>e=.returned (.bool (dE h.satp))∧w'=u):=fun u=>ie h.satp u s0 s1;obtain ⟨rb,ro,hra,rlt,rc⟩:=sa hi.regs h8;have g8:(h.regs.length:Int)=8:=by omega
 rw [hra] at A1;clear hi hR h8;generalize ah p h=A at *;generalize h.mem.length=n at *;generalize h.regs.length=m at *;generalize h.regs[0]?.getD 0=r0 at *;go_enter Tryz.func54,Tryz.ntmps54;go_upto_region 1 with fail;generalize (w.alloc (Obj.cells A 39))=u0 at F |-;obtain ⟨f1,hz,nB⟩:=F;have H1:Hid _:=f1;clear f1;have m8:m=8:=by omega
 subst m8;have x0:u0.cell? ⟨rb,ro,none⟩=some (.int .u64 r0):=(nB.cell (by exact rlt)).trans rc;clear rc;have c0:=aa H1.out 0 A0.out;have c1:=aa H1.out 1 A1.out;have c3:=aa H1.out 3 A3.out;have c6:=aa H1.out 6 A6.out;have c7:=aa H1.out 7 A7.out;have c9:=aa H1.out 9 A9.out;have c10:=aa H1.out 10 A10.out;go_wp2_with fail;refine (P1.out u0).mono ?_;rintro e _ ⟨rfl,rfl⟩;by_cases hzz:(n:Int)%64=0∧64<=(n:Int)∧(n:Int)<=4096
 rotate_left 1
 ·rw [show dU n=false from (by unfold dU;exact decide_eq_false (by omega))];go_wp2_with fail
  any_goals (
   go_ret;refine ⟨?_,nB⟩;have hq:R=false:=(by
    cases R with
    | false=>rfl
    | true=>
     obtain ⟨⟨q1,q2,q3⟩,q4,q5,⟨q6,q7⟩,⟨q8,q9⟩,q10,q11,⟨q12,q13⟩⟩:=HF.out rfl;first
     | (exfalso;omega)
     | (simp_all))
   subst hq;exact rfl)
 rw [show dU n=true from (by unfold dU;exact decide_eq_true (by omega))];by_cases hr0:r0=0
 rotate_left 1
 ·have dr:(r0 != 0)=true:=by simpa using hr0
  go_wp2_with fail
  any_goals (
   go_ret;refine ⟨?_,nB⟩;have hq:R=false:=(by
    cases R with
    | false=>rfl
    | true=>
     obtain ⟨⟨q1,q2,q3⟩,q4,q5,⟨q6,q7⟩,⟨q8,q9⟩,q10,q11,⟨q12,q13⟩⟩:=HF.out rfl;first
     | (exfalso;omega)
     | (simp_all))
   subst hq;exact rfl)
 subst hr0;go_wp2_with fail;refine (P2.out h.mode _).mono ?_;rintro e _ ⟨rfl,rfl⟩;by_cases hm:0<=h.mode∧h.mode<=2
 rotate_left 1
 ·rw [decide_eq_false hm];go_wp2_with fail
  any_goals (
   go_ret;refine ⟨?_,nB⟩;have hq:R=false:=(by
    cases R with
    | false=>rfl
    | true=>
     obtain ⟨⟨q1,q2,q3⟩,q4,q5,⟨q6,q7⟩,⟨q8,q9⟩,q10,q11,⟨q12,q13⟩⟩:=HF.out rfl;first
     | (exfalso;omega)
     | (simp_all))
   subst hq;exact rfl)
 rw [decide_eq_true hm];have HM:Hid _:=hm;clear hm;go_wp2_with fail;refine (P2.out h.emode _).mono ?_;rintro e _ ⟨rfl,rfl⟩;by_cases he:0<=h.emode∧h.emode<=2
 rotate_left 1
 ·rw [decide_eq_false he];go_wp2_with fail
  any_goals (
   go_ret;refine ⟨?_,nB⟩;have hq:R=false:=(by
    cases R with
    | false=>rfl
    | true=>
     obtain ⟨⟨q1,q2,q3⟩,q4,q5,⟨q6,q7⟩,⟨q8,q9⟩,q10,q11,⟨q12,q13⟩⟩:=HF.out rfl;first
     | (exfalso;omega)
     | (simp_all))
   subst hq;exact rfl)
 rw [decide_eq_true he];have HE:Hid _:=he;clear he;go_wp2_with fail
 any_goals (
  go_ret;refine ⟨?_,nB⟩;have hq:R=false:=(by
   cases R with
   | false=>rfl
   | true=>
    obtain ⟨⟨q1,q2,q3⟩,q4,q5,⟨q6,q7⟩,⟨q8,q9⟩,q10,q11,⟨q12,q13⟩⟩:=HF.out rfl;first
    | (exfalso;omega)
    | (simp_all))
  subst hq;exact rfl)
 refine (P3.out _).mono ?_;rintro e _ ⟨rfl,rfl⟩;rcases Bool.eq_false_or_eq_true (dE h.satp) with hs | hs
 rotate_left 1
 ·rw [hs];go_wp2_with fail
  any_goals (
   go_ret;refine ⟨?_,nB⟩;have hq:R=false:=(by
    cases R with
    | false=>rfl
    | true=>
     obtain ⟨⟨q1,q2,q3⟩,q4,q5,⟨q6,q7⟩,⟨q8,q9⟩,q10,q11,⟨q12,q13⟩⟩:=HF.out rfl;first
     | (exfalso;omega)
     | (simp_all))
   subst hq;exact rfl)
 rw [hs];have HS:Hid _:=hs;clear hs;by_cases h4:h.tvec%4=0
 ·have hq:R=true:=HT.out ⟨hzz,by first | trivial | rfl | omega,by first | trivial | rfl | omega,HM.out,HE.out,HS.out,h4,⟨by omega,by omega⟩⟩;subst hq;go_wp2_with fail;go_ret;exact ⟨rfl,nB⟩
 ·have hq:R=false:=(by
   cases R with
   | false=>rfl
   | true=>
    obtain ⟨⟨q1,q2,q3⟩,q4,q5,⟨q6,q7⟩,⟨q8,q9⟩,q10,q11,⟨q12,q13⟩⟩:=HF.out rfl;exfalso;omega)
  subst hq;have d4:(h.tvec%4 == 0)=false:=by simpa using h4
  go_wp2_with fail;go_ret;exact ⟨rfl,nB⟩
theorem vu (p:PtrM) (h:HartM) (w:World) (hi:HartIn w p h) (hl:h.mem.length<=1048576) (s0:0<=h.satp) (s1:h.satp<=18446744073709551615) (t0:0<=h.tvec) (h8:¬h.regs.length=8):
 Calls Tryz.prog 54 #[.agg (ah p h)] w fun e w'=>e=.returned (.bool (dU h.mem.length && fl h))∧Below w.heap.size w w':=by
 have F:=bL w (ah p h) 39;have A0:Hid ((ah p h)[0]?=some (.slice p.am h.mem.length p.cm)):=by show _=_;rfl
 have A1:Hid ((ah p h)[1]?=some (.slice p.ar h.regs.length p.cr)):=by show _=_;rfl
 have A3:Hid ((ah p h)[3]?=some (.int .i64 h.mode)):=by show _=_;rfl
 have A6:Hid ((ah p h)[6]?=some (.int .u64 h.satp)):=by show _=_;rfl
 have A7:Hid ((ah p h)[7]?=some (.int .u64 h.tvec)):=by show _=_;rfl
 have A9:Hid ((ah p h)[9]?=some (.int .i64 h.emode)):=by show _=_;rfl
 have A10:Hid ((ah p h)[10]?=some (.int .i64 h.cause)):=by show _=_;rfl
 obtain ⟨R,hR⟩:∃R,(dU h.mem.length && fl h)=R:=⟨_,rfl⟩;have HF:Hid (R=true->fK h):=fun hr=>(gz h).1 (hR.trans hr);have HT:Hid (fK h->R=true):=fun h1=>hR.symm.trans ((gz h).2 h1);unfold fK at HF HT;rw [hR];have P1:Hid (∀u,Calls Tryz.prog 92 #[.int .i64 h.mem.length] u fun e w'=>e=.returned (.bool (dU h.mem.length))∧w'=u):=fun u=>kY h.mem.length u hl;have P2:Hid (∀m u,Calls Tryz.prog 93 #[.int .i64 m] u fun e w'=>e=.returned (.bool (decide (0<=m∧m<=2)))∧w'=u):=fun m u=>je m u;have P3:Hid (∀u,Calls Tryz.prog 94 #[.int .u64 h.satp] u fun e w'=>e=.returned (.bool (dE h.satp))∧w'=u):=fun u=>ie h.satp u s0 s1;have g8:¬(h.regs.length:Int)=8:=by omega
 clear hi hR h8;generalize ah p h=A at *;generalize h.mem.length=n at *;generalize h.regs.length=m at *;generalize h.regs[0]?.getD 0=r0 at *;go_enter Tryz.func54,Tryz.ntmps54;go_upto_region 1 with fail;generalize (w.alloc (Obj.cells A 39))=u0 at F |-;obtain ⟨f1,hz,nB⟩:=F;have H1:Hid _:=f1;clear f1;have c0:=aa H1.out 0 A0.out;have c1:=aa H1.out 1 A1.out;have c3:=aa H1.out 3 A3.out;have c6:=aa H1.out 6 A6.out;have c7:=aa H1.out 7 A7.out;have c9:=aa H1.out 9 A9.out;have c10:=aa H1.out 10 A10.out;go_wp2_with fail;refine (P1.out u0).mono ?_;rintro e _ ⟨rfl,rfl⟩;by_cases hzz:(n:Int)%64=0∧64<=(n:Int)∧(n:Int)<=4096
 rotate_left 1
 ·rw [show dU n=false from (by unfold dU;exact decide_eq_false (by omega))];go_wp2_with fail
  any_goals (
   go_ret;refine ⟨?_,nB⟩;have hq:R=false:=(by
    cases R with
    | false=>rfl
    | true=>
     obtain ⟨⟨q1,q2,q3⟩,q4,q5,⟨q6,q7⟩,⟨q8,q9⟩,q10,q11,⟨q12,q13⟩⟩:=HF.out rfl;first
     | (exfalso;omega)
     | (simp_all))
   subst hq;exact rfl)
 rw [show dU n=true from (by unfold dU;exact decide_eq_true (by omega))];go_wp2_with fail
 any_goals (
  go_ret;refine ⟨?_,nB⟩;have hq:R=false:=(by
   cases R with
   | false=>rfl
   | true=>
    obtain ⟨⟨q1,q2,q3⟩,q4,q5,⟨q6,q7⟩,⟨q8,q9⟩,q10,q11,⟨q12,q13⟩⟩:=HF.out rfl;first
    | (exfalso;omega)
    | (simp_all))
  subst hq;exact rfl)
theorem ly (p:PtrM) (h:HartM) (w:World) (hi:HartIn w p h) (hl:h.mem.length<=1048576) (s0:0<=h.satp) (s1:h.satp<=18446744073709551615) (t0:0<=h.tvec):
 Calls Tryz.prog 54 #[.agg (ah p h)] w fun e w'=>e=.returned (.bool (dU h.mem.length && fl h))∧Below w.heap.size w w':=by
 by_cases h8:h.regs.length=8
 ·exact vs p h w hi hl s0 s1 t0 h8
 ·exact vu p h w hi hl s0 s1 t0 h8
end
theorem pg (c:Addr) (w:World):Calls Tryz.prog 57 #[.bool true,.pointer (some c)] w fun e w'=>e=.returned (.iface 172 (.agg #[]))∧w'=w:=by
 go_enter Tryz.func57,Tryz.ntmps57;go_wp2_with fail;go_ret;exact ⟨rfl,rfl⟩
theorem ph (c:Addr) (w:World):Calls Tryz.prog 57 #[.bool false,.pointer (some c)] w fun e w'=>e=.returned (.iface 173 (.pointer (some ⟨w.heap.size,0,none⟩)))∧w'.heap[w.heap.size]?=some (.cells #[.pointer (some c),.int .i64 0] 175 (0,0))∧Below w.heap.size w w':=by
 have F:=bL w #[.pointer (some c),.int .i64 0] 175;go_enter Tryz.func57,Tryz.ntmps57;go_wp2_with fail;go_ret;exact ⟨rfl,F.1,F.2.2⟩
theorem Al (qb qo c:Nat) (w:World):(Instr.arrayAt 88 (.slice (some ⟨qb,qo,none⟩) 8 c)).run Tryz.prog w=.ok (.pointer (some ⟨qb,qo,none⟩)) w:=by kernel_rfl
theorem Am (p:PtrM) (h:HartM) (w:World) (hi:HartIn w p h) (h8:h.regs.length=8):
 Calls Tryz.prog 55 #[.agg (ah p h)] w fun e w'=>e=.returned (.agg (fq h))∧Below w.heap.size w w':=by
 have F:=eu w (ah p h) #[.int .u64 0,.int .u64 0,.int .u64 0,.int .u64 0,.int .u64 0,.int .u64 0,.int .u64 0,.int .u64 0,.int .u64 0,.int .i64 0,.bool false,.bool false,.int .u64 0,.int .u64 0,.int .u64 0,.int .i64 0,.int .i64 0,.int .u64 0] 39 90;have HR:Hid _:=hi.regs;obtain ⟨q,hq⟩:∃q,p.ar=some q:=by
  cases e:p.ar with
  | none=>have:=(hi.rega.1 e).1;omega
  | some q=>exact ⟨q,rfl⟩
 have hql:=hi.low q (by simp [aV,hq]);have hqs:=hi.rega.2 q hq;obtain ⟨qb,qo,qs⟩:=q;simp only at hqs hql;subst hqs;have HRw:Hid (∀u,Below w.heap.size w u->∀i:Nat,i<8->u.cell? ⟨qb,qo+i,none⟩=some (.int .u64 (h.regs[i]?.getD 0))):=fun u hu i hlt=>by
  rcases (hi.regs.keep hu).2 with h0 | ⟨b,off,e,_,hc⟩
  ·omega
  ·rw [hq] at e;cases e;refine hc i _ ?_;unfold cH;rw [List.getElem?_map,List.getElem?_eq_getElem (by omega)];rfl
 clear hi HR;unfold ah at F |-;rw [hq,h8] at F |-;have ha:=Al qb qo p.cr;go_enter Tryz.func55,Tryz.ntmps55;go_upto_region 1 with fail;generalize (w.alloc _).alloc _=v1 at F |-;obtain ⟨f1,f2,f3,n1⟩:=F;have D:Below w.heap.size w v1.drew:=bst n1 (Below.refl _ _).drew;have e1:v1.drew.heap[w.heap.size]?=_:=f1;have e2:v1.drew.heap[w.heap.size+1]?=_:=f2;have RW:∀i:Nat,i<8->v1.drew.cell? ⟨qb,qo+i,none⟩=some (.int .u64 (h.regs[i]?.getD 0)):=fun i hi=>HRw.out v1.drew D i hi;have c1:=aa e1 1 (v:=.slice (some ⟨qb,qo,none⟩) 8 p.cr) rfl;have c2:=aa e1 2 (v:=.int .u64 h.pc) rfl;have c3:=aa e1 3 (v:=.int .i64 h.mode) rfl;have c4:=aa e1 4 (v:=.bool h.sum) rfl;have c5:=aa e1 5 (v:=.bool h.mxr) rfl;have c6:=aa e1 6 (v:=.int .u64 h.satp) rfl;have c7:=aa e1 7 (v:=.int .u64 h.tvec) rfl;have c8:=aa e1 8 (v:=.int .u64 h.epc) rfl;have c9:=aa e1 9 (v:=.int .i64 h.emode) rfl;have c10:=aa e1 10 (v:=.int .i64 h.cause) rfl;have c11:=aa e1 11 (v:=.int .u64 h.tval) rfl;have r0:v1.drew.cell? ⟨qb,qo,none⟩=some (.int .u64 (h.regs[0]?.getD 0)):=RW 0 (by omega);have r1:=RW 1 (by omega);have r2:=RW 2 (by omega);have r3:=RW 3 (by omega);have r4:=RW 4 (by omega);have r5:=RW 5 (by omega);have r6:=RW 6 (by omega);have r7:=RW 7 (by omega);obtain ⟨x0,hx0⟩:∃x,h.regs[0]?.getD 0=x:=⟨_,rfl⟩;rw [hx0] at r0;obtain ⟨x1,hx1⟩:∃x,h.regs[1]?.getD 0=x:=⟨_,rfl⟩;rw [hx1] at r1;obtain ⟨x2,hx2⟩:∃x,h.regs[2]?.getD 0=x:=⟨_,rfl⟩;rw [hx2] at r2;obtain ⟨x3,hx3⟩:∃x,h.regs[3]?.getD 0=x:=⟨_,rfl⟩;rw [hx3] at r3;obtain ⟨x4,hx4⟩:∃x,h.regs[4]?.getD 0=x:=⟨_,rfl⟩;rw [hx4] at r4;obtain ⟨x5,hx5⟩:∃x,h.regs[5]?.getD 0=x:=⟨_,rfl⟩;rw [hx5] at r5;obtain ⟨x6,hx6⟩:∃x,h.regs[6]?.getD 0=x:=⟨_,rfl⟩;rw [hx6] at r6;obtain ⟨x7,hx7⟩:∃x,h.regs[7]?.getD 0=x:=⟨_,rfl⟩;rw [hx7] at r7;have HCA:Hid (fq h=#[.int .u64 x0,.int .u64 x1,.int .u64 x2,.int .u64 x3,.int .u64 x4,.int .u64 x5,.int .u64 x6,.int .u64 x7,.int .u64 h.pc,.int .i64 h.mode,.bool h.sum,.bool h.mxr,.int .u64 h.satp,.int .u64 h.tvec,.int .u64 h.epc,.int .i64 h.emode,.int .i64 h.cause,.int .u64 h.tval]):=by
  show _=_;unfold fq;rw [hx0,hx1,hx2,hx3,hx4,hx5,hx6,hx7]
 have HE2:Hid _:=e2;have HD:Hid (Below w.heap.size w v1.drew):=D;clear f1 f2 f3 n1 D e1 e2 RW hx0 hx1 hx2 hx3 hx4 hx5 hx6 hx7 HRw h8 hq;refine cY 25 (by kernel_rfl) (by kernel_rfl) ?_;simp only [List.take_succ_cons,List.take_zero,List.drop_succ_cons,List.drop_zero];generalize v1.drew=u at *;repeat still_step
 refine wpStill_nil ?_;have HS:Hid _:=bB (P:=Tryz.prog) (T:=90) (V:=#[.int .u64 x0,.int .u64 x1,.int .u64 x2,.int .u64 x3,.int .u64 x4,.int .u64 x5,.int .u64 x6,.int .u64 x7,.int .u64 h.pc,.int .i64 h.mode,.bool h.sum,.bool h.mxr,.int .u64 h.satp,.int .u64 h.tvec,.int .u64 h.epc,.int .i64 h.emode,.int .i64 h.cause,.int .u64 h.tval]) HE2.out xT rfl (by simp [Value.oneCell']);have HB:=aX (V:=#[.int .u64 x0,.int .u64 x1,.int .u64 x2,.int .u64 x3,.int .u64 x4,.int .u64 x5,.int .u64 x6,.int .u64 x7,.int .u64 h.pc,.int .i64 h.mode,.bool h.sum,.bool h.mxr,.int .u64 h.satp,.int .u64 h.tvec,.int .u64 h.epc,.int .i64 h.emode,.int .i64 h.cause,.int .u64 h.tval]) HE2.out rfl;have HN:Hid _:=aS (show w.heap.size<=w.heap.size+1 by omega) (#[.int .u64 x0,.int .u64 x1,.int .u64 x2,.int .u64 x3,.int .u64 x4,.int .u64 x5,.int .u64 x6,.int .u64 x7,.int .u64 h.pc,.int .i64 h.mode,.bool h.sum,.bool h.mxr,.int .u64 h.satp,.int .u64 h.tvec,.int .u64 h.epc,.int .i64 h.emode,.int .i64 h.cause,.int .u64 h.tval]:Array Value).toList 0 _ HD.out;have HW:Hid _:=bx (P:=Tryz.prog) HB Tryz.underlying90 rfl xT;obtain ⟨CA,hCA⟩:∃CA:Array Value,#[.int .u64 x0,.int .u64 x1,.int .u64 x2,.int .u64 x3,.int .u64 x4,.int .u64 x5,.int .u64 x6,.int .u64 x7,.int .u64 h.pc,.int .i64 h.mode,.bool h.sum,.bool h.mxr,.int .u64 h.satp,.int .u64 h.tvec,.int .u64 h.epc,.int .i64 h.emode,.int .i64 h.cause,.int .u64 h.tval]=CA:=⟨_,rfl⟩;rw [hCA] at HS HB HN HW HCA |-;clear hCA r0 r1 r2 r3 r4 r5 r6 r7 c1 c2 c3 c4 c5 c6 c7 c8 c9 c10 c11;go_wp2_with ((with_reducible refine aH ?_ ?_ HS.out ?_);(exact rfl);(exact rfl));refine dx (b:=w.heap.size+1) Tryz.results55 rfl HW.out rfl ?_;exact ⟨by rw [HCA.out],HN.out⟩
end Go.Proofs.YtgnnmgfgfihljaaGreat
