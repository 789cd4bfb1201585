import Derived.Test.YtgnnmgfgfihljaaGreatPk41
import Derived.Test.YtgnnmgfgfihljaaGreatPk30
namespace Go.Proofs.YtgnnmgfgfihljaaGreat
open Go.RowKit
set_option linter.unusedVariables false
set_option maxHeartbeats 6400000
set_option maxRecDepth 20000
section
attribute [local go_sem ↓] Go.wp_at_zero Go.wp_at_succ
theorem wN (w:World) (n:Nat):Below w.heap.size w (w.drewN n):=
 have h:=za (au w none) n
 ⟨h.os,h.tape,h.output,h.size,fun i hi=>h.block i hi (by simp)⟩
structure HartR (w:World) (p:PtrM) (h:HartM):Prop where
 mem:Byt w p.am h.mem.length h.mem
 regs:RowC w p.ar h.regs.length 1 (cH h.regs)
 r1:RowC w p.a1 h.k.i.es.length 6 (az h.k.i.es)
 r2:RowC w p.a2 h.k.d.es.length 6 (az h.k.d.es)
 r3:RowC w p.a3 h.k.p.es.length 6 (az h.k.p.es)
theorem HartR.keep {w w':World} {p:PtrM} {h:HartM} (k:HartR w p h) (hb:Below w.heap.size w w'):HartR w' p h:=
 ⟨k.mem.keep hb,k.regs.keep hb,k.r1.keep hb,k.r2.keep hb,k.r3.keep hb⟩
structure HartB (h:HartM):Prop where
 m:h.mem.length<=1048576
 r:h.regs.length<=1048576
 k1:h.k.i.es.length<=1048576
 k2:h.k.d.es.length<=1048576
 k3:h.k.p.es.length<=1048576
theorem uT {w w':World} {g:Nat} {o:Obj} {s:Value} (h:w.heap[g]?=some o) (hg:w.grownBy w' s.ownBlock) (hn:s.ownBlock≠some g):w'.heap[g]?=some o:=
 (hg.block g (hpl h) (fun e=>hn e.symm)).trans h
theorem cU {e e':TypeId} {size size' base base' n n':Nat} {w:World} {s s':Value} {cs cs':List Value} (h:w.ownsRow base e size s n cs) (h':w.ownsRow base' e' size' s' n' cs') (he:e≠e'):dI s s':=by
 intro g h1 h2;rcases h'.2 with ⟨h3,_⟩ | ⟨g',cap,cur,h3,_,h4,_⟩
 ·rw [h3] at h2;simp [Value.ownBlock] at h2
 ·rw [h3] at h2;simp only [Value.ownBlock] at h2;have hg:=Option.some.inj h2;subst hg;exact eg h h4 (Ne.symm he) h1
theorem qG (p q:PtrM) (h:HartM) (w:World) (hp:HartR w p h) (hq:HartR w q h) (hb:HartB h):
 Calls Tryz.prog 10 #[.agg (ah p h),.agg (ah q h)] w fun e w'=>e=.returned (.bool true)∧Below w.heap.size w w':=by
 have E1:Hid (∀u,Below w.heap.size w u->Calls Tryz.prog 18 #[.slice p.am h.mem.length p.cm,.slice q.am h.mem.length q.cm] u fun e w'=>e=.returned (.bool true)∧Below u.heap.size u w'):=fun u hu=>tB _ _ _ _ _ h.mem u (hp.mem.keep hu) (hq.mem.keep hu) hb.m;have E2:Hid (∀u,Below w.heap.size w u->Calls Tryz.prog 33 #[.slice p.ar h.regs.length p.cr,.slice q.ar h.regs.length q.cr] u fun e w'=>e=.returned (.bool true)∧Below u.heap.size u w'):=fun u hu=>(pG _ _ _ _ _ h.regs u (hp.regs.keep hu) (hq.regs.keep hu) hb.r).mono (by
  rintro e w' ⟨rfl,n,rfl⟩;exact ⟨rfl,wN _ _⟩)
 have E3:Hid (∀u,Below w.heap.size w u->Calls Tryz.prog 34 #[.agg (kA p h.k),.agg (kA q h.k)] u fun e w'=>e=.returned (.bool true)∧Below u.heap.size u w'):=fun u hu=>sV h.k _ _ _ _ _ _ u ⟨_,_,rfl,hp.r1.keep hu⟩ ⟨_,_,rfl,hp.r2.keep hu⟩ ⟨_,_,rfl,hp.r3.keep hu⟩ ⟨_,_,rfl,hq.r1.keep hu⟩ ⟨_,_,rfl,hq.r2.keep hu⟩ ⟨_,_,rfl,hq.r3.keep hu⟩ hb.k1 hb.k2 hb.k3;clear hp hq hb;have F:=eu w (ah p h) (ah q h) 39 39;have A0:Hid ((ah p h)[0]?=some (.slice p.am h.mem.length p.cm)):=by show _=_;rfl
 have B0:Hid ((ah q h)[0]?=some (.slice q.am h.mem.length q.cm)):=by show _=_;rfl
 have A1:Hid ((ah p h)[1]?=some (.slice p.ar h.regs.length p.cr)):=by show _=_;rfl
 have B1:Hid ((ah q h)[1]?=some (.slice q.ar h.regs.length q.cr)):=by show _=_;rfl
 have A2:Hid ((ah p h)[2]?=some (.int .u64 h.pc)):=by show _=_;rfl
 have B2:Hid ((ah q h)[2]?=some (.int .u64 h.pc)):=by show _=_;rfl
 have A3:Hid ((ah p h)[3]?=some (.int .i64 h.mode)):=by show _=_;rfl
 have B3:Hid ((ah q h)[3]?=some (.int .i64 h.mode)):=by show _=_;rfl
 have A4:Hid ((ah p h)[4]?=some (.bool h.sum)):=by show _=_;rfl
 have B4:Hid ((ah q h)[4]?=some (.bool h.sum)):=by show _=_;rfl
 have A5:Hid ((ah p h)[5]?=some (.bool h.mxr)):=by show _=_;rfl
 have B5:Hid ((ah q h)[5]?=some (.bool h.mxr)):=by show _=_;rfl
 have A6:Hid ((ah p h)[6]?=some (.int .u64 h.satp)):=by show _=_;rfl
 have B6:Hid ((ah q h)[6]?=some (.int .u64 h.satp)):=by show _=_;rfl
 have A7:Hid ((ah p h)[7]?=some (.int .u64 h.tvec)):=by show _=_;rfl
 have B7:Hid ((ah q h)[7]?=some (.int .u64 h.tvec)):=by show _=_;rfl
 have A8:Hid ((ah p h)[8]?=some (.int .u64 h.epc)):=by show _=_;rfl
 have B8:Hid ((ah q h)[8]?=some (.int .u64 h.epc)):=by show _=_;rfl
 have A9:Hid ((ah p h)[9]?=some (.int .i64 h.emode)):=by show _=_;rfl
 have B9:Hid ((ah q h)[9]?=some (.int .i64 h.emode)):=by show _=_;rfl
 have A10:Hid ((ah p h)[10]?=some (.int .i64 h.cause)):=by show _=_;rfl
 have B10:Hid ((ah q h)[10]?=some (.int .i64 h.cause)):=by show _=_;rfl
 have A11:Hid ((ah p h)[11]?=some (.int .u64 h.tval)):=by show _=_;rfl
 have B11:Hid ((ah q h)[11]?=some (.int .u64 h.tval)):=by show _=_;rfl
 have KP:Hid (((ah p h).toList.drop 12).take 9=(kA p h.k).toList):=by show _=_;rfl
 have KQ:Hid (((ah q h).toList.drop 12).take 9=(kA q h.k).toList):=by show _=_;rfl
 have SP:(ah p h).size=21:=rfl;have SQ:(ah q h).size=21:=rfl;have KL:Hid ((kA p h.k).size=9∧(kA q h.k).size=9):=⟨rfl,rfl⟩;generalize ah p h=A at *;generalize ah q h=B at *;go_enter Tryz.func10,Tryz.ntmps10;go_upto_region 1 with fail;generalize (w.alloc (Obj.cells A 39)).alloc (Obj.cells B 39)=u0 at F |-;obtain ⟨f1,f2,hz,n0⟩:=F;have H1:Hid _:=f1;have H2:Hid _:=f2;clear f1 f2;have c0:=aa H1.out 0 A0.out;have d0:=aa H2.out 0 B0.out;go_wp2_with fail;refine (E1.out u0 n0).mono ?_;rintro e u1 ⟨rfl,m1⟩;have n1:=bst n0 m1;replace H1:=ab H1 m1;replace H2:=ab H2 m1;clear c0 d0;have c1:=aa H1.out 1 A1.out;have d1:=aa H2.out 1 B1.out;go_wp2_with fail;refine (E2.out u1 n1).mono ?_;rintro e u2 ⟨rfl,m2⟩;have n2:=bst n1 m2;replace H1:=ab H1 m2;replace H2:=ab H2 m2;clear c1 d1;have c2:=aa H1.out 2 A2.out;have d2:=aa H2.out 2 B2.out;have c3:=aa H1.out 3 A3.out;have d3:=aa H2.out 3 B3.out;have c4:=aa H1.out 4 A4.out;have d4:=aa H2.out 4 B4.out;have c5:=aa H1.out 5 A5.out;have d5:=aa H2.out 5 B5.out;have c6:=aa H1.out 6 A6.out;have d6:=aa H2.out 6 B6.out;have c7:=aa H1.out 7 A7.out;have d7:=aa H2.out 7 B7.out;have c8:=aa H1.out 8 A8.out;have d8:=aa H2.out 8 B8.out;have c9:=aa H1.out 9 A9.out;have d9:=aa H2.out 9 B9.out;have c10:=aa H1.out 10 A10.out;have d10:=aa H2.out 10 B10.out;have c11:=aa H1.out 11 A11.out;have d11:=aa H2.out 11 B11.out;have L1:Hid _:=bY (P:=Tryz.prog) (T:=37) H1.out Tryz.underlying37 rfl (o:=12) (kA p h.k).toList kI KP.out rfl;have L2:Hid _:=bY (P:=Tryz.prog) (T:=37) H2.out Tryz.underlying37 rfl (o:=12) (kA q h.k).toList kI KQ.out rfl;rw [show (kA p h.k).toList.toArray=kA p h.k from rfl] at L1;rw [show (kA q h.k).toList.toArray=kA q h.k from rfl] at L2;generalize kA p h.k=KA at *;generalize kA q h.k=KB at *;go_wp2_with (first | ((with_reducible refine aI ?_ L1.out ?_);(exact rfl)) | ((with_reducible refine aI ?_ L2.out ?_);(exact rfl)));refine (E3.out u2 n2).mono ?_;rintro e u3 ⟨rfl,m3⟩;have n3:=bst n2 m3;clear c2 d2 c3 d3 c4 d4 c5 d5 c6 d6 c7 d7 c8 d8 c9 d9 c10 d10 c11 d11;go_wp2_with fail;go_ret;exact ⟨rfl,n3⟩
def Bz (sm sr s1 s2 s3:Value) (i:Nat):Prop:=sm.ownBlock=some i∨sr.ownBlock=some i∨nm s1 s2 s3 i
structure HartO (base:Nat) (w:World) (p:PtrM) (h:HartM) (cm cr c1 c2 c3:List Value):Prop where
 mem:w.ownsRow base 5 1 (.slice p.am h.mem.length p.cm) h.mem.length cm
 regs:w.ownsRow base 24 1 (.slice p.ar h.regs.length p.cr) h.regs.length cr
 r1:w.ownsRow base 153 6 (.slice p.a1 h.k.i.es.length p.c1) h.k.i.es.length c1
 r2:w.ownsRow base 153 6 (.slice p.a2 h.k.d.es.length p.c2) h.k.d.es.length c2
 r3:w.ownsRow base 153 6 (.slice p.a3 h.k.p.es.length p.c3) h.k.p.es.length c3
 d12:dI (.slice p.a1 h.k.i.es.length p.c1) (.slice p.a2 h.k.d.es.length p.c2)
 d13:dI (.slice p.a1 h.k.i.es.length p.c1) (.slice p.a3 h.k.p.es.length p.c3)
 d23:dI (.slice p.a2 h.k.d.es.length p.c2) (.slice p.a3 h.k.p.es.length p.c3)
abbrev iV (p:PtrM) (h:HartM):Nat->Prop:=Bz (.slice p.am h.mem.length p.cm) (.slice p.ar h.regs.length p.cr) (.slice p.a1 h.k.i.es.length p.c1) (.slice p.a2 h.k.d.es.length p.c2) (.slice p.a3 h.k.p.es.length p.c3)
theorem HartO.keep {base:Nat} {w w':World} {p:PtrM} {h:HartM} {cm cr c1 c2 c3:List Value} (k:HartO base w p h cm cr c1 c2 c3) (hb:Below w.heap.size w w'):HartO base w' p h cm cr c1 c2 c3:=
 ⟨ag k.mem hb,ag k.regs hb,ag k.r1 hb,ag k.r2 hb,ag k.r3 hb,k.d12,k.d13,k.d23⟩
theorem HartO.gb {base:Nat} {w w':World} {p:PtrM} {h:HartM} {cm cr c1 c2 c3:List Value} {r:Nat} (k:HartO base w p h cm cr c1 c2 c3) (hg:w.grownBy w' (some r)) (hr:r<base):HartO base w' p h cm cr c1 c2 c3:=
 ⟨bX k.mem hg hr,bX k.regs hg hr,bX k.r1 hg hr,bX k.r2 hg hr,bX k.r3 hg hr,k.d12,k.d13,k.d23⟩
theorem HartO.low {base:Nat} {w:World} {p:PtrM} {h:HartM} {cm cr c1 c2 c3:List Value} (k:HartO base w p h cm cr c1 c2 c3):∀g,iV p h g->base<=g∧g<w.heap.size:=by
 rintro g (h1 | h1 | h1 | h1 | h1)
 ·exact k.mem.lt g h1
 ·exact k.regs.lt g h1
 ·exact k.r1.lt g h1
 ·exact k.r2.lt g h1
 ·exact k.r3.lt g h1
theorem HartO.read {base:Nat} {w:World} {p:PtrM} {h:HartM} (k:HartO base w p h (ja h.mem) (cH h.regs) (az h.k.i.es) (az h.k.d.es) (az h.k.p.es)) (hz:∀i:Nat,0<=h.mem[i]?.getD 0∧h.mem[i]?.getD 0<=255):HartR w p h:=by
 refine ⟨?_,dv k.regs,dv k.r1,dv k.r2,dv k.r3⟩;rcases fF k.mem with ⟨h1,h2,_⟩ | ⟨g,cap,h1⟩
 ·exact ⟨rfl,hz,.inl h2⟩
 ·have hm:=k.mem;rw [h1] at hm;have hx:p.am=some ⟨g,0,none⟩:=by
   simp only [Value.slice.injEq] at h1;exact h1.1
  rw [hx];refine ⟨rfl,hz,.inr ⟨g,0,rfl,(bC hm).2.2,fun i hi=>?_⟩⟩;have:=aw hm i (.int .u8 (h.mem[i]?.getD 0)) (by simp [ja,hi]);simpa using this
end
section
attribute [local go_sem ↓] Go.wp_at_zero Go.wp_at_succ
theorem mM (base:Nat) (p:PtrM) (h:HartM) (cm cr c1 c2 c3:List Value) (k0:Int) (w:World) (ho:HartO base w p h cm cr c1 c2 c3) (hb:HartB h) (hk0:0<=k0) (hk1:k0+h.mem.length+h.regs.length<=1048577):
 Calls Tryz.prog 11 #[.agg (ah p h),.int .i64 k0] w fun e w'=>e=.returned (.int .i64 (k0+h.mem.length+h.regs.length+h.k.i.es.length*6+h.k.d.es.length*6+h.k.p.es.length*6))∧HartO base w' p h (mkF (fB k0) h.mem.length) (mkF (dX (k0+h.mem.length)) h.regs.length) (fy (k0+h.mem.length+h.regs.length) (h.k.i.es.length*6)) (fy (k0+h.mem.length+h.regs.length+h.k.i.es.length*6) (h.k.d.es.length*6)) (fy (k0+h.mem.length+h.regs.length+h.k.i.es.length*6+h.k.d.es.length*6) (h.k.p.es.length*6))∧Mid (iV p h) w w':=by
 have F:=bL w (ah p h) 39;have A0:Hid ((ah p h)[0]?=some (.slice p.am h.mem.length p.cm)):=by show _=_;rfl
 have A1:Hid ((ah p h)[1]?=some (.slice p.ar h.regs.length p.cr)):=by show _=_;rfl
 have KP:Hid (((ah p h).toList.drop 12).take 9=(kA p h.k).toList):=by show _=_;rfl
 obtain ⟨om,or',o1,o2,o3,d12,d13,d23⟩:=ho;have CM:=hid fun u (hu:u.ownsRow base 5 1 (.slice p.am h.mem.length p.cm) h.mem.length cm)=>rL base _ _ cm k0 u hu hb.m hk0 (by omega);have CR:=hid fun u (hu:u.ownsRow base 24 1 (.slice p.ar h.regs.length p.cr) h.regs.length cr)=>oX base _ _ cr (k0+h.mem.length) u hu hb.r (by omega) (by omega);have CK:Hid (∀u,u.ownsRow base 153 6 (.slice p.a1 h.k.i.es.length p.c1) h.k.i.es.length c1->u.ownsRow base 153 6 (.slice p.a2 h.k.d.es.length p.c2) h.k.d.es.length c2->u.ownsRow base 153 6 (.slice p.a3 h.k.p.es.length p.c3) h.k.p.es.length c3->
  Calls Tryz.prog 36 #[.agg (kA p h.k),.int .i64 (k0+h.mem.length+h.regs.length)] u fun e w'=>e=.returned (.int .i64 (k0+h.mem.length+h.regs.length+h.k.i.es.length*6+h.k.d.es.length*6+h.k.p.es.length*6))∧(w'.ownsRow base 153 6 (.slice p.a1 h.k.i.es.length p.c1) h.k.i.es.length (fy (k0+h.mem.length+h.regs.length) (h.k.i.es.length*6))∧w'.ownsRow base 153 6 (.slice p.a2 h.k.d.es.length p.c2) h.k.d.es.length (fy (k0+h.mem.length+h.regs.length+h.k.i.es.length*6) (h.k.d.es.length*6))∧w'.ownsRow base 153 6 (.slice p.a3 h.k.p.es.length p.c3) h.k.p.es.length (fy (k0+h.mem.length+h.regs.length+h.k.i.es.length*6+h.k.d.es.length*6) (h.k.p.es.length*6)))∧Mid (nm (.slice p.a1 h.k.i.es.length p.c1) (.slice p.a2 h.k.d.es.length p.c2) (.slice p.a3 h.k.p.es.length p.c3)) u w'):=fun u h1 h2 h3=>pR h.k base _ _ _ c1 c2 c3 (k0+h.mem.length+h.regs.length) u h1 h2 h3 d12 d13 d23 hb.k1 hb.k2 hb.k3 (by omega) hk1
 have OM:Hid _:=om;have OR:Hid _:=or';have O1:Hid _:=o1;have O2:Hid _:=o2;have O3:Hid _:=o3;have D12:Hid _:=d12;have D13:Hid _:=d13;have D23:Hid _:=d23;clear om or' o1 o2 o3 d12 d13 d23;have b1:=hb.m;have b2:=hb.r;have b3:=hb.k1;have b4:=hb.k2;have b5:=hb.k3;clear hb;generalize ah p h=A at *;go_enter Tryz.func11,Tryz.ntmps11;go_upto_region 1 with fail;generalize (w.alloc (Obj.cells A 39))=u0 at F |-;obtain ⟨f1,hz,n0⟩:=F;have H1:Hid _:=f1;clear f1;replace OM:Hid _:=ag OM.out n0;replace OR:Hid _:=ag OR.out n0;replace O1:Hid _:=ag O1.out n0;replace O2:Hid _:=ag O2.out n0;replace O3:Hid _:=ag O3.out n0;have c0:=aa H1.out 0 A0.out;go_wp2_with fail;refine (CM.out u0 OM.out).mono ?_;rintro e u1 ⟨rfl,om',gm⟩;have OM':Hid _:=om';have GM:Hid _:=gm;have Y1:Hid _:=uT H1.out gm (eg OM.out H1.out (by decide));replace OR:Hid _:=dn OR.out gm (cU OR.out OM.out (by decide));replace O1:Hid _:=dn O1.out gm (cU O1.out OM.out (by decide));replace O2:Hid _:=dn O2.out gm (cU O2.out OM.out (by decide));replace O3:Hid _:=dn O3.out gm (cU O3.out OM.out (by decide));clear om' gm c0 H1;have c1:=aa Y1.out 1 A1.out;go_wp2_with fail;refine (CR.out u1 OR.out).mono ?_;rintro e u2 ⟨rfl,or',gr⟩;have OR':Hid _:=or';have GR:Hid _:=gr;have Z1:Hid _:=uT Y1.out gr (eg OR.out Y1.out (by decide));replace OM':Hid _:=dn OM'.out gr (cU OM'.out OR.out (by decide));replace O1:Hid _:=dn O1.out gr (cU O1.out OR.out (by decide));replace O2:Hid _:=dn O2.out gr (cU O2.out OR.out (by decide));replace O3:Hid _:=dn O3.out gr (cU O3.out OR.out (by decide));clear or' gr c1 Y1;have J1:Hid _:=bY (P:=Tryz.prog) (T:=37) Z1.out Tryz.underlying37 rfl (o:=12) (kA p h.k).toList kI KP.out rfl;rw [show (kA p h.k).toList.toArray=kA p h.k from rfl] at J1;generalize kA p h.k=KA at *;go_wp2_with (first | ((with_reducible refine aI ?_ J1.out ?_);(exact rfl)));refine (CK.out u2 O1.out O2.out O3.out).mono ?_;rintro e u3 ⟨rfl,⟨hk1',hk2',hk3'⟩,md⟩;have am:∀g,(Value.slice p.am h.mem.length p.cm).ownBlock=some g->¬nm (.slice p.a1 h.k.i.es.length p.c1) (.slice p.a2 h.k.d.es.length p.c2) (.slice p.a3 h.k.p.es.length p.c3) g:=by
  rintro g hg (h1 | h1 | h1)
  ·exact cU O1.out OM'.out (by decide) g h1 hg
  ·exact cU O2.out OM'.out (by decide) g h1 hg
  ·exact cU O3.out OM'.out (by decide) g h1 hg
 have ar:∀g,(Value.slice p.ar h.regs.length p.cr).ownBlock=some g->¬nm (.slice p.a1 h.k.i.es.length p.c1) (.slice p.a2 h.k.d.es.length p.c2) (.slice p.a3 h.k.p.es.length p.c3) g:=by
  rintro g hg (h1 | h1 | h1)
  ·exact cU O1.out OR'.out (by decide) g h1 hg
  ·exact cU O2.out OR'.out (by decide) g h1 hg
  ·exact cU O3.out OR'.out (by decide) g h1 hg
 have M1:Mid (iV p h) w u3:=(Mid.of_below n0).trans ((Mid.of_gb GM.out (fun g hg=>.inl hg)).trans ((Mid.of_gb GR.out (fun g hg=>.inr (.inl hg))).trans ⟨md.os,md.tape,md.output,md.size,fun i hi hn=>md.block i hi (fun hh=>hn (.inr (.inr hh)))⟩));have HF:Hid (HartO base u3 p h (mkF (fB k0) h.mem.length) (mkF (dX (k0+h.mem.length)) h.regs.length) (fy (k0+h.mem.length+h.regs.length) (h.k.i.es.length*6)) (fy (k0+h.mem.length+h.regs.length+h.k.i.es.length*6) (h.k.d.es.length*6)) (fy (k0+h.mem.length+h.regs.length+h.k.i.es.length*6+h.k.d.es.length*6) (h.k.p.es.length*6))∧Mid (iV p h) w u3):=⟨⟨md.own OM'.out am,md.own OR'.out ar,hk1',hk2',hk3',D12.out,D13.out,D23.out⟩,M1⟩;clear M1 am ar hk1' hk2' hk3' md OM OR O1 O2 O3 OM' OR' Z1 J1;go_wp2_with fail;go_ret;exact ⟨rfl,HF.out⟩
end
section
attribute [local go_sem ↓] Go.wp_at_zero Go.wp_at_succ
theorem sX (base:Nat) (p:PtrM) (h:HartM) (k0:Int) (w:World) (ho:HartO base w p h (mkF (fB k0) h.mem.length) (mkF (dX (k0+h.mem.length)) h.regs.length) (fy (k0+h.mem.length+h.regs.length) (h.k.i.es.length*6)) (fy (k0+h.mem.length+h.regs.length+h.k.i.es.length*6) (h.k.d.es.length*6)) (fy (k0+h.mem.length+h.regs.length+h.k.i.es.length*6+h.k.d.es.length*6) (h.k.p.es.length*6))) (hb:HartB h) (hk0:0<=k0) (hk1:k0+h.mem.length+h.regs.length<=1048577):
 Calls Tryz.prog 37 #[.agg (ah p h),.int .i64 k0] w fun e w'=>e=.returned (.int .i64 (k0+h.mem.length+h.regs.length+h.k.i.es.length*6+h.k.d.es.length*6+h.k.p.es.length*6))∧Below w.heap.size w w':=by
 have F:=bL w (ah p h) 39;have A0:Hid ((ah p h)[0]?=some (.slice p.am h.mem.length p.cm)):=by show _=_;rfl
 have A1:Hid ((ah p h)[1]?=some (.slice p.ar h.regs.length p.cr)):=by show _=_;rfl
 have KP:Hid (((ah p h).toList.drop 12).take 9=(kA p h.k).toList):=by show _=_;rfl
 have CM:Hid (∀u,Below w.heap.size w u->Calls Tryz.prog 44 #[.slice p.am h.mem.length p.cm,.int .i64 k0] u fun e w'=>e=.returned (.int .i64 (k0+h.mem.length))∧w'=u):=fun u hu=>rM base _ _ k0 u (ag ho.mem hu) hb.m hk0 (by omega);have CR:Hid (∀u,Below w.heap.size w u->Calls Tryz.prog 45 #[.slice p.ar h.regs.length p.cr,.int .i64 (k0+h.mem.length)] u fun e w'=>e=.returned (.int .i64 (k0+h.mem.length+h.regs.length))∧w'=u):=fun u hu=>oY base _ _ (k0+h.mem.length) u (ag ho.regs hu) hb.r (by omega) (by omega);have CK:Hid (∀u,Below w.heap.size w u->Calls Tryz.prog 67 #[.agg (kA p h.k),.int .i64 (k0+h.mem.length+h.regs.length)] u fun e w'=>e=.returned (.int .i64 (k0+h.mem.length+h.regs.length+h.k.i.es.length*6+h.k.d.es.length*6+h.k.p.es.length*6))∧Below u.heap.size u w'):=fun u hu=>pS h.k base _ _ _ (k0+h.mem.length+h.regs.length) u ⟨ag ho.r1 hu,ag ho.r2 hu,ag ho.r3 hu⟩ hb.k1 hb.k2 hb.k3 (by omega) hk1;have b1:=hb.m;have b2:=hb.r;have b3:=hb.k1;have b4:=hb.k2;have b5:=hb.k3;clear hb ho;generalize h.mem.length=LM at *;generalize h.regs.length=LR at *;generalize h.k.i.es.length=L1 at *;generalize h.k.d.es.length=L2 at *;generalize h.k.p.es.length=L3 at *;generalize ah p h=A at *;have q1:decide (k0+(LM:Int)<0)=false:=by simp;omega
 have q2:decide (k0+(LM:Int)+(LR:Int)<0)=false:=by simp;omega
 have q3:decide (k0+(LM:Int)+(LR:Int)+(L1:Int)*6+(L2:Int)*6+(L3:Int)*6<0)=false:=by simp;omega
 go_enter Tryz.func37,Tryz.ntmps37;go_upto_region 1 with fail;generalize (w.alloc (Obj.cells A 39))=u0 at F |-;obtain ⟨f1,hz,n0⟩:=F;have H1:Hid _:=f1;clear f1;have c0:=aa H1.out 0 A0.out;have c1:=aa H1.out 1 A1.out;have J1:Hid _:=bY (P:=Tryz.prog) (T:=37) H1.out Tryz.underlying37 rfl (o:=12) (kA p h.k).toList kI KP.out rfl;rw [show (kA p h.k).toList.toArray=kA p h.k from rfl] at J1;generalize kA p h.k=KA at *;go_wp2_with fail;refine (CM.out u0 n0).mono ?_;rintro e _ ⟨rfl,rfl⟩;go_wp2_with fail;refine (CR.out _ n0).mono ?_;rintro e _ ⟨rfl,rfl⟩;go_wp2_with (first | ((with_reducible refine aI ?_ J1.out ?_);(exact rfl)));refine (CK.out _ n0).mono ?_;rintro e u3 ⟨rfl,m3⟩;have n3:=bst n0 m3;clear c0 c1 H1 J1 m3;go_wp2_with fail;go_ret;exact ⟨rfl,n3⟩
end
section
attribute [local go_sem ↓] Go.wp_at_zero Go.wp_at_succ
def kc (h:HartM) (k0:Int):Int:=k0+h.mem.length+h.regs.length+h.k.i.es.length*6+h.k.d.es.length*6+h.k.p.es.length*6
def qI (base:Nat) (w:World) (p:PtrM) (h:HartM) (k0:Int):Prop:=HartO base w p h (mkF (fB k0) h.mem.length) (mkF (dX (k0+h.mem.length)) h.regs.length) (fy (k0+h.mem.length+h.regs.length) (h.k.i.es.length*6)) (fy (k0+h.mem.length+h.regs.length+h.k.i.es.length*6) (h.k.d.es.length*6)) (fy (k0+h.mem.length+h.regs.length+h.k.i.es.length*6+h.k.d.es.length*6) (h.k.p.es.length*6))
theorem HartO.box_ne {base pb:Nat} {w:World} {p:PtrM} {h:HartM} {cm cr c1 c2 c3:List Value} {T:TypeId} {cur:Array Value} {q:Nat × Nat} (k:HartO base w p h cm cr c1 c2 c3) (hp:w.heap[pb]?=some (.cells cur T q)) (t1:T≠5) (t2:T≠24) (t3:T≠153):¬iV p h pb:=by
 rintro (h1 | h1 | h1 | h1 | h1)
 ·exact eg k.mem hp t1 h1
 ·exact eg k.regs hp t2 h1
 ·exact eg k.r1 hp t3 h1
 ·exact eg k.r2 hp t3 h1
 ·exact eg k.r3 hp t3 h1
theorem HartO.kept {base base' n:Nat} {w w':World} {p:PtrM} {h:HartM} {cm cr c1 c2 c3 cs:List Value} {s:Value} (k:HartO base w p h cm cr c1 c2 c3) (hs:w.ownsRow base' 2 1 s n cs) (hg:w.grownBy w' s.ownBlock):HartO base w' p h cm cr c1 c2 c3:=
 ⟨dn k.mem hg (cU k.mem hs (by decide)),dn k.regs hg (cU k.regs hs (by decide)),dn k.r1 hg (cU k.r1 hs (by decide)),dn k.r2 hg (cU k.r2 hs (by decide)),dn k.r3 hg (cU k.r3 hs (by decide)),k.d12,k.d13,k.d23⟩
def Bh (p:PtrM) (h:HartM) (pa:Option Addr) (pc:Nat) (ps:List Int) (g:Nat):Prop:=iV p h g∨(Value.slice pa ps.length pc).ownBlock=some g
end
def qw (x:Int):Array Value:=#[.int .u64 x,.int .u64 (x%256),.int .u64 (x/256%256%8),.int .u64 (x/256%256/8%8),.int .u64 (x/65536%256%8),.int .u64 (fW (x/16777216)%18446744073709551616)]
theorem yA (x:Int) (w:World) (h0:0<=x) (h1:x<4294967296):
 Calls Tryz.prog 106 #[.int .u64 x] w fun e w'=>e=.returned (.agg (qw x))∧Below w.heap.size w w':=by
 have F:=bL w #[.int .u64 0,.int .u64 0,.int .u64 0,.int .u64 0,.int .u64 0,.int .u64 0] 127;have e1:x/16777216%256=x/16777216:=by omega
 have e2:IntKind.i8.wrap (x/16777216)=fW (x/16777216):=by
  unfold fW;simp [IntKind.wrap,IntKind.signed,IntKind.bits];split <;> omega
 have hi: -128<=fW (x/16777216)∧fW (x/16777216)<=127:=by unfold fW;split <;> omega
 have e3:IntKind.i64.wrap (fW (x/16777216))=fW (x/16777216):=(IntKind.wrap_i64 _).trans (by omega);have e4:IntKind.u64.wrap (fW (x/16777216))=fW (x/16777216)%18446744073709551616:=IntKind.wrap_u64 _;unfold qw;generalize fW (x/16777216)=im at *;go_enter Tryz.func106,Tryz.ntmps106;go_upto_region 1 with fail;generalize w.alloc (Obj.cells #[.int .u64 0,.int .u64 0,.int .u64 0,.int .u64 0,.int .u64 0,.int .u64 0] 127)=v1 at F |-;obtain ⟨f1,f2,n1⟩:=F;have k0:=aa f1 0 (v:=.int .u64 0) rfl;have k1:=aa f1 1 (v:=.int .u64 0) rfl;have k2:=aa f1 2 (v:=.int .u64 0) rfl;have k3:=aa f1 3 (v:=.int .u64 0) rfl;have k4:=aa f1 4 (v:=.int .u64 0) rfl;have k5:=aa f1 5 (v:=.int .u64 0) rfl;have ff:=aE f1;have ff0:=ff 0;have ff1:=ff 1;have ff2:=ff 2;have ff3:=ff 3;have ff4:=ff 4;have ff5:=ff 5;have hl:w.heap.size<v1.heap.size:=by omega
 clear f1 f2 ff;go_wp2_with fail;refine bodyPost_ret (v:=.agg #[.int .u64 x,.int .u64 (x%256),.int .u64 (x/256%256%8),.int .u64 (x/256%256/8%8),.int .u64 (x/65536%256%8),.int .u64 (im%18446744073709551616)]) (by simp [results,Tryz.results106,go_sem,k0,k1,k2,k3,k4,k5]) rfl ⟨rfl,?_⟩;repeat (refine bK ?_ nle _ _)
 exact n1
def fD (op c mode:Int):Bool:=decide (1<=op∧op<=14) && !bQ op c mode
theorem AP (x a b im op c mode:Int) (w:World) (h0:0<=op) (hc0:0<=c) (hc1:c<=7):
 Calls Tryz.prog 97 #[.agg #[.int .u64 x,.int .u64 op,.int .u64 a,.int .u64 b,.int .u64 c,.int .u64 im],.int .i64 mode] w fun e w'=>e=.returned (.bool (fD op c mode))∧Below w.heap.size w w':=by
 have F:=bL w #[.int .u64 x,.int .u64 op,.int .u64 a,.int .u64 b,.int .u64 c,.int .u64 im] 127;obtain ⟨R,hR⟩:∃R,fD op c mode=R:=⟨_,rfl⟩;have HR:Hid (fD op c mode=R):=hR;have HKm:Hid (∀m u,Calls Tryz.prog 93 #[.int .i64 m] u fun e w'=>e=.returned (.bool (decide (0<=m∧m<=2)))∧w'=u):=fun m u=>je m u;rw [hR];clear hR;have hw:IntKind.i64.wrap c=c:=(IntKind.wrap_i64 _).trans (by omega);by_cases hop:op<=14∧1<=op
 ·rcases (show op=1∨op=2∨op=3∨op=4∨op=5∨op=6∨op=7∨op=8∨op=9∨op=10∨op=11∨op=12∨op=13∨op=14 by omega) with rfl | rfl | rfl | rfl | rfl | rfl | rfl | rfl | rfl | rfl | rfl | rfl | rfl | rfl
  case inr.inr.inr.inr.inr.inr.inr.inr.inr.inr.inr.inr.inl=>
   by_cases hm:mode=2
   ·subst hm;go_enter Tryz.func97,Tryz.ntmps97;go_upto_region 1 with fail;generalize w.alloc (Obj.cells #[.int .u64 x,.int .u64 13,.int .u64 a,.int .u64 b,.int .u64 c,.int .u64 im] 127)=v1 at F |-;obtain ⟨f1,f2,n1⟩:=F;have k1:=aa f1 1 (v:=.int .u64 13) rfl;have k4:=aa f1 4 (v:=.int .u64 c) rfl;clear f1 f2;go_wp2_with fail;refine (HKm.out c v1).mono ?_;rintro e u ⟨rfl,hu⟩;rw [hu];clear hu u;go_wp2_with fail;go_ret;refine ⟨?_,n1⟩;rw [<-HR.out];simp [fD,bQ];by_cases hc:c<=2
    ·rw [decide_eq_true hc,decide_eq_false (by omega)];rfl
    ·rw [decide_eq_false hc,decide_eq_true (by omega)];rfl
   ·have hm':decide (mode=2)=false:=decide_eq_false hm;go_enter Tryz.func97,Tryz.ntmps97;go_upto_region 1 with fail;generalize w.alloc (Obj.cells #[.int .u64 x,.int .u64 13,.int .u64 a,.int .u64 b,.int .u64 c,.int .u64 im] 127)=v1 at F |-;obtain ⟨f1,f2,n1⟩:=F;have k1:=aa f1 1 (v:=.int .u64 13) rfl;have k4:=aa f1 4 (v:=.int .u64 c) rfl;clear f1 f2;go_wp2_with fail;go_ret;refine ⟨?_,n1⟩;rw [<-HR.out];simp [fD,bQ,hm]
  all_goals
   go_enter Tryz.func97,Tryz.ntmps97;go_upto_region 1 with fail;have k1:=aa F.1 1 (v:=.int .u64 _) rfl;have n1:=F.2.2;clear F;go_wp2_with fail;go_ret;refine ⟨?_,n1⟩;rw [<-HR.out];first
    | (simp [fD,bQ];done)
    | (simp [fD,bQ];omega)
    | (by_cases hm:mode=0 <;> simp [fD,bQ,hm];done)
    | (by_cases hm:mode=2 <;> simp [fD,bQ,hm];done)
 ·have hr:R=false:=by
   rw [<-HR.out];simp [fD];omega
  subst hr;obtain ⟨z1,z2,z3,z4,z5,z6,z7,z8,z9,z10,z11,z12,z13,z14⟩:op≠1∧op≠2∧op≠3∧op≠4∧op≠5∧op≠6∧op≠7∧op≠8∧op≠9∧op≠10∧op≠11∧op≠12∧op≠13∧op≠14:=by omega
  go_enter Tryz.func97,Tryz.ntmps97;go_upto_region 1 with fail;have k1:=aa F.1 1 (v:=.int .u64 op) rfl;have n1:=F.2.2;clear F;go_wp2_with fail;go_ret;exact ⟨rfl,n1⟩
theorem xF (x op a b c im:Int) (w:World) (hc0:0<=c):
 Calls Tryz.prog 101 #[.agg #[.int .u64 x,.int .u64 op,.int .u64 a,.int .u64 b,.int .u64 c,.int .u64 im]] w fun e w'=>e=.returned (.int .u64 (fT (c%4)))∧Below w.heap.size w w':=by
 have F:=bL w #[.int .u64 x,.int .u64 op,.int .u64 a,.int .u64 b,.int .u64 c,.int .u64 im] 127;have k4:=aa F.1 4 (v:=.int .u64 c) rfl;have n1:=F.2.2;clear F;obtain ⟨d,hd⟩:∃d,c%4=d:=⟨_,rfl⟩;have hd':0<=d∧d<=3:=by omega
 rw [hd];rcases (show d=0∨d=1∨d=2∨d=3 by omega) with rfl | rfl | rfl | rfl;all_goals
  go_enter Tryz.func101,Tryz.ntmps101;go_wp2_with fail;go_ret;exact ⟨by simp [fT],n1⟩
theorem uN (mode:Int) (w:World) (h:0<=mode∧mode<=2):Calls Tryz.prog 105 #[.int .i64 mode] w fun e w'=>e=.returned (.int .i64 (8+mode))∧w'=w:=by
 rcases (show mode=0∨mode=1∨mode=2 by omega) with rfl | rfl | rfl;all_goals
  go_enter Tryz.func105,Tryz.ntmps105;go_wp2_with fail;go_ret;exact ⟨rfl,rfl⟩
theorem iT {O X:Nat->Prop} {m:MP} {ov:Value} {h:HartM} {ol:List (Nat × Int)} (a:Nat) (val:Int) (w:World) (k:MW w O X m ov h ol) (ha:a<8):
 Calls Tryz.prog 98 #[.pointer (some ⟨m.b,0,none⟩),.int .u64 a,.int .u64 val] w fun e w'=>e=.returned (.tuple #[])∧MW w' O X m ov (dY h (if 0<(a:Int) then h.regs.set a val else h.regs)) ol∧w.grownBy w' (some m.b):=by
 have HK:Hid _:=k;have hb:=k.lt;clear k;rcases Nat.eq_zero_or_pos a with rfl | hp
 ·go_enter Tryz.func98,Tryz.ntmps98;go_wp2_with fail;go_end0;exact ⟨rfl,HK.out,au _ _⟩
 ·have hr:=HK.out.regs;have hA:∀i,i<8->(cy h m.gm ov m.gi m.gd m.gp m.pv)[i]?=some (.int .u64 (h.regs[i]?.getD 0)):=fun i hi=>by
   rcases (show i=0∨i=1∨i=2∨i=3∨i=4∨i=5∨i=6∨i=7 by omega) with rfl | rfl | rfl | rfl | rfl | rfl | rfl | rfl <;> rfl
  have c:=aa HK.out.blk a (hA a ha);have f:=aE HK.out.blk a;have hne:((a:Int) == 0)=false:=by simp;omega
  have hset:Hid ((cy h m.gm ov m.gi m.gd m.gp m.pv).setIfInBounds a (.int .u64 val)=cy (dY h (h.regs.set a val)) m.gm ov m.gi m.gd m.gp m.pv):=by
   show _=_;rcases (show a=1∨a=2∨a=3∨a=4∨a=5∨a=6∨a=7 by omega) with rfl | rfl | rfl | rfl | rfl | rfl | rfl <;> simp [cy,dY,hr]
  have HP:Hid (MW (w.setCell ⟨m.b,a,none⟩ (.int .u64 val)) O X m ov (dY h (h.regs.set a val)) ol):=HK.out.put (ak (au w (some m.b)) a (.int .u64 val)) (by rw [<-hset.out];exact bq HK.out.blk) rfl (by simpa [dY] using hr);have HG:Hid _:=ak (au w (some m.b)) a (.int .u64 val);have hlt:(a:Int)<8:=by omega
  rw [if_pos (show 0<(a:Int) by omega)];clear hA hset hr;go_enter Tryz.func98,Tryz.ntmps98;go_wp2_with fail;go_end0;exact ⟨rfl,HP.out,HG.out⟩
end Go.Proofs.YtgnnmgfgfihljaaGreat
