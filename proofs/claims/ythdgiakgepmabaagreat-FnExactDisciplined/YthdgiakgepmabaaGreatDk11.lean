import Derived.Test.YthdgiakgepmabaaGreatDk10
import Derived.Test.YthdgiakgepmabaaGreatDk08
namespace Go.Proofs.YthdgiakgepmabaaGreat
open Go.RowKit
set_option linter.unusedVariables false
set_option maxHeartbeats 6400000
set_option maxRecDepth 20000
structure Kp (O:Nat->Prop) (w w':World):Prop where
 os:w'.os=w.os
 tape:w'.tape=w.tape
 output:w'.output=w.output
 size:w.heap.size<=w'.heap.size
 block:∀i,i<w.heap.size->¬O i->w'.heap[i]?=w.heap[i]?
theorem Kp.refl (O:Nat->Prop) (w:World):Kp O w w:=⟨rfl,rfl,rfl,nle,fun _ _ _=>rfl⟩
theorem Kp.trans {O:Nat->Prop} {a b c:World} (h:Kp O a b) (k:Kp O b c):Kp O a c:=
 ⟨k.os.trans h.os,k.tape.trans h.tape,k.output.trans h.output,Nat.le_trans h.size k.size,fun i hi ho=>(k.block i (ltl hi h.size) ho).trans (h.block i hi ho)⟩
theorem Kp.trans' {O O':Nat->Prop} {a b c:World} (h:Kp O a b) (k:Kp O' b c) (ho:∀i,i<a.heap.size->O' i->O i):Kp O a c:=
 ⟨k.os.trans h.os,k.tape.trans h.tape,k.output.trans h.output,Nat.le_trans h.size k.size,fun i hi hn=>(k.block i (ltl hi h.size) fun h'=>hn (ho i hi h')).trans (h.block i hi hn)⟩
theorem Kp.mono {O O':Nat->Prop} {a b:World} (h:Kp O a b) (ho:∀i,O i->O' i):Kp O' a b:=
 ⟨h.os,h.tape,h.output,h.size,fun i hi hn=>h.block i hi fun h'=>hn (ho i h')⟩
theorem Kp.of_below {w w':World} (O:Nat->Prop) (h:Bw w w'):Kp O w w':=⟨h.os,h.tape,h.output,h.size,fun i hi _=>h.block i hi⟩
theorem Kp.of_gb {w w':World} {O:Nat->Prop} {r:Nat} (h:w.grownBy w' (some r)) (hr:O r):Kp O w w':=
 ⟨h.os,h.tape,h.output,h.size,fun i hi hn=>h.block i hi (by
  intro e;have:r=i:=by simpa using e.symm
  subst this;exact hn hr)⟩
theorem Kp.of_keeps {w w':World} {O:Nat->Prop} {x y z:Nat} (h:Keeps w w' x y z) (hx:O x) (hy:O y) (hz:O z):Kp O w w':=
 ⟨h.1,h.2.1,h.2.2.1,h.2.2.2.1,fun i hi hn=>h.2.2.2.2 i hi (by rintro rfl;exact hn hx) (by rintro rfl;exact hn hy) (by rintro rfl;exact hn hz)⟩
theorem Kp.heap {O:Nat->Prop} {w w':World} {i:Nat} {o:Obj} (h:Kp O w w') (hi:w.heap[i]?=some o) (ho:¬O i):w'.heap[i]?=some o:=
 (h.block i (hpl hi) ho).trans hi
theorem Kp.hid {O:Nat->Prop} {w w':World} {i:Nat} {o:Obj} (h:Hid (w.heap[i]?=some o)) (k:Kp O w w') (ho:¬O i):Hid (w'.heap[i]?=some o):=k.heap h.out ho
theorem Kp.blk {O:Nat->Prop} {w w':World} {e:TypeId} {g:Nat} {zs:List Int} (h:Kp O w w') (hb:Blk e w g zs) (ho:¬O g):Blk e w' g zs:=h.heap hb ho
theorem Kp.own {O:Nat->Prop} {w w':World} {e:TypeId} {size base n:Nat} {s:Value} {cs:List Value} (h:Kp O w w') (ho:w.ownsRow base e size s n cs) (hn:∀g,s.ownBlock=some g->¬O g):w'.ownsRow base e size s n cs:=by
 obtain ⟨h1,h2⟩:=ho;refine ⟨h1,?_⟩;rcases h2 with h2 | ⟨g',cap',cur,h2,hb,hh,r⟩
 ·exact .inl h2
 ·exact .inr ⟨g',cap',cur,h2,hb,h.heap hh (hn g' (by rw [h2];rfl)),r⟩
theorem Kp.below {O:Nat->Prop} {B:Nat} {a w w':World} (hb:Below B a w) (h:Kp O w w') (hB:B<=w.heap.size) (ho:∀i,O i->B<=i):Below B a w':=
 hb.trans ⟨h.os,h.tape,h.output,h.size,fun k hk=>h.block k (by omega) fun h'=>by have:=ho k h';omega⟩
theorem Kp.rows {O:Nat->Prop} {w w':World} {base gi gd gp:Nat} {k:KM} (h:Kp O w w') (hr:RowsAt w base gi gd gp k) (h1:¬O gi) (h2:¬O gd) (h3:¬O gp):RowsAt w' base gi gd gp k:=
 ⟨h.own hr.1 fun g e=>by cases e;exact h1,h.own hr.2.1 fun g e=>by cases e;exact h2,h.own hr.2.2.1 fun g e=>by cases e;exact h3,hr.2.2.2⟩
def gy (h:HartM):Array Value:=#[VU (h.regs[0]?.getD 0),VU (h.regs[1]?.getD 0),VU (h.regs[2]?.getD 0),VU (h.regs[3]?.getD 0),VU (h.regs[4]?.getD 0),VU (h.regs[5]?.getD 0),VU (h.regs[6]?.getD 0),VU (h.regs[7]?.getD 0),
 VU h.pc,VI h.mode,.bool h.sum,.bool h.mxr,VU h.satp,VU h.tvec,VU h.epc,VI h.emode,VI h.cause,VU h.tval]
def cJ (h:HartM) (gm:Nat) (ov:Value) (gi gd gp:Nat) (pv:Value):Array Value:=#[VU (h.regs[0]?.getD 0),VU (h.regs[1]?.getD 0),VU (h.regs[2]?.getD 0),VU (h.regs[3]?.getD 0),VU (h.regs[4]?.getD 0),VU (h.regs[5]?.getD 0),VU (h.regs[6]?.getD 0),VU (h.regs[7]?.getD 0),
 VU h.pc,VI h.mode,.bool h.sum,.bool h.mxr,VU h.satp,VU h.tvec,VU h.epc,VI h.emode,VI h.cause,VU h.tval,
 SL gm h.mem.length h.mem.length,ov,
 VI h.k.i.sets,VI h.k.i.ways,SL gi h.k.i.es.length h.k.i.es.length,VI h.k.d.sets,VI h.k.d.ways,SL gd h.k.d.es.length h.k.d.es.length,VI h.k.p.sets,VI h.k.p.ways,SL gp h.k.p.es.length h.k.p.es.length,pv]
def mS:List (Nat × Int)->List Value
 | []=>[]
 | o::os=>.int .u64 o.1::.int .u64 o.2::mS os
theorem qB:∀a b:List (Nat × Int),mS (a++b)=mS a++mS b
 | [],b=>rfl
 | o::a,b=>by simp [mS,qB a b]
theorem xr:∀a:List (Nat × Int),(mS a).length=a.length*2
 | []=>rfl
 | o::a=>by simp [mS,xr a];omega
structure MP where
 b:Nat
 gm:Nat
 gi:Nat
 gd:Nat
 gp:Nat
 pd:TypeId
 px:Value
def MP.pv (m:MP):Value:=.iface m.pd m.px
structure MW (w:World) (O X:Nat->Prop) (m:MP) (ov:Value) (h:HartM) (ol:List (Nat × Int)):Prop where
 blk:w.heap[m.b]?=some (.cells (cJ h m.gm ov m.gi m.gd m.gp m.pv) 90 (0,0))
 mem:Blk 5 w m.gm h.mem
 old:w.ownsRow 0 188 2 ov ol.length (mS ol)
 ob:O m.b
 om:O m.gm
 oo:∀g,ov.ownBlock=some g->O g∧g≠m.b∧g≠m.gm∧¬X g
 bm:m.b≠m.gm
 xb:¬X m.b
 xm:¬X m.gm
 xo:∀i,X i->O i∧i<w.heap.size
 byt:BytM h.mem
 len:h.mem.length<=4096
 regs:h.regs.length=8
 oll:ol.length<=16
 sh:∃n c a,ov=.slice a n c
 obd:∀i,O i->i<w.heap.size
 oln:∀o∈ol,o.1<h.mem.length∧0<=o.2∧o.2<=255
theorem MW.lt {w:World} {O X:Nat->Prop} {m:MP} {ov:Value} {h:HartM} {ol:List (Nat × Int)} (k:MW w O X m ov h ol):m.b<w.heap.size:=(hpl k.blk)
theorem MW.keep {w w':World} {O X:Nat->Prop} {m:MP} {ov:Value} {h:HartM} {ol:List (Nat × Int)} (k:MW w O X m ov h ol) (hk:Kp X w w'):MW w' O X m ov h ol:=
 ⟨hk.heap k.blk k.xb,hk.blk k.mem k.xm,hk.own k.old fun g e=>(k.oo g e).2.2.2,k.ob,k.om,k.oo,k.bm,k.xb,k.xm,fun i hi=>⟨(k.xo i hi).1,ltl (k.xo i hi).2 hk.size⟩,k.byt,k.len,k.regs,k.oll,k.sh,fun i hi=>ltl (k.obd i hi) hk.size,k.oln⟩
theorem MW.low {w w':World} {O X:Nat->Prop} {m:MP} {ov:Value} {h:HartM} {ol:List (Nat × Int)} (k:MW w O X m ov h ol) (hb:Bw w w'):MW w' O X m ov h ol:=k.keep (Kp.of_below X hb)
theorem MW.withK {w:World} {O X:Nat->Prop} {m:MP} {ov:Value} {h:HartM} {ol:List (Nat × Int)} (k:MW w O X m ov h ol) {q:KM} (hq:gX q m.gi m.gd m.gp=gX h.k m.gi m.gd m.gp):MW w O X m ov (withK h q) ol:=by
 refine ⟨?_,k.mem,k.old,k.ob,k.om,k.oo,k.bm,k.xb,k.xm,k.xo,k.byt,k.len,k.regs,k.oll,k.sh,k.obd,k.oln⟩;have e:cJ (Go.Proofs.YthdgiakgepmabaaGreat.withK h q) m.gm ov m.gi m.gd m.gp m.pv=cJ h m.gm ov m.gi m.gd m.gp m.pv:=by
  simp only [gX,Array.mk.injEq,List.cons.injEq,Value.int.injEq,Value.slice.injEq,true_and,and_true] at hq;simp only [cJ,Go.Proofs.YthdgiakgepmabaaGreat.withK,hq]
 rw [e];exact k.blk
theorem MW.cells {w:World} {O X:Nat->Prop} {m:MP} {ov:Value} {h:HartM} {ol:List (Nat × Int)} (k:MW w O X m ov h ol):CellsM w m.b (gX h.k m.gi m.gd m.gp):=by
 refine ⟨_,k.blk,?_⟩;intro i v hv;rcases (show i=0∨i=1∨i=2∨i=3∨i=4∨i=5∨i=6∨i=7∨i=8∨9<=i by omega) with rfl | rfl | rfl | rfl | rfl | rfl | rfl | rfl | rfl | hi;all_goals first
  | exact hv
  | (rw [Array.getElem?_eq_none (by simp [gX];omega)] at hv;cases hv)
theorem bq {w:World} {b i:Nat} {A:Array Value} {T:TypeId} {v:Value} (h:w.heap[b]?=some (.cells A T (0,0))):(w.setCell (AD b i) v).heap[b]?=some (.cells (A.setIfInBounds i v) T (0,0)):=by
 simp [World.setCell,Array.getElem?_modify,h]
theorem MW.put {w w':World} {O X:Nat->Prop} {m:MP} {ov:Value} {h h':HartM} {ol:List (Nat × Int)} (k:MW w O X m ov h ol) (hg:w.grownBy w' (some m.b)) (hb:w'.heap[m.b]?=some (.cells (cJ h' m.gm ov m.gi m.gd m.gp m.pv) 90 (0,0))) (hm:h'.mem=h.mem) (hr:h'.regs.length=8):MW w' O X m ov h' ol:=by
 refine ⟨hb,?_,?_,k.ob,k.om,k.oo,k.bm,k.xb,k.xm,fun i hi=>⟨(k.xo i hi).1,ltl (k.xo i hi).2 hg.size⟩,by rw [hm];exact k.byt,by rw [hm];exact k.len,hr,k.oll,k.sh,fun i hi=>ltl (k.obd i hi) hg.size,by rw [hm];exact k.oln⟩
 ·rw [hm];exact Blk.gb k.mem hg (Ne.symm k.bm)
 ·have hk:Kp (fun i=>i=m.b) w w':=Kp.of_gb hg rfl;exact hk.own k.old fun g e=>(k.oo g e).2.1
theorem kK (level:Int) (w:World) (hl:level=0∨level=1∨level=2):
 Calls Tryz.prog 128 #[VI level] w fun e w'=>e=.returned (VU (zA level-1))∧w'=w:=by
 rcases hl with rfl | rfl | rfl;all_goals
  go_enter Tryz.func128,Tryz.ntmps128;go_wp2_with (go_at_call 88;refine (dy 15 32767 _ (by omega)).mono ?_;rintro e w' ⟨rfl,rfl⟩);go_ret;exact ⟨dN (by decide),rfl⟩
theorem ve (va level:Int) (w:World) (hv0:0<=va) (hv1:va<=18446744073709551615) (hl:level=0∨level=1∨level=2):
 Calls Tryz.prog 133 #[VU va,VI level] w fun e w'=>e=.returned (VU (dP va level))∧∃n,w'=w.drewN n:=by
 rcases hl with rfl | rfl | rfl
 ·have H:=hid (eJ 9 (va/64) 511 rfl (by omega) (by omega) (by omega));go_enter Tryz.func133,Tryz.ntmps133;go_wp2;go_quiet ((go_at_call 128;exact Calls.quiet_of_same (kK 0 _ (by omega))));go_wp2;go_ret;exact ⟨dN H.out,nq,rfl⟩
 ·have H:=hid (eJ 6 (va/512) 63 rfl (by omega) (by omega) (by omega));go_enter Tryz.func133,Tryz.ntmps133;go_wp2;go_quiet ((go_at_call 128;exact Calls.quiet_of_same (kK 1 _ (by omega))));go_wp2;go_ret;exact ⟨dN H.out,nq,rfl⟩
 ·have H:=hid (eJ 3 (va/4096) 7 rfl (by omega) (by omega) (by omega));go_enter Tryz.func133,Tryz.ntmps133;go_wp2;go_quiet ((go_at_call 128;exact Calls.quiet_of_same (kK 2 _ (by omega))));go_wp2;go_ret;exact ⟨dN H.out,nq,rfl⟩
theorem kj (satp:Int) (w:World) (h0:0<=satp) (h1:satp<=18446744073709551615):
 Calls Tryz.prog 163 #[VU satp] w fun e w'=>e=.returned (VU (aN satp))∧w'=w:=by
 have H:=hid (eJ 16 (satp/17592186044416) 65535 rfl (by omega) (by omega) (by omega));go_enter Tryz.func163,Tryz.ntmps163;go_wp2_with (go_at_call 88;refine (dy 16 65535 _ (by omega)).mono ?_;rintro e w' ⟨rfl,rfl⟩);go_ret;exact ⟨dN H.out,rfl⟩
theorem zv (x level:Int) (w:World) (h0:0<=x) (h1:x<=18446744073709551615):
 Calls Tryz.prog 207 #[VU x,VI level] w fun e w'=>e=.returned (.bool (aU x level == 2))∧w'=w:=by
 go_enter Tryz.func207,Tryz.ntmps207;go_wp2_with (go_at_call 178;refine (oV x level _ h0 h1).mono ?_;rintro e w' ⟨rfl,rfl⟩);go_ret;exact ⟨aL (by simp),rfl⟩
theorem zw (x level:Int) (w:World) (h0:0<=x) (h1:x<=18446744073709551615):
 Calls Tryz.prog 208 #[VU x,VI level] w fun e w'=>e=.returned (.bool (aU x level == 1))∧w'=w:=by
 go_enter Tryz.func208,Tryz.ntmps208;go_wp2_with (go_at_call 178;refine (oV x level _ h0 h1).mono ?_;rintro e w' ⟨rfl,rfl⟩);go_ret;exact ⟨aL (by simp),rfl⟩
theorem uE (lv tg asd va:Int) (gl:Bool) (w:World) (hl:lv=0∨lv=1∨lv=2) (hv0:0<=va) (hv1:va<=18446744073709551615):
 Calls Tryz.prog 114 #[.agg #[VI lv,VU tg,VU asd,.bool gl],VU va] w fun e w'=>e=.returned (.bool (tg == dP va lv))∧Bw w w':=by
 have n1:=(Below.refl w.heap.size w).alloc nle (Obj.cells #[VI lv,VU tg,VU asd,.bool gl] 214);obtain ⟨tm,htm⟩:∃tm,dP va lv=tm:=⟨_,rfl⟩;have HT:Hid (∀w,Calls Tryz.prog 133 #[VU va,VI lv] w fun e w'=>e=.returned (VU tm)∧∃n,w'=w.drewN n):=fun w=>by
  have:=ve va lv w hv0 hv1 hl;rw [htm] at this;exact this
 rw [htm];clear htm;go_enter Tryz.func114,Tryz.ntmps114;go_wp2;go_quiet ((go_at_call 133;exact Calls.quiet_of (HT.out _)));go_wp2;go_ret;exact ⟨rfl,below_drewN n1 nq⟩
theorem En (lv tg asd va asid:Int) (gl:Bool) (w:World) (hl:lv=0∨lv=1∨lv=2) (hv0:0<=va) (hv1:va<=18446744073709551615):
 Calls Tryz.prog 198 #[.agg #[VI lv,VU tg,VU asd,.bool gl],VU va,VU asid] w fun e w'=>e=.returned (.bool ((tg == dP va lv) && (gl || asd == asid)))∧Bw w w':=by
 have n1:=(Below.refl w.heap.size w).alloc nle (Obj.cells #[VI lv,VU tg,VU asd,.bool gl] 214);have H1:Hid ((w.alloc (Obj.cells #[VI lv,VU tg,VU asd,.bool gl] 214)).heap[w.heap.size]?=some (.cells #[VI lv,VU tg,VU asd,.bool gl] 214 (0,0))):=fC w _;obtain ⟨sb,hsb⟩:∃sb,(tg == dP va lv)=sb:=⟨_,rfl⟩;have HS:Hid (∀w,Calls Tryz.prog 114 #[.agg #[VI lv,VU tg,VU asd,.bool gl],VU va] w fun e w'=>e=.returned (.bool sb)∧Bw w w'):=fun w=>by
  have:=uE lv tg asd va gl w hl hv0 hv1;rw [hsb] at this;exact this
 rw [hsb];clear hsb;cases sb <;> cases gl;all_goals
  go_enter Tryz.func198,Tryz.ntmps198;go_wp2_with fail;generalize hv1:w.alloc _=v1 at n1 H1 |-;refine (HS.out v1).mono ?_;rintro e v2 ⟨rfl,n2⟩;have K1:=ae H1.out n2 (hpl H1.out);obtain ⟨⟨x0,x1,x2,x3⟩,_,_,_,_⟩:=aO K1;have A2:=bst n1 n2;go_wp2;go_ret;exact ⟨aL (by simp),A2⟩
def CY (f:FenceM) (lv tg asd:Int) (gl:Bool):Bool:=(!f.hasVa || tg == dP f.va lv) && (!f.hasAsid || (!gl && asd == f.asid))
theorem qy (f:FenceM) (lv tg asd:Int) (gl:Bool) (h:f.hasVa=false∨cR f.va=true):CY f lv tg asd gl=eD f lv tg asd gl:=by
 unfold CY eD;rcases h with h | h
 ·rw [h];simp
 ·rw [h];cases f.hasVa <;> simp [bne]
theorem ze (f:FenceM) (lv tg asd:Int) (gl:Bool) (h1:f.hasVa=true) (h2:cR f.va=false):eD f lv tg asd gl=false:=by
 unfold eD;rw [h1,h2];simp
theorem rQ (lv tg asd:Int) (gl:Bool) (w:World):
 Calls Tryz.prog 112 #[.agg #[VI lv,VU tg,VU asd,.bool gl]] w fun e w'=>e=.returned (.bool false)∧Bw w w':=by
 have n1:=(Below.refl w.heap.size w).alloc nle (Obj.cells #[VI lv,VU tg,VU asd,.bool gl] 214);go_enter Tryz.func112,Tryz.ntmps112;go_wp2;go_ret;exact ⟨rfl,by first | exact n1 | exact brf⟩
theorem rR (hv:Bool) (fva:Int) (ha:Bool) (fa:Int) (lv tg asd:Int) (gl:Bool) (pf pv:Nat) (w:World) (hl:lv=0∨lv=1∨lv=2) (hv0:0<=fva) (hv1:fva<=18446744073709551615)
 (hF:w.heap[pf]?=some (.cells #[.bool hv,VU fva,.bool ha,VU fa] 52 (0,0))) (hV:w.heap[pv]?=some (.cells #[VU fva] 230 (0,0))):
 Calls Tryz.prog 113 #[.agg #[VI lv,VU tg,VU asd,.bool gl],PT pf 0,PT pv 0] w fun e w'=>e=.returned (.bool (CY ⟨hv,fva,ha,fa⟩ lv tg asd gl))∧Bw w w':=by
 have n1:=(Below.refl w.heap.size w).alloc nle (Obj.cells #[VI lv,VU tg,VU asd,.bool gl] 214);have H1:Hid ((w.alloc (Obj.cells #[VI lv,VU tg,VU asd,.bool gl] 214)).heap[w.heap.size]?=some (.cells #[VI lv,VU tg,VU asd,.bool gl] 214 (0,0))):=fC w _;have lf:=(hpl hF);have lv':=(hpl hV);have F1:=hid (ae hF n1 lf);have V1:=hid (ae hV n1 lv');obtain ⟨sb,hsb⟩:∃sb,(tg == dP fva lv)=sb:=⟨_,rfl⟩;have HSp:Hid (∀w,Calls Tryz.prog 114 #[.agg #[VI lv,VU tg,VU asd,.bool gl],VU fva] w fun e w'=>e=.returned (.bool sb)∧Bw w w'):=fun w=>by
  have:=uE lv tg asd fva gl w hl hv0 hv1;rw [hsb] at this;exact this
 have hcov:CY ⟨hv,fva,ha,fa⟩ lv tg asd gl=((!hv || sb) && (!ha || (!gl && asd == fa))):=by unfold CY;rw [hsb]
 rw [hcov];obtain ⟨⟨f0,f1,f2,f3⟩,_,_,_,_⟩:=aO hF;have vc:w.cell? (AD pv 0)=some (VU fva):=by simp [World.cell?,hV]
 clear hsb hcov hF hV;cases hv
 ·cases ha
  ·go_enter Tryz.func113,Tryz.ntmps113;go_wp2;go_ret;exact ⟨aL (by simp),n1⟩
  ·cases gl;all_goals
    go_enter Tryz.func113,Tryz.ntmps113;go_wp2;go_ret;exact ⟨aL (by simp),n1⟩
 ·cases ha
  ·cases sb;all_goals
    go_enter Tryz.func113,Tryz.ntmps113;go_wp2_with fail;generalize w.alloc (Obj.cells #[VI lv,VU tg,VU asd,.bool gl] 214)=v1 at n1 H1 F1 V1 |-;refine (HSp.out v1).mono ?_;rintro e v2 ⟨rfl,n2⟩;have A2:=bst n1 n2;have F2:=ah F1 n2;have R2:=ah H1 n2;clear f0 f1 f2 f3 vc;obtain ⟨⟨f0,f1,f2,f3⟩,_,_,_,_⟩:=aO F2.out;obtain ⟨⟨r0,r1,r2,r3⟩,_,_,_,_⟩:=aO R2.out;go_wp2;go_ret;exact ⟨aL (by simp),A2⟩
  ·cases sb <;> cases gl;all_goals
    go_enter Tryz.func113,Tryz.ntmps113;go_wp2_with fail;generalize hv1:w.alloc _=v1 at n1 H1 F1 V1 |-;refine (HSp.out v1).mono ?_;rintro e v2 ⟨rfl,n2⟩;have A2:=bst n1 n2;have F2:=ah F1 n2;have R2:=ah H1 n2;clear f0 f1 f2 f3 vc;obtain ⟨⟨f0,f1,f2,f3⟩,_,_,_,_⟩:=aO F2.out;obtain ⟨⟨r0,r1,r2,r3⟩,_,_,_,_⟩:=aO R2.out;go_wp2;go_ret;exact ⟨aL (by simp),A2⟩
def F9 (base:Nat) (w:World) (e:Ending) (f:FenceM):Prop:=
 (f.hasVa=true∧cR f.va=false∧e=.returned (.func (.func 112) #[] #[]))∨
 ((f.hasVa=false∨cR f.va=true)∧∃pf pv,e=.returned (.func (.func 113) #[] #[PT pf 0,PT pv 0])∧base<=pf∧base<=pv∧
  w.heap[pf]?=some (.cells #[.bool f.hasVa,VU f.va,.bool f.hasAsid,VU f.asid] 52 (0,0))∧w.heap[pv]?=some (.cells #[VU f.va] 230 (0,0)))
theorem rS (hv:Bool) (fva:Int) (ha:Bool) (fa:Int) (w:World) (hv0:0<=fva) (hv1:fva<=18446744073709551615):
 Calls Tryz.prog 87 #[.agg #[.bool hv,VU fva,.bool ha,VU fa]] w fun e w'=>F9 w.heap.size w' e ⟨hv,fva,ha,fa⟩∧Bw w w':=by
 have n1:=((Below.refl w.heap.size w).alloc nle (Obj.cells #[.bool hv,VU fva,.bool ha,VU fa] 52)).alloc (by simp) (Obj.cells #[VU fva] 230);have H1:Hid (((w.alloc (Obj.cells #[.bool hv,VU fva,.bool ha,VU fa] 52)).alloc (Obj.cells #[VU fva] 230)).heap[w.heap.size]?=some (.cells #[.bool hv,VU fva,.bool ha,VU fa] 52 (0,0))):=by
  show _=_;rw [yw _ _ (by simp)];exact fC w _
 have H2:Hid (((w.alloc (Obj.cells #[.bool hv,VU fva,.bool ha,VU fa] 52)).alloc (Obj.cells #[VU fva] 230)).heap[w.heap.size+1]?=some (.cells #[VU fva] 230 (0,0))):=by
  have:=fC (w.alloc (Obj.cells #[.bool hv,VU fva,.bool ha,VU fa] 52)) (Obj.cells #[VU fva] 230);simp only [World.size_alloc] at this;exact this
 obtain ⟨cb,hcb⟩:∃cb,cR fva=cb:=⟨_,rfl⟩;have HCan:Hid (∀u:World,Calls Tryz.prog 111 #[VU fva] u fun e w'=>e=.returned (.bool cb)∧w'=u):=fun u=>by
  have:=gN fva u hv0 hv1;rw [hcb] at this;exact this
 have HCb:=hid hcb;clear hcb;cases hv
 ·go_enter Tryz.func87,Tryz.ntmps87;go_wp2;go_ret;exact ⟨.inr ⟨.inl rfl,_,_,rfl,nle,by omega,H1.out,H2.out⟩,n1⟩
 ·cases cb
  ·go_enter Tryz.func87,Tryz.ntmps87;go_wp2_with (go_at_call 111;refine (HCan.out _).mono ?_;rintro e w' ⟨rfl,rfl⟩);go_ret;exact ⟨.inl ⟨rfl,HCb.out,rfl⟩,n1⟩
  ·go_enter Tryz.func87,Tryz.ntmps87;go_wp2_with (go_at_call 111;refine (HCan.out _).mono ?_;rintro e w' ⟨rfl,rfl⟩);go_ret;exact ⟨.inr ⟨.inr HCb.out,_,_,rfl,nle,by omega,H1.out,H2.out⟩,n1⟩
def CovVal (B:Nat) (w:World) (cv:Value) (f:FenceM):Prop:=
 (f.hasVa=true∧cR f.va=false∧cv=.func (.func 112) #[] #[])∨
 ((f.hasVa=false∨cR f.va=true)∧∃pf pv,cv=.func (.func 113) #[] #[PT pf 0,PT pv 0]∧pf<B∧pv<B∧
  w.heap[pf]?=some (.cells #[.bool f.hasVa,VU f.va,.bool f.hasAsid,VU f.asid] 52 (0,0))∧w.heap[pv]?=some (.cells #[VU f.va] 230 (0,0)))
theorem CovVal.keep {B:Nat} {w w':World} {cv:Value} {f:FenceM} (h:CovVal B w cv f) (hb:Bw w w'):CovVal B w' cv f:=by
 rcases h with h | ⟨h1,pf,pv,rfl,lf,lp,hF,hV⟩
 ·exact .inl h
 ·exact .inr ⟨h1,pf,pv,rfl,lf,lp,ae hF hb (hpl hF),ae hV hb (hpl hV)⟩
theorem CovVal.up {B B':Nat} {w:World} {cv:Value} {f:FenceM} (h:CovVal B w cv f) (hb:B<=B'):CovVal B' w cv f:=by
 rcases h with h | ⟨h1,pf,pv,rfl,lf,lp,hF,hV⟩
 ·exact .inl h
 ·exact .inr ⟨h1,pf,pv,rfl,by omega,by omega,hF,hV⟩
def jR (h:HartM):Value:=.agg #[VI h.mode,.bool h.sum,.bool h.mxr,VU h.satp]
structure SameC (c:Nat) (r:RunM) (h0:HartM):Prop where
 mem:r.h.mem=h0.mem
 mode:r.h.mode=h0.mode
 sum:r.h.sum=h0.sum
 mxr:r.h.mxr=h0.mxr
 satp:r.h.satp=h0.satp
 nf:r.fenced=false
 few:r.looks.length<=c
theorem SameC.up {c:Nat} {r:RunM} {h0:HartM} (h:SameC c r h0):SameC (c+1) r h0:=⟨h.mem,h.mode,h.sum,h.mxr,h.satp,h.nf,Nat.le_succ_of_le h.few⟩
def mN (plain:Bool) (r:RunM) (f:FenceM):RunM:=⟨if plain=true then r.h else withK r.h (iT r.h.k f),r.cause,r.tval,r.looks,true,f⟩
def CovFree (X:Nat->Prop) (w:World) (cv:Value) (f:FenceM):Prop:=
 (f.hasVa=true∧cR f.va=false∧cv=.func (.func 112) #[] #[])∨
 ((f.hasVa=false∨cR f.va=true)∧∃pf pv,cv=.func (.func 113) #[] #[PT pf 0,PT pv 0]∧¬X pf∧¬X pv∧
  w.heap[pf]?=some (.cells #[.bool f.hasVa,VU f.va,.bool f.hasAsid,VU f.asid] 52 (0,0))∧w.heap[pv]?=some (.cells #[VU f.va] 230 (0,0)))
theorem CovFree.kp {X:Nat->Prop} {w w':World} {cv:Value} {f:FenceM} (h:CovFree X w cv f) (hk:Kp X w w'):CovFree X w' cv f:=by
 rcases h with h | ⟨h1,pf,pv,rfl,lf,lp,hF,hV⟩
 ·exact .inl h
 ·exact .inr ⟨h1,pf,pv,rfl,lf,lp,hk.heap hF lf,hk.heap hV lp⟩
def FI (m:MP) (plain:Bool) (pick:Int) (X:Nat->Prop) (PA:World->RunM->Prop) (r:RunM) (kind va:Int) (w:World) (e:Ending) (w':World):Prop:=
 ∃pa code,e=.returned (.tuple #[VU pa,cu code])∧(code=1∨code=2∨code=3)∧(aT plain pick r.h kind va).1=(if code=1 then 0 else if code=2 then eU kind else bO kind,pa)∧PA w' (bf plain pick r kind va)∧Kp X w w'
structure PathOk (m:MP) (plain:Bool) (pick:Int) (h0:HartM) (X:Nat->Prop) (PI:World->Prop) (PA:World->RunM->Prop):Prop where
 frame:∀w w' r,PA w r->w.heap.size<=w'.heap.size->(∀i,X i->w'.heap[i]?=w.heap[i]?)->PA w' r
 framei:∀w w',PI w->w.heap.size<=w'.heap.size->(∀i,X i->w'.heap[i]?=w.heap[i]?)->PI w'
 congr:∀w r r',PA w r->r'.h.k=r.h.k->r'.looks=r.looks->r'.fenced=r.fenced->r'.fence=r.fence->PA w r'
 phys:∀w r sv kind va,PA w r->CellsM w m.b (gX r.h.k m.gi m.gd m.gp)->(∀u,Kp X w u->SrcAt u sv r.h.mem)->SameC 2 r h0->ROk r->0<=kind->kind<=2->inU va->
  ∃fn rv,(method 417 m.pd m.px "loop.example/s0051/impl.phys").run Tryz.prog w=.ok (fn,rv) w∧(∀args u,(callFunc fn args).run Tryz.prog u=.ok (.enter fn args) u)∧
   Calls Tryz.prog fn #[rv,sv,jR r.h,VI kind,VU va] w fun e w'=>FI m plain pick X PA r kind va w e w'
 fence:∀w r cv f,PA w r->CellsM w m.b (gX r.h.k m.gi m.gd m.gp)->CovFree X w cv f->SameC 2 r h0->ROk r->inU f.va->inU f.asid->
  ∃fn rv,(method 417 m.pd m.px "loop.example/s0051/impl.fence").run Tryz.prog w=.ok (fn,rv) w∧(∀args u,(callFunc fn args).run Tryz.prog u=.ok (.enter fn args) u)∧
   Calls Tryz.prog fn #[rv,cv] w fun e w'=>e=.returned (.tuple #[])∧PA w' (mN plain r f)∧Kp X w w'
 begin:∀w,PI w->CellsM w m.b (gX h0.k m.gi m.gd m.gp)->HOk h0->
  ∃fn rv,(method 417 m.pd m.px "loop.example/s0051/impl.begin").run Tryz.prog w=.ok (fn,rv) w∧(∀args u,(callFunc fn args).run Tryz.prog u=.ok (.enter fn args) u)∧
   Calls Tryz.prog fn #[rv,VI pick] w fun e w'=>e=.returned (.tuple #[])∧PA w' (bx plain pick h0)∧Kp X w w'
theorem PathOk.keep {m:MP} {plain:Bool} {pick:Int} {h0:HartM} {X:Nat->Prop} {PI:World->Prop} {PA:World->RunM->Prop} (k:PathOk m plain pick h0 X PI PA) {w w':World} {r:RunM} (h:PA w r) {O:Nat->Prop} (hx:∀i,X i->i<w.heap.size) (hk:Kp O w w') (ho:∀i,X i->¬O i):PA w' r:=
 k.frame w w' r h hk.size fun i hi=>hk.block i (hx i hi) (ho i hi)
theorem MW.box {w v u:World} {O X:Nat->Prop} {m:MP} {ov:Value} {h h':HartM} {ol ol':List (Nat × Int)} (k0:MW w O X m ov h' ol') (k:MW v O X m ov h ol) {g:Nat} (hg:v.grownBy u (some g)) (hw:w.heap.size<=g):MW u O X m ov h ol:=by
 have hk:=Kp.of_gb hg rfl;have l1:=k0.lt;have l2:=k0.mem.lt;refine ⟨hk.heap k.blk (by omega),hk.blk k.mem (by omega),hk.own k.old fun g' e=>?_,k.ob,k.om,k.oo,k.bm,k.xb,k.xm,fun i hi=>⟨(k.xo i hi).1,ltl (k.xo i hi).2 hg.size⟩,k.byt,k.len,k.regs,k.oll,k.sh,fun i hi=>ltl (k.obd i hi) hg.size,k.oln⟩;have:=(k0.old.lt g' e).2;omega
theorem Kp.box {O:Nat->Prop} {w v u:World} (h:Kp O w v) {g:Nat} (hg:v.grownBy u (some g)) (hw:w.heap.size<=g):Kp O w u:=
 h.trans' (O':=fun i=>i=g) (Kp.of_gb hg rfl) fun i hi e=>by omega
theorem PathOk.box {m:MP} {plain:Bool} {pick:Int} {h0:HartM} {X:Nat->Prop} {PI:World->Prop} {PA:World->RunM->Prop} (k:PathOk m plain pick h0 X PI PA) {v u:World} {r:RunM} (h:PA v r) {g:Nat} (hx:∀i,X i->i<v.heap.size) (hg:v.grownBy u (some g)) (hn:¬X g):PA u r:=
 k.keep h hx (O:=fun i=>i=g) (Kp.of_gb hg rfl) fun i hi e=>hn (e ▸ hi)
theorem Ck (b:Nat) (w:World):(method 417 183 (PT b 18) "loop.example/s0051/impl.entryAt").run Tryz.prog w=(do let v <-loadVar 75 (AD b 18);pure (188,v):Sem (FuncId × Value)).run Tryz.prog w:=by kernel_rfl
theorem Ea {w:World} {O X:Nat->Prop} {m:MP} {ov:Value} {h:HartM} {ol:List (Nat × Int)} (k:MW w O X m ov h ol):SrcAt w (.iface 183 (PT m.b 18)) h.mem:=by
 refine ⟨_,_,some (AD m.gm 0),h.mem.length,h.mem.length,rfl,?_,Blk.byt k.mem k.byt,by have:=k.len;omega⟩;intro u hu;have hc:u.cell? (AD m.b 18)=some (SL m.gm h.mem.length h.mem.length):=ab (ae k.blk hu k.lt) 18 rfl;rw [Ck];simp [go_sem,hc]
theorem yI (pt lv va asd:Int) (w:World) (hl:lv=0∨lv=1∨lv=2) (hv0:0<=va) (hv1:va<=18446744073709551615) (h0:0<=pt) (h1:pt<=18446744073709551615):
 Calls Tryz.prog 204 #[VU pt,VI lv,VU va,VU asd] w fun e w'=>e=.returned (.agg #[VI lv,VU (dP va lv),VU asd,.bool (bJ pt 32)])∧Bw w w':=by
 obtain ⟨tm,htm⟩:∃tm,dP va lv=tm:=⟨_,rfl⟩;obtain ⟨g5,hg5⟩:∃g5,bJ pt 32=g5:=⟨_,rfl⟩;have HT:Hid (∀w,Calls Tryz.prog 133 #[VU va,VI lv] w fun e w'=>e=.returned (VU tm)∧∃n,w'=w.drewN n):=fun w=>by
  have:=ve va lv w hv0 hv1 hl;rw [htm] at this;exact this
 have HB:Hid (∀w,Calls Tryz.prog 129 #[VU pt,VU 32] w fun e w'=>e=.returned (.bool g5)∧w'=w):=fun w=>by
  have:=dB pt 32 w;rw [dI 5 pt 32 rfl (by omega) h0 h1,hg5] at this;exact this
 rw [htm,hg5];clear htm hg5;obtain ⟨v1,Ev1,n1,H1,_⟩:=al1 w #[VI 0,VU 0,VU 0,.bool false] 214;go_enter Tryz.func204,Tryz.ntmps204;go_wp2_with fail;rw [Ev1.out];clear Ev1;refine (HT.out v1).mono ?_;rintro e v2 ⟨rfl,q,rfl⟩;have n2:Bw w (v1.drewN q):=below_drewN n1 q;have H2:Hid ((v1.drewN q).heap[w.heap.size]?=some (.cells #[VI 0,VU 0,VU 0,.bool false] 214 (0,0))):=H1;generalize v1.drewN q=v2 at n2 H2 |-;obtain ⟨⟨d0,d1,d2,d3⟩,e0,e1,e2,e3⟩:=aO H2.out;go_wp2_with (go_at_call 129;refine (HB.out _).mono ?_;rintro e w' ⟨rfl,rfl⟩);exact bodyPost_ret (v:=.agg #[VI lv,VU tm,VU asd,.bool g5]) (by simp [results,Tryz.results204,go_sem,d0,d1,d2,d3]) rfl ⟨rfl,Dz n2 nle _ _ _ _⟩
section
open Go.RowKit Go.Maps
attribute [local go_sem ↓] Go.wp_at_zero Go.wp_at_succ
theorem mm (lv va asd:Int) (g:Bool) (w:World) (hl:lv=0∨lv=1∨lv=2) (hv0:0<=va) (hv1:va<=18446744073709551615):
 Calls Tryz.prog 171 #[VI lv,VU va,VU asd,.bool g] w fun e w'=>e=.returned (jI (jU lv (dP va lv) asd g))∧Bw w w':=by
 obtain ⟨tm,htm⟩:∃tm,dP va lv=tm:=⟨_,rfl⟩;have HT:Hid (∀w,Calls Tryz.prog 133 #[VU va,VI lv] w fun e w'=>e=.returned (VU tm)∧∃n,w'=w.drewN n):=fun w=>by
  have:=ve va lv w hv0 hv1 hl;rw [htm] at this;exact this
 rw [htm];clear htm;obtain ⟨v1,Ev1,n1,H1,_⟩:=al1 w #[VI 0,VU 0,VU 0,.bool false] 214;cases g;all_goals
  go_enter Tryz.func171,Tryz.ntmps171;go_wp2_with fail;rw [Ev1.out];clear Ev1;refine (HT.out v1).mono ?_;rintro e v2 ⟨rfl,q,rfl⟩;have n2:Bw w (v1.drewN q):=below_drewN n1 q;have H2:Hid ((v1.drewN q).heap[w.heap.size]?=some (.cells #[VI 0,VU 0,VU 0,.bool false] 214 (0,0))):=H1;generalize v1.drewN q=v2 at n2 H2 |-;obtain ⟨⟨d0,d1,d2,d3⟩,e0,e1,e2,e3⟩:=aO H2.out;go_wp2_with fail
 ·exact bodyPost_ret (v:=.agg #[VI lv,VU tm,VU asd,.bool false]) (by simp [results,Tryz.results171,go_sem,d0,d1,d2,d3]) rfl ⟨rfl,Dz n2 nle _ _ _ _⟩
 ·exact bodyPost_ret (v:=.agg #[VI lv,VU tm,VU 0,.bool true]) (by simp [results,Tryz.results171,go_sem,d0,d1,d2,d3]) rfl ⟨rfl,Dz n2 nle _ _ _ _⟩
theorem Ef (r s:aP) (w:World):(binOp .eql 118 (nm r) (nm s)).run Tryz.prog w=.ok (.bool (decide (r=s))) w:=by
 obtain ⟨a,b,c⟩:=r;obtain ⟨d,e,f⟩:=s;by_cases h1:a=d
 case neg=>(have q1:(a == d)=false:=by simpa using h1);(go_simp;try simp [q1,h1])
 subst h1;by_cases h2:b=e
 case neg=>(have q1:(b == e)=false:=by simpa using h2);(go_simp;try simp [q1,h2])
 subst h2;by_cases h3:c=f
 case neg=>(have q1:(c == f)=false:=by simpa using h3);(go_simp;try simp [q1,h3])
 subst h3;go_simp;try simp
theorem yH:∀(rs:List aP) (j:Nat) (r:aP),rs[j]?=some r->(cj rs)[j*3]?=some (VI r.1)∧(cj rs)[j*3+1]?=some (VU r.2.1)∧(cj rs)[j*3+2]?=some (VU r.2.2)
 | x::rs,0,r,h=>by
  simp at h;subst h;simp [cj,xy]
 | x::rs,j+1,r,h=>by
  have ih:=yH rs j r (by simpa using h);have e0:(j+1)*3=j*3+3:=by omega
  rw [e0];simpa [cj,xy] using ih
theorem mQ {w:World} {b off:Nat} {rs:List aP} (h:RowC w (some (AD b off)) rs.length 3 (cj rs)) {j:Nat} {r:aP} (hj:rs[j]?=some r):
 b<w.heap.size∧w.cell? (AD b (off+j*3))=some (VI r.1)∧w.cell? (AD b (off+j*3+1))=some (VU r.2.1)∧w.cell? (AD b (off+j*3+2))=some (VU r.2.2):=by
 have hlt:j<rs.length:=(List.getElem?_eq_some_iff.1 hj).1;obtain ⟨_,h3⟩:=h;rcases h3 with h3 | ⟨b',off',e,hb,hc⟩
 ·omega
 ·cases e;obtain ⟨r1,r2,r3⟩:=yH rs j r hj;refine ⟨hb,hc _ _ r1,?_,?_⟩
  ·rw [Nat.add_assoc];exact hc _ _ r2
  ·rw [Nat.add_assoc];exact hc _ _ r3
theorem mn {w:World} {a:Option Addr} {n size:Nat} {cs:List Value} (h:RowC w a n size cs) (hn:0<n):∃b off,a=some (AD b off):=by
 obtain ⟨_,h3⟩:=h;rcases h3 with h3 | ⟨b,off,e,_⟩
 ·omega
 ·exact ⟨b,off,e⟩
theorem Cn (a:Option Addr) (rc:Nat) (rs:List aP) (r:aP) (w:World) (hr:RowC w a rs.length 3 (cj rs)) (hn:rs.length<=3):
 Calls Tryz.prog 180 #[.slice a rs.length rc,nm r] w fun e w'=>(∃i:Int,e=.returned (VI i)∧decide (0<=i)=decide (r∈rs))∧Bw w w':=by
 obtain ⟨v1,Ev1,n1,H1,l1⟩:=al1 w #[VI r.1,VU r.2.1,VU r.2.2] 118;have HR:=hid hr;clear hr;go_enter Tryz.func180,Tryz.ntmps180;go_wp2_with fail;rw [Ev1.out];clear Ev1;go_loopw [8] (fun i wr=>∃k:Nat,k<=rs.length∧i=VI k∧Hid (∀j,j<k->∀s,rs[j]?=some s->r≠s)∧Bw v1 wr) (fun i _=>rs.length-(intOf i).toNat)
 case atStart=>exact ⟨0,Nat.zero_le _,rfl,fun j h=>absurd h (by omega),brf⟩
 case round=>
  obtain ⟨k,hk,rfl,HK,n2⟩:=hrel;obtain ⟨⟨d0,d1,d2⟩,_,_,_⟩:=aF (ah H1 n2).out;have l2:w.heap.size<wr.heap.size:=by have:=n2.size;omega
  by_cases hlt:k<rs.length
  ·obtain ⟨s,hs⟩:∃s,rs[k]?=some s:=⟨_,geg hlt⟩;obtain ⟨b,off,rfl⟩:=mn HR.out (by omega);obtain ⟨hb,c0,c1,c2⟩:=mQ ((HR.out.keep n1).keep n2) hs;have HS:=hid hs;have hq:=Ef r s;have hlt':decide ((k:Int)<(rs.length:Int))=true:=by simp;omega
   clear hs;by_cases he:r=s
   ·have he':decide (r=s)=true:=by simpa using he
    rw [he'] at hq;go_upto_region 4 with fail;go_quiet (fail);go_wp2;go_ret;refine ⟨⟨_,rfl,?_⟩,below_drewN (bst n1 n2) _⟩;have:r∈rs:=by rw [he];exact List.mem_of_getElem? HS.out
    simp [this]
   ·have he':decide (r=s)=false:=by simpa using he
    rw [he'] at hq;go_upto_region 4 with fail;go_quiet (fail);go_wp2;go_roundw
    case rel=>
     refine ⟨k+1,by omega,by go_num,fun j hj t ht=>?_,below_drewN n2 _⟩;by_cases e:j=k
     ·subst e;rw [HS.out] at ht;cases ht;exact he
     ·exact HK.out j (by omega) t ht
    case measure=>simp [intOf];omega
  ·have hin:k=rs.length:=by omega
   subst hin;have hlt':decide ((rs.length:Int)<(rs.length:Int))=false:=by simp
   go_wp2;go_ret;refine ⟨⟨_,rfl,?_⟩,bst n1 n2⟩;have:r∉rs:=fun h=>by
    obtain ⟨j,hj⟩:=List.getElem?_of_mem h;exact HK.out j (List.getElem?_eq_some_iff.1 hj).1 _ hj rfl
   simp [this]
theorem we (a:Option Addr) (rc:Nat) (rs:List aP) (r:aP) (w:World) (hr:RowC w a rs.length 3 (cj rs)) (hn:rs.length<=3):
 Calls Tryz.prog 172 #[.slice a rs.length rc,nm r] w fun e w'=>e=.returned (.bool (decide (r∈rs)))∧Bw w w':=by
 obtain ⟨v1,Ev1,n1,H1,l1⟩:=al1 w #[VI r.1,VU r.2.1,VU r.2.2] 118;obtain ⟨⟨d0,d1,d2⟩,_,_,_⟩:=aF H1.out;have HC:=hid (Cn a rc rs r v1 (hr.keep n1) hn);clear hr;go_enter Tryz.func172,Tryz.ntmps172;go_wp2_with fail;rw [Ev1.out];clear Ev1;go_wp2_with fail;refine Calls.mono HC.out ?_;rintro e v2 ⟨⟨i,rfl,hi⟩,n2⟩;have HI:=hid hi;clear hi;go_wp2;go_ret;exact ⟨by rw [HI.out];rfl,bst n1 n2⟩
end
def Cur (T:TypeId) (w:World) (p:Nat) (a:Option Addr) (len cap:Nat) (code:List Int):Prop:=
 ∃(i:Nat) (h:Int),i<=len∧w.heap[p]?=some (.cells #[.slice a len cap,VI i,VI h] T (0,0))∧Byt w a len code∧(0<len->∀x,a=some x->x.block<p)∧len<=1048576
theorem Cur.lt {T:TypeId} {w:World} {p:Nat} {a:Option Addr} {len cap:Nat} {code:List Int} (h:Cur T w p a len cap code):p<w.heap.size:=by
 obtain ⟨_,_,_,hh,_⟩:=h;exact (hpl hh)
theorem Cur.step {T:TypeId} {w v:World} {p:Nat} {a:Option Addr} {len cap:Nat} {code:List Int} {i i':Nat} {h h':Int}
 (hh:w.heap[p]?=some (.cells #[.slice a len cap,VI i,VI h] T (0,0))) (hb:Byt w a len code) (hlt:0<len->∀x,a=some x->x.block<p) (hl:len<=1048576) (hi:i'<=len)
 (hv:v.heap[p]?=some (.cells #[.slice a len cap,VI i',VI h'] T (0,0))) (hg:w.grownBy v (some p)):Cur T v p a len cap code:=by
 refine ⟨i',h',hi,hv,?_,hlt,hl⟩;obtain ⟨h1,h2,h3⟩:=hb;refine ⟨h1,h2,?_⟩;by_cases h0:len=0
 ·exact .inl h0
 rcases h3 with h3 | ⟨b,off,rfl,hbw,hc⟩
 ·exact .inl h3
 ·have hbp:b<p:=hlt (by omega) (AD b off) rfl;exact .inr ⟨b,off,rfl,ltl hbw hg.size,fun j hj=>(World.cell?_of_block (hg.block b hbw (by simp;omega))).trans (hc j hj)⟩
theorem rr {w v:World} {r:Option Nat} (h:w.grownBy v r) (n:Nat):w.grownBy (v.drewN n) r:=⟨h.os,h.tape,h.output,h.size,h.block⟩
theorem yR {w v u:World} {r:Option Nat} (h:w.grownBy v r) (k:v.grownBy u r):w.grownBy u r:=
 ⟨k.os.trans h.os,k.tape.trans h.tape,k.output.trans h.output,Nat.le_trans h.size k.size,fun i hi hn=>(k.block i (ltl hi h.size) hn).trans (h.block i hi hn)⟩
def Drew (T:TypeId) (w:World) (p:Nat) (a:Option Addr) (len cap:Nat) (code:List Int) (w':World):Prop:=Cur T w' p a len cap code∧w.grownBy w' (some p)
theorem Drew.trans {T:TypeId} {w v u:World} {p:Nat} {a:Option Addr} {len cap:Nat} {code:List Int} (h:Drew T w p a len cap code v) (k:Drew T v p a len cap code u):Drew T w p a len cap code u:=⟨k.1,yR h.2 k.2⟩
theorem Cur.below {T:TypeId} {B:Nat} {w v:World} {p:Nat} {a:Option Addr} {len cap:Nat} {code:List Int} (h:Cur T w p a len cap code) (hb:Below B w v) (hp:p<B):Cur T v p a len cap code:=by
 obtain ⟨i,hh,hi,hv,⟨h1,h2,h3⟩,hlt,hl⟩:=h;refine ⟨i,hh,hi,by rw [hb.block p hp];exact hv,⟨h1,h2,?_⟩,hlt,hl⟩;by_cases h0:len=0
 ·exact .inl h0
 rcases h3 with h3 | ⟨b,off,rfl,hbw,hc⟩
 ·exact .inl h3
 ·have hbp:b<p:=hlt (by omega) (AD b off) rfl;exact .inr ⟨b,off,rfl,ltl hbw hb.size,fun j hj=>(hb.cell (p:=⟨b,off+j,none⟩) (Nat.lt_trans hbp hp)).trans (hc j hj)⟩
theorem Drew.below {T:TypeId} {w v u:World} {p:Nat} {a:Option Addr} {len cap:Nat} {code:List Int} (h:Drew T w p a len cap code v) (hb:Below w.heap.size v u) (hp:p<w.heap.size):Drew T w p a len cap code u:=by
 refine ⟨h.1.below hb hp,⟨hb.os.trans h.2.os,hb.tape.trans h.2.tape,hb.output.trans h.2.output,Nat.le_trans h.2.size hb.size,fun i hi hn=>(hb.block i hi).trans (h.2.block i hi hn)⟩⟩
theorem OwnB.gb {e:TypeId} {w w':World} {base g n cap r:Nat} {zs:List Int} (h:OwnB e w base g n cap zs) (hg:w.grownBy w' (some r)) (hne:g≠r):OwnB e w' base g n cap zs:=by
 obtain ⟨h1,h2⟩:=h;refine ⟨h1,?_⟩;rcases h2 with ⟨h2,_⟩ | ⟨g',cap',cur,h2,hb',hh,r'⟩
 ·simp at h2
 ·have hh':=h2;simp at hh';obtain ⟨rfl,rfl⟩:=hh';exact .inr ⟨_,_,cur,h2,hb',by rw [hg.block _ (hpl hh) (by simpa using hne)];exact hh,r'⟩
theorem Ac (w:World) (e:TypeId) (z:Int) (hz:0<=z∧z<=255):Byt (w.alloc (.cells #[.int .u8 z] e)) (some (AD w.heap.size 0)) 1 [z]:=
 (OwnB.new e w [z] 1 rfl (by decide)).byt (fun i=>by cases i <;> simp [hz])
theorem qm (y:Int):((ac y).sets=1∨(ac y).sets=2∨(ac y).sets=4∨(ac y).sets=8)∧(1<=(ac y).ways∧(ac y).ways<=4)∧((ac y).es.length:Int)=(ac y).sets*(ac y).ways∧(ac y).es.length<=32:=by
 have hm:y%4=0∨y%4=1∨y%4=2∨y%4=3:=by omega
 have hw:y/4%4=0∨y/4%4=1∨y/4%4=2∨y/4%4=3:=by omega
 unfold ac;rcases hm with h | h | h | h <;> rcases hw with k | k | k | k <;> rw [h,k] <;> simp only [List.length_replicate] <;> decide
theorem jY (y:Int):fQ (ac y):=by
 obtain ⟨h1,h2,h3,h4⟩:=qm y;refine ⟨?_,by omega,by omega,by omega⟩;intro e he;unfold ac at he;have:=(List.mem_replicate.1 he).2;subst this;simp [iH,cM]
theorem wm (y:Int) (p:Bool):aY (ac y) p=true:=by
 obtain ⟨h1,h2,h3,h4⟩:=qm y;unfold aY;rw [Bool.and_eq_true];refine ⟨by simp only [kN,decide_eq_true_eq];exact ⟨h1,h2.1,h2.2,h3⟩,gP _ p _ 0 (fun j x hx=>?_)⟩;have hm:=List.mem_of_getElem? hx;unfold ac at hm;have:=(List.mem_replicate.1 hm).2;subst this;simp [dh,cM]
theorem yS (b:List Int) (hb:∀i:Nat,0<=b[i]?.getD 0∧b[i]?.getD 0<=255):∀(m i a:Nat) (mem:List Int),(∀z∈mem,0<=z∧z<=255)->(lE b m i a mem).length=mem.length∧∀z∈lE b m i a mem,0<=z∧z<=255
 | 0,i,a,mem,h=>⟨rfl,h⟩
 | m+1,i,a,mem,h=>by
  rw [lE];split
  ·have:=yS b hb m (i+1) (a+1) (mem.set a (atM b i)) (fun z hz=>by
    rcases List.mem_or_eq_of_mem_set hz with hz | rfl
    ·exact h z hz
    ·exact hb i)
   rw [List.length_set] at this;exact this
  ·exact yS b hb m (i+1) (a+1) mem h
theorem Ad (b:List Int) (hb:∀i:Nat,0<=b[i]?.getD 0∧b[i]?.getD 0<=255):∀(n i:Nat) (mem:List Int),(∀z∈mem,0<=z∧z<=255)->(iV b n i mem).1.length=mem.length∧∀z∈(iV b n i mem).1,0<=z∧z<=255
 | 0,i,mem,h=>⟨rfl,h⟩
 | n+1,i,mem,h=>by
  have h1:=yS b hb (atM b (i+2)).toNat (i+3) (qN b i) mem h;have h2:=Ad b hb n (i+3+(atM b (i+2)).toNat) _ h1.2;rw [iV];exact ⟨h2.1.trans h1.1,h2.2⟩
theorem mr {zs:List Int} (h:∀i:Nat,0<=zs[i]?.getD 0∧zs[i]?.getD 0<=255) (i:Nat):inU (cw zs i):=by
 unfold cw;have:=lN ((List.range 8).map fun k=>atM zs (i+k)) 8 (fun z hz=>by
  simp only [List.mem_map] at hz;obtain ⟨j,_,rfl⟩:=hz;exact h _) (by simp)
 unfold inU;omega
theorem qY {zs:List Int} (h:∀i:Nat,0<=zs[i]?.getD 0∧zs[i]?.getD 0<=255):HOk (aJ zs):=by
 have h3:=h 3;have hm:=Ad zs h (atM zs 87).toNat 88 (List.replicate (64*(1+(atM zs 3%64).toNat)) 0) (fun z hz=>by rw [(List.mem_replicate.1 hz).2];omega);rw [List.length_replicate] at hm;have hmode:0<=bQ (atM zs 4)∧bQ (atM zs 4)<=2:=by
  unfold bQ;split <;> omega
 have hsat:de (if de (cw zs 23)=true then cw zs 23 else 0)=true:=by
  split
  ·assumption
  ·rfl
 refine ⟨(dQ _).2 ⟨?_,?_,?_,hmode,hmode,hsat,?_,?_,?_⟩,?_,?_,mr h 7,?_,?_,?_,?_,⟨jY _,jY _,jY _⟩⟩
 ·show ez (qU zs).1.length=true;unfold qU;rw [hm.1];simp only [ez,decide_eq_true_eq];have:(atM zs 3%64).toNat<=63:=by omega
  omega
 ·simp [aJ,jD]
 ·rfl
 ·show (cw zs 15/4*4)%4=0;omega
 ·show 0<=(0:Int)∧(0:Int)<=63;omega
 ·show cz ⟨ac (atM zs 0),ac (atM zs 1),ac (atM zs 2)⟩=true;simp only [cz,wm,Bool.and_self]
 ·show iw (qU zs).1;intro i;unfold qU;cases hx:(iV zs (atM zs 87).toNat 88 (List.replicate (64*(1+(atM zs 3%64).toNat)) 0)).1[i]? with
  | none=>exact ⟨by simp,by simp⟩
  | some x=>
   have:=hm.2 x (List.mem_of_getElem? hx);simpa using this
 ·show rJ (jD zs);intro i;cases hx:(jD zs)[i]? with
  | none=>exact ⟨by simp,by simp⟩
  | some x=>
   have hmem:=List.mem_of_getElem? hx;simp only [jD,List.mem_cons,List.mem_map] at hmem;have:inU x:=by
    rcases hmem with rfl | ⟨j,_,rfl⟩
    ·simp [inU]
    ·exact mr h _
   simpa [inU] using this
 ·show inU (if de (cw zs 23)=true then cw zs 23 else 0);split
  ·exact mr h 23
  ·simp [inU]
 ·show inU (cw zs 15/4*4);have:=mr h 15;unfold inU at this |-;omega
 ·show inU 0;simp [inU]
 ·show inU 0;simp [inU]
end Go.Proofs.YthdgiakgepmabaaGreat
