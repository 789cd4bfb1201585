import Derived.Test.YtkenjknmfhoppaaGreatSk13
namespace Go.Proofs.YtkenjknmfhoppaaGreat
open Go.RowKit
set_option linter.unusedVariables false
set_option maxHeartbeats 6400000
set_option maxRecDepth 20000
def CellsM (w:World) (b:Nat) (A:Array Value):Prop:=
 ∃C,w.heap[b]?=some (.cells C 97 (0,0))∧∀(i:Nat) (v:Value),A[i]?=some v->C[20+i]?=some v
theorem CellsM.keep {w w':World} {b:Nat} {A:Array Value} (h:CellsM w b A) (hb:Bw w w'):CellsM w' b A:=by
 obtain ⟨C,h1,h2⟩:=h;exact ⟨C,ag h1 hb (hpl h1),h2⟩
theorem CellsM.gb {w w':World} {b r:Nat} {A:Array Value} (h:CellsM w b A) (hg:w.grownBy w' (some r)) (hne:b≠r):CellsM w' b A:=by
 obtain ⟨C,h1,h2⟩:=h;exact ⟨C,aB h1 hg hne,h2⟩
theorem CellsM.cell {w:World} {b:Nat} {A:Array Value} (h:CellsM w b A) (i j:Nat) (v:Value) (hv:A[i]?=some v) (hj:20+i=j):w.cell? (AD b j)=some v:=by
 obtain ⟨C,h1,h2⟩:=h;subst hj;exact iK h1 _ v (h2 i v hv)
def SetM (w:World) (b base gi gd gp:Nat) (k:KM):Prop:=
 CellsM w b (iw k gi gd gp)∧RowsAt w base gi gd gp k∧b≠gi∧b≠gd∧b≠gp
theorem SetM.keep {w w':World} {b base gi gd gp:Nat} {k:KM} (h:SetM w b base gi gd gp k) (hb:Bw w w'):SetM w' b base gi gd gp k:=
 ⟨h.1.keep hb,h.2.1.keep hb,h.2.2⟩
theorem SetM.lt {w:World} {b base gi gd gp:Nat} {k:KM} (h:SetM w b base gi gd gp k):b<w.heap.size:=by
 obtain ⟨C,h1,_⟩:=h.1;exact (hpl h1)
theorem SetM.cellI {w:World} {b base gi gd gp:Nat} {k:KM} (h:SetM w b base gi gd gp k):
 w.cell? (AD b 20)=some (VI k.i.sets)∧w.cell? ⟨b,20+1,none⟩=some (VI k.i.ways)∧w.cell? ⟨b,20+2,none⟩=some (SL gi k.i.es.length k.i.es.length):=
 ⟨h.1.cell 0 _ _ rfl rfl,h.1.cell 1 _ _ rfl rfl,h.1.cell 2 _ _ rfl rfl⟩
theorem SetM.cellD {w:World} {b base gi gd gp:Nat} {k:KM} (h:SetM w b base gi gd gp k):
 w.cell? (AD b 23)=some (VI k.d.sets)∧w.cell? ⟨b,23+1,none⟩=some (VI k.d.ways)∧w.cell? ⟨b,23+2,none⟩=some (SL gd k.d.es.length k.d.es.length):=
 ⟨h.1.cell 3 _ _ rfl rfl,h.1.cell 4 _ _ rfl rfl,h.1.cell 5 _ _ rfl rfl⟩
theorem SetM.cellP {w:World} {b base gi gd gp:Nat} {k:KM} (h:SetM w b base gi gd gp k):
 w.cell? (AD b 26)=some (VI k.p.sets)∧w.cell? ⟨b,26+1,none⟩=some (VI k.p.ways)∧w.cell? ⟨b,26+2,none⟩=some (SL gp k.p.es.length k.p.es.length):=
 ⟨h.1.cell 6 _ _ rfl rfl,h.1.cell 7 _ _ rfl rfl,h.1.cell 8 _ _ rfl rfl⟩
def ia:List (Nat × Int)->List Int->List Int
 | [],m=>m
 | o::os,m=>(ia os m).set o.1 o.2
theorem qH:∀(ol:List (Nat × Int)) (x:Nat × Int) (m:List Int),ia (ol++[x]) m=ia ol (m.set x.1 x.2)
 | [],x,m=>rfl
 | o::os,x,m=>by simp only [List.cons_append,ia,qH os x m]
theorem yx:∀(ol:List (Nat × Int)) (m:List Int),(ia ol m).length=m.length
 | [],m=>rfl
 | o::os,m=>by simp only [ia,List.length_set,yx os m]
theorem zI (ol:List (Nat × Int)) (a:Nat) (v:Int) (m:List Int):ia (ol++[(a,m[a]?.getD 0)]) (m.set a v)=ia ol m:=by
 rw [qH];simp only [List.set_set];by_cases h:a<m.length
 ·rw [geg h,Option.getD_some,List.set_getElem_self]
 ·rw [List.set_eq_of_length_le (by omega)]
def BytM (zs:List Int):Prop:=∀i:Nat,0<=zs[i]?.getD 0∧zs[i]?.getD 0<=255
theorem BytM.set {zs:List Int} (h:BytM zs) (k:Nat) (z:Int) (h0:0<=z) (h1:z<=255):BytM (zs.set k z):=by
 refine df fun x hx=>?_;rcases List.mem_or_eq_of_mem_set hx with hx | rfl
 ·exact dP h x hx
 ·exact ⟨h0,h1⟩
def tY (mem:List Int) (pa j:Nat):List Int:=(mem.drop pa).take j
theorem BK (mem:List Int) (pa j:Nat) (h:pa+j<mem.length):tY mem pa (j+1)=tY mem pa j++[mem[pa+j]?.getD 0]:=by
 unfold tY;rw [List.take_succ_eq_append_getElem (by simp;omega)];simp [h]
theorem Dp (mem:List Int) (pa j:Nat) (h:pa+j<=mem.length):(tY mem pa j).length=j:=by
 simp [tY];omega
theorem kE (mem:List Int):∀(a b:List bM),cE mem (a++b)=cE mem a++cE mem b
 | [],b=>rfl
 | p::a,b=>by simp only [List.cons_append,cE,kE mem a b,List.append_assoc]
def tk (mem:List Int) (ps:List bM):Prop:=∀p∈ps,fR mem.length p.2.2 p.2.1=true
theorem pV {mem:List Int}:∀{ps:List bM},tk mem ps->gJ mem ps=none
 | [],_=>rfl
 | q::ps,h=>by
  unfold gJ;rw [if_pos (h q (by simp)),pV fun p hp=>h p (by simp [hp])]
theorem rK {mem:List Int}:∀{a:List bM} {p:bM} {b:List bM},tk mem a->fR mem.length p.2.2 p.2.1=false->gJ mem (a++p::b)=some p.1
 | [],p,b,_,h=>by simp only [List.nil_append,gJ];rw [if_neg (by rw [h];simp)]
 | q::a,p,b,ha,h=>by
  simp only [List.cons_append,gJ];rw [if_pos (ha q (by simp)),rK (fun x hx=>ha x (by simp [hx])) h]
theorem Dq (xs:List Int) (y:Int):num (xs++[y])=num xs+y*256^xs.length:=by
 rw [oI];simp [num,Int.mul_comm]
theorem Dr (mem:List Int) (pa j:Nat) (x:Int) (h:pa+j<mem.length):(put mem pa (cL x j)).set (pa+j) (x/256^j%256)=put mem pa (cL x (j+1)):=by
 rw [Ec _ _ _ (by rw [Aa _ _ _ (by rw [fX];omega)];exact h)];have:=Cr mem pa j 1 x (by omega);rw [<-this];rfl
theorem uN (n m:Nat) (x:Int) (h:n<=m):(cL x m).take n=cL x n:=by
 obtain ⟨k,rfl⟩:=Nat.le.dest h;rw [sj,List.take_append_of_le_length (by rw [fX];exact nle),List.take_of_length_le (by rw [fX];exact nle)]
theorem uO (n m:Nat) (x:Int):(cL x (n+m)).drop n=cL (x/256^n) m:=by
 rw [sj,List.drop_append,List.drop_of_length_le (by rw [fX];exact nle),fX,Nat.sub_self];simp
def bV:List bM->Nat
 | []=>0
 | p::ps=>p.2.1.toNat+bV ps
theorem rj (mem:List Int):∀(a:List bM) (mem:List Int) (b:List bM) (x:Int) (m:Nat),ja mem (a++b) (cL x (bV a+m))=ja (ja mem a (cL x (bV a))) b (cL (x/256^bV a) m)
 | [],mem,b,x,m=>by simp [ja,bV]
 | p::a,mem,b,x,m=>by
  simp only [List.cons_append,ja,bV];rw [uN _ _ x (by omega),uN _ _ x (by omega),show p.2.1.toNat+bV a+m=p.2.1.toNat+(bV a+m) by omega,uO,uO,rj mem a];congr 2;rw [Int.pow_add,<-Int.ediv_ediv_of_nonneg (Int.le_of_lt (Int.pow_pos (by omega)))]
structure Kp (O:Nat->Prop) (w w':World):Prop where
 os:w'.os=w.os
 tape:w'.tape=w.tape
 output:w'.output=w.output
 size:w.heap.size<=w'.heap.size
 block:∀i,i<w.heap.size->¬O i->w'.heap[i]?=w.heap[i]?
theorem Kp.refl (O:Nat->Prop) (w:World):Kp O w w:=⟨rfl,rfl,rfl,nle,fun _ _ _=>rfl⟩
theorem Kp.trans {O:Nat->Prop} {a b c:World} (h:Kp O a b) (k:Kp O b c):Kp O a c:=
 ⟨k.os.trans h.os,k.tape.trans h.tape,k.output.trans h.output,Nat.le_trans h.size k.size,fun i hi ho=>(k.block i (ltl hi h.size) ho).trans (h.block i hi ho)⟩
theorem Kp.trans' {O O':Nat->Prop} {a b c:World} (h:Kp O a b) (k:Kp O' b c) (ho:∀i,i<a.heap.size->O' i->O i):Kp O a c:=
 ⟨k.os.trans h.os,k.tape.trans h.tape,k.output.trans h.output,Nat.le_trans h.size k.size,fun i hi hn=>(k.block i (ltl hi h.size) fun h'=>hn (ho i hi h')).trans (h.block i hi hn)⟩
theorem Kp.mono {O O':Nat->Prop} {a b:World} (h:Kp O a b) (ho:∀i,O i->O' i):Kp O' a b:=
 ⟨h.os,h.tape,h.output,h.size,fun i hi hn=>h.block i hi fun h'=>hn (ho i h')⟩
theorem Kp.of_below {w w':World} (O:Nat->Prop) (h:Bw w w'):Kp O w w':=⟨h.os,h.tape,h.output,h.size,fun i hi _=>h.block i hi⟩
theorem Kp.of_gb {w w':World} {O:Nat->Prop} {r:Nat} (h:w.grownBy w' (some r)) (hr:O r):Kp O w w':=
 ⟨h.os,h.tape,h.output,h.size,fun i hi hn=>h.block i hi (by
  intro e;have:r=i:=by simpa using e.symm
  subst this;exact hn hr)⟩
theorem Kp.of_keeps {w w':World} {O:Nat->Prop} {x y z:Nat} (h:Keeps w w' x y z) (hx:O x) (hy:O y) (hz:O z):Kp O w w':=
 ⟨h.1,h.2.1,h.2.2.1,h.2.2.2.1,fun i hi hn=>h.2.2.2.2 i hi (by rintro rfl;exact hn hx) (by rintro rfl;exact hn hy) (by rintro rfl;exact hn hz)⟩
theorem Kp.heap {O:Nat->Prop} {w w':World} {i:Nat} {o:Obj} (h:Kp O w w') (hi:w.heap[i]?=some o) (ho:¬O i):w'.heap[i]?=some o:=
 (h.block i (hpl hi) ho).trans hi
theorem Kp.hid {O:Nat->Prop} {w w':World} {i:Nat} {o:Obj} (h:Hid (w.heap[i]?=some o)) (k:Kp O w w') (ho:¬O i):Hid (w'.heap[i]?=some o):=k.heap h.out ho
theorem Kp.blk {O:Nat->Prop} {w w':World} {e:TypeId} {g:Nat} {zs:List Int} (h:Kp O w w') (hb:Blk e w g zs) (ho:¬O g):Blk e w' g zs:=h.heap hb ho
theorem Kp.own {O:Nat->Prop} {w w':World} {e:TypeId} {size base n:Nat} {s:Value} {cs:List Value} (h:Kp O w w') (ho:w.ownsRow base e size s n cs) (hn:∀g,s.ownBlock=some g->¬O g):w'.ownsRow base e size s n cs:=by
 obtain ⟨h1,h2⟩:=ho;refine ⟨h1,?_⟩;rcases h2 with h2 | ⟨g',cap',cur,h2,hb,hh,r⟩
 ·exact .inl h2
 ·exact .inr ⟨g',cap',cur,h2,hb,h.heap hh (hn g' (by rw [h2];rfl)),r⟩
theorem Kp.below {O:Nat->Prop} {B:Nat} {a w w':World} (hb:Below B a w) (h:Kp O w w') (hB:B<=w.heap.size) (ho:∀i,O i->B<=i):Below B a w':=
 hb.trans ⟨h.os,h.tape,h.output,h.size,fun k hk=>h.block k (by omega) fun h'=>by have:=ho k h';omega⟩
theorem Kp.rows {O:Nat->Prop} {w w':World} {base gi gd gp:Nat} {k:KM} (h:Kp O w w') (hr:RowsAt w base gi gd gp k) (h1:¬O gi) (h2:¬O gd) (h3:¬O gp):RowsAt w' base gi gd gp k:=
 ⟨h.own hr.1 fun g e=>by cases e;exact h1,h.own hr.2.1 fun g e=>by cases e;exact h2,h.own hr.2.2.1 fun g e=>by cases e;exact h3,hr.2.2.2⟩
def hZ (h:HartM):Array Value:=#[VU (h.regs[0]?.getD 0),VU (h.regs[1]?.getD 0),VU (h.regs[2]?.getD 0),VU (h.regs[3]?.getD 0),VU (h.regs[4]?.getD 0),VU (h.regs[5]?.getD 0),VU (h.regs[6]?.getD 0),VU (h.regs[7]?.getD 0),
 VU h.pc,VI h.mode,.bool h.sum,.bool h.mxr,VU h.satp,VU h.tvec,VU h.epc,VI h.emode,VI h.cause,VU h.tval]
def cN (h:HartM) (gm:Nat) (ov:Value) (gi gd gp:Nat) (pv:Value):Array Value:=#[VU (h.regs[0]?.getD 0),VU (h.regs[1]?.getD 0),VU (h.regs[2]?.getD 0),VU (h.regs[3]?.getD 0),VU (h.regs[4]?.getD 0),VU (h.regs[5]?.getD 0),VU (h.regs[6]?.getD 0),VU (h.regs[7]?.getD 0),
 VU h.pc,VI h.mode,.bool h.sum,.bool h.mxr,VU h.satp,VU h.tvec,VU h.epc,VI h.emode,VI h.cause,VU h.tval,
 SL gm h.mem.length h.mem.length,ov,
 VI h.k.i.sets,VI h.k.i.ways,SL gi h.k.i.es.length h.k.i.es.length,VI h.k.d.sets,VI h.k.d.ways,SL gd h.k.d.es.length h.k.d.es.length,VI h.k.p.sets,VI h.k.p.ways,SL gp h.k.p.es.length h.k.p.es.length,pv]
def nQ:List (Nat × Int)->List Value
 | []=>[]
 | o::os=>.int .u64 o.1::.int .u64 o.2::nQ os
theorem qT:∀a b:List (Nat × Int),nQ (a++b)=nQ a++nQ b
 | [],b=>rfl
 | o::a,b=>by simp [nQ,qT a b]
theorem xu:∀a:List (Nat × Int),(nQ a).length=a.length*2
 | []=>rfl
 | o::a=>by simp [nQ,xu a];omega
structure MP where
 b:Nat
 gm:Nat
 gi:Nat
 gd:Nat
 gp:Nat
 pd:TypeId
 px:Value
def MP.pv (m:MP):Value:=.iface m.pd m.px
structure MW (w:World) (O X:Nat->Prop) (m:MP) (ov:Value) (h:HartM) (ol:List (Nat × Int)):Prop where
 blk:w.heap[m.b]?=some (.cells (cN h m.gm ov m.gi m.gd m.gp m.pv) 97 (0,0))
 mem:Blk 5 w m.gm h.mem
 old:w.ownsRow 0 217 2 ov ol.length (nQ ol)
 ob:O m.b
 om:O m.gm
 oo:∀g,ov.ownBlock=some g->O g∧g≠m.b∧g≠m.gm∧¬X g
 bm:m.b≠m.gm
 xb:¬X m.b
 xm:¬X m.gm
 xo:∀i,X i->O i∧i<w.heap.size
 byt:BytM h.mem
 len:h.mem.length<=4096
 regs:h.regs.length=8
 oll:ol.length<=16
 sh:∃n c a,ov=.slice a n c
 obd:∀i,O i->i<w.heap.size
 oln:∀o∈ol,o.1<h.mem.length∧0<=o.2∧o.2<=255
theorem MW.lt {w:World} {O X:Nat->Prop} {m:MP} {ov:Value} {h:HartM} {ol:List (Nat × Int)} (k:MW w O X m ov h ol):m.b<w.heap.size:=(hpl k.blk)
theorem MW.keep {w w':World} {O X:Nat->Prop} {m:MP} {ov:Value} {h:HartM} {ol:List (Nat × Int)} (k:MW w O X m ov h ol) (hk:Kp X w w'):MW w' O X m ov h ol:=
 ⟨hk.heap k.blk k.xb,hk.blk k.mem k.xm,hk.own k.old fun g e=>(k.oo g e).2.2.2,k.ob,k.om,k.oo,k.bm,k.xb,k.xm,fun i hi=>⟨(k.xo i hi).1,ltl (k.xo i hi).2 hk.size⟩,k.byt,k.len,k.regs,k.oll,k.sh,fun i hi=>ltl (k.obd i hi) hk.size,k.oln⟩
theorem MW.low {w w':World} {O X:Nat->Prop} {m:MP} {ov:Value} {h:HartM} {ol:List (Nat × Int)} (k:MW w O X m ov h ol) (hb:Bw w w'):MW w' O X m ov h ol:=k.keep (Kp.of_below X hb)
theorem MW.withK {w:World} {O X:Nat->Prop} {m:MP} {ov:Value} {h:HartM} {ol:List (Nat × Int)} (k:MW w O X m ov h ol) {q:KM} (hq:iw q m.gi m.gd m.gp=iw h.k m.gi m.gd m.gp):MW w O X m ov (withK h q) ol:=by
 refine ⟨?_,k.mem,k.old,k.ob,k.om,k.oo,k.bm,k.xb,k.xm,k.xo,k.byt,k.len,k.regs,k.oll,k.sh,k.obd,k.oln⟩;have e:cN (Go.Proofs.YtkenjknmfhoppaaGreat.withK h q) m.gm ov m.gi m.gd m.gp m.pv=cN h m.gm ov m.gi m.gd m.gp m.pv:=by
  simp only [iw,Array.mk.injEq,List.cons.injEq,Value.int.injEq,Value.slice.injEq,true_and,and_true] at hq;simp only [cN,Go.Proofs.YtkenjknmfhoppaaGreat.withK,hq]
 rw [e];exact k.blk
theorem MW.cells {w:World} {O X:Nat->Prop} {m:MP} {ov:Value} {h:HartM} {ol:List (Nat × Int)} (k:MW w O X m ov h ol):CellsM w m.b (iw h.k m.gi m.gd m.gp):=by
 refine ⟨_,k.blk,?_⟩;intro i v hv;rcases (show i=0∨i=1∨i=2∨i=3∨i=4∨i=5∨i=6∨i=7∨i=8∨9<=i by omega) with rfl | rfl | rfl | rfl | rfl | rfl | rfl | rfl | rfl | hi;all_goals first
  | exact hv
  | (rw [Array.getElem?_eq_none (by simp [iw];omega)] at hv;cases hv)
theorem bD {w:World} {b i:Nat} {A:Array Value} {T:TypeId} {v:Value} (h:w.heap[b]?=some (.cells A T (0,0))):(w.setCell (AD b i) v).heap[b]?=some (.cells (A.setIfInBounds i v) T (0,0)):=by
 simp [World.setCell,Array.getElem?_modify,h]
theorem MW.put {w w':World} {O X:Nat->Prop} {m:MP} {ov:Value} {h h':HartM} {ol:List (Nat × Int)} (k:MW w O X m ov h ol) (hg:w.grownBy w' (some m.b)) (hb:w'.heap[m.b]?=some (.cells (cN h' m.gm ov m.gi m.gd m.gp m.pv) 97 (0,0))) (hm:h'.mem=h.mem) (hr:h'.regs.length=8):MW w' O X m ov h' ol:=by
 refine ⟨hb,?_,?_,k.ob,k.om,k.oo,k.bm,k.xb,k.xm,fun i hi=>⟨(k.xo i hi).1,ltl (k.xo i hi).2 hg.size⟩,by rw [hm];exact k.byt,by rw [hm];exact k.len,hr,k.oll,k.sh,fun i hi=>ltl (k.obd i hi) hg.size,by rw [hm];exact k.oln⟩
 ·rw [hm];exact Blk.gb k.mem hg (Ne.symm k.bm)
 ·have hk:Kp (fun i=>i=m.b) w w':=Kp.of_gb hg rfl;exact hk.own k.old fun g e=>(k.oo g e).2.1
theorem uX (lv tg asd va:Int) (gl:Bool) (w:World) (hl:lv=0∨lv=1∨lv=2) (hv0:0<=va) (hv1:va<=18446744073709551615):
 Calls Tryz.prog 148 #[.agg #[VI lv,VU tg,VU asd,.bool gl],VU va] w fun e w'=>e=.returned (.bool (tg == gx va lv))∧Bw w w':=by
 have n1:=(Below.refl w.heap.size w).alloc nle (Obj.cells #[VI lv,VU tg,VU asd,.bool gl] 244);obtain ⟨tm,htm⟩:∃tm,gx va lv=tm:=⟨_,rfl⟩;have HT:Hid (∀w,Calls Tryz.prog 168 #[VU va,VI lv] w fun e w'=>e=.returned (VU tm)∧∃n,w'=w.drewN n):=fun w=>by
  have:=zl va lv w hv0 hv1 hl;rw [htm] at this;exact this
 rw [htm];clear htm;go_enter Tryz.func148,Tryz.ntmps148;go_wp2;go_quiet ((go_at_call 168;exact Calls.quiet_of (HT.out _)));go_wp2;go_ret;exact ⟨rfl,below_drewN n1 nq⟩
theorem DK (lv tg asd va asid:Int) (gl:Bool) (w:World) (hl:lv=0∨lv=1∨lv=2) (hv0:0<=va) (hv1:va<=18446744073709551615):
 Calls Tryz.prog 231 #[.agg #[VI lv,VU tg,VU asd,.bool gl],VU va,VU asid] w fun e w'=>e=.returned (.bool ((tg == gx va lv) && (gl || asd == asid)))∧Bw w w':=by
 have n1:=(Below.refl w.heap.size w).alloc nle (Obj.cells #[VI lv,VU tg,VU asd,.bool gl] 244);have H1:Hid ((w.alloc (Obj.cells #[VI lv,VU tg,VU asd,.bool gl] 244)).heap[w.heap.size]?=some (.cells #[VI lv,VU tg,VU asd,.bool gl] 244 (0,0))):=er w _;obtain ⟨sb,hsb⟩:∃sb,(tg == gx va lv)=sb:=⟨_,rfl⟩;have HS:Hid (∀w,Calls Tryz.prog 148 #[.agg #[VI lv,VU tg,VU asd,.bool gl],VU va] w fun e w'=>e=.returned (.bool sb)∧Bw w w'):=fun w=>by
  have:=uX lv tg asd va gl w hl hv0 hv1;rw [hsb] at this;exact this
 rw [hsb];clear hsb;cases sb <;> cases gl;all_goals
  go_enter Tryz.func231,Tryz.ntmps231;go_wp2_with fail;generalize hv1:w.alloc _=v1 at n1 H1 |-;refine (HS.out v1).mono ?_;rintro e v2 ⟨rfl,n2⟩;have K1:=ag H1.out n2 (hpl H1.out);obtain ⟨⟨x0,x1,x2,x3⟩,_,_,_,_⟩:=ay K1;have A2:=bst n1 n2;go_wp2;go_ret;exact ⟨aD (by simp),A2⟩
def Cp (f:FenceM) (lv tg asd:Int) (gl:Bool):Bool:=(!f.hasVa || tg == gx f.va lv) && (!f.hasAsid || (!gl && asd == f.asid))
theorem wU (f:FenceM) (lv tg asd:Int) (gl:Bool) (h:f.hasVa=false∨dC f.va=true):Cp f lv tg asd gl=iM f lv tg asd gl:=by
 unfold Cp iM;rcases h with h | h
 ·rw [h];simp
 ·rw [h];cases f.hasVa <;> simp [bne]
theorem zd (lv tg asd:Int) (gl:Bool) (w:World):
 Calls Tryz.prog 146 #[.agg #[VI lv,VU tg,VU asd,.bool gl]] w fun e w'=>e=.returned (.bool false)∧Bw w w':=by
 have n1:=(Below.refl w.heap.size w).alloc nle (Obj.cells #[VI lv,VU tg,VU asd,.bool gl] 244);go_enter Tryz.func146,Tryz.ntmps146;go_wp2;go_ret;exact ⟨rfl,by first | exact n1 | exact brf⟩
theorem ze (hv:Bool) (fva:Int) (ha:Bool) (fa:Int) (lv tg asd:Int) (gl:Bool) (pf pv:Nat) (w:World) (hl:lv=0∨lv=1∨lv=2) (hv0:0<=fva) (hv1:fva<=18446744073709551615)
 (hF:w.heap[pf]?=some (.cells #[.bool hv,VU fva,.bool ha,VU fa] 59 (0,0))) (hV:w.heap[pv]?=some (.cells #[VU fva] 260 (0,0))):
 Calls Tryz.prog 147 #[.agg #[VI lv,VU tg,VU asd,.bool gl],PT pf 0,PT pv 0] w fun e w'=>e=.returned (.bool (Cp ⟨hv,fva,ha,fa⟩ lv tg asd gl))∧Bw w w':=by
 have n1:=(Below.refl w.heap.size w).alloc nle (Obj.cells #[VI lv,VU tg,VU asd,.bool gl] 244);have H1:Hid ((w.alloc (Obj.cells #[VI lv,VU tg,VU asd,.bool gl] 244)).heap[w.heap.size]?=some (.cells #[VI lv,VU tg,VU asd,.bool gl] 244 (0,0))):=er w _;have lf:=(hpl hF);have lv':=(hpl hV);have F1:=hid (ag hF n1 lf);have V1:=hid (ag hV n1 lv');obtain ⟨sb,hsb⟩:∃sb,(tg == gx fva lv)=sb:=⟨_,rfl⟩;have HSp:Hid (∀w,Calls Tryz.prog 148 #[.agg #[VI lv,VU tg,VU asd,.bool gl],VU fva] w fun e w'=>e=.returned (.bool sb)∧Bw w w'):=fun w=>by
  have:=uX lv tg asd fva gl w hl hv0 hv1;rw [hsb] at this;exact this
 have hcov:Cp ⟨hv,fva,ha,fa⟩ lv tg asd gl=((!hv || sb) && (!ha || (!gl && asd == fa))):=by unfold Cp;rw [hsb]
 rw [hcov];obtain ⟨⟨f0,f1,f2,f3⟩,_,_,_,_⟩:=ay hF;have vc:w.cell? (AD pv 0)=some (VU fva):=by simp [World.cell?,hV]
 clear hsb hcov hF hV;cases hv
 ·cases ha
  ·go_enter Tryz.func147,Tryz.ntmps147;go_wp2;go_ret;exact ⟨aD (by simp),n1⟩
  ·cases gl;all_goals
    go_enter Tryz.func147,Tryz.ntmps147;go_wp2;go_ret;exact ⟨aD (by simp),n1⟩
 ·cases ha
  ·cases sb;all_goals
    go_enter Tryz.func147,Tryz.ntmps147;go_wp2_with fail;generalize w.alloc (Obj.cells #[VI lv,VU tg,VU asd,.bool gl] 244)=v1 at n1 H1 F1 V1 |-;refine (HSp.out v1).mono ?_;rintro e v2 ⟨rfl,n2⟩;have A2:=bst n1 n2;have F2:=ah F1 n2;have R2:=ah H1 n2;clear f0 f1 f2 f3 vc;obtain ⟨⟨f0,f1,f2,f3⟩,_,_,_,_⟩:=ay F2.out;obtain ⟨⟨r0,r1,r2,r3⟩,_,_,_,_⟩:=ay R2.out;go_wp2;go_ret;exact ⟨aD (by simp),A2⟩
  ·cases sb <;> cases gl;all_goals
    go_enter Tryz.func147,Tryz.ntmps147;go_wp2_with fail;generalize hv1:w.alloc _=v1 at n1 H1 F1 V1 |-;refine (HSp.out v1).mono ?_;rintro e v2 ⟨rfl,n2⟩;have A2:=bst n1 n2;have F2:=ah F1 n2;have R2:=ah H1 n2;clear f0 f1 f2 f3 vc;obtain ⟨⟨f0,f1,f2,f3⟩,_,_,_,_⟩:=ay F2.out;obtain ⟨⟨r0,r1,r2,r3⟩,_,_,_,_⟩:=ay R2.out;go_wp2;go_ret;exact ⟨aD (by simp),A2⟩
def Fk (base:Nat) (w:World) (e:Ending) (f:FenceM):Prop:=
 (f.hasVa=true∧dC f.va=false∧e=.returned (.func (.func 146) #[] #[]))∨
 ((f.hasVa=false∨dC f.va=true)∧∃pf pv,e=.returned (.func (.func 147) #[] #[PT pf 0,PT pv 0])∧base<=pf∧base<=pv∧
  w.heap[pf]?=some (.cells #[.bool f.hasVa,VU f.va,.bool f.hasAsid,VU f.asid] 59 (0,0))∧w.heap[pv]?=some (.cells #[VU f.va] 260 (0,0)))
theorem sg (hv:Bool) (fva:Int) (ha:Bool) (fa:Int) (w:World) (hv0:0<=fva) (hv1:fva<=18446744073709551615):
 Calls Tryz.prog 117 #[.agg #[.bool hv,VU fva,.bool ha,VU fa]] w fun e w'=>Fk w.heap.size w' e ⟨hv,fva,ha,fa⟩∧Bw w w':=by
 have n1:=((Below.refl w.heap.size w).alloc nle (Obj.cells #[.bool hv,VU fva,.bool ha,VU fa] 59)).alloc (by simp) (Obj.cells #[VU fva] 260);have H1:Hid (((w.alloc (Obj.cells #[.bool hv,VU fva,.bool ha,VU fa] 59)).alloc (Obj.cells #[VU fva] 260)).heap[w.heap.size]?=some (.cells #[.bool hv,VU fva,.bool ha,VU fa] 59 (0,0))):=by
  show _=_;rw [rf _ _ (by simp)];exact er w _
 have H2:Hid (((w.alloc (Obj.cells #[.bool hv,VU fva,.bool ha,VU fa] 59)).alloc (Obj.cells #[VU fva] 260)).heap[w.heap.size+1]?=some (.cells #[VU fva] 260 (0,0))):=by
  have:=er (w.alloc (Obj.cells #[.bool hv,VU fva,.bool ha,VU fa] 59)) (Obj.cells #[VU fva] 260);simp only [World.size_alloc] at this;exact this
 obtain ⟨cb,hcb⟩:∃cb,dC fva=cb:=⟨_,rfl⟩;have HCan:Hid (∀u:World,Calls Tryz.prog 145 #[VU fva] u fun e w'=>e=.returned (.bool cb)∧w'=u):=fun u=>by
  have:=jg fva u hv0 hv1;rw [hcb] at this;exact this
 have HCb:=hid hcb;clear hcb;cases hv
 ·go_enter Tryz.func117,Tryz.ntmps117;go_wp2;go_ret;exact ⟨.inr ⟨.inl rfl,_,_,rfl,nle,by omega,H1.out,H2.out⟩,n1⟩
 ·cases cb
  ·go_enter Tryz.func117,Tryz.ntmps117;go_wp2_with (go_at_call 145;refine (HCan.out _).mono ?_;rintro e w' ⟨rfl,rfl⟩);go_ret;exact ⟨.inl ⟨rfl,HCb.out,rfl⟩,n1⟩
  ·go_enter Tryz.func117,Tryz.ntmps117;go_wp2_with (go_at_call 145;refine (HCan.out _).mono ?_;rintro e w' ⟨rfl,rfl⟩);go_ret;exact ⟨.inr ⟨.inr HCb.out,_,_,rfl,nle,by omega,H1.out,H2.out⟩,n1⟩
def CovVal (B:Nat) (w:World) (cv:Value) (f:FenceM):Prop:=
 (f.hasVa=true∧dC f.va=false∧cv=.func (.func 146) #[] #[])∨
 ((f.hasVa=false∨dC f.va=true)∧∃pf pv,cv=.func (.func 147) #[] #[PT pf 0,PT pv 0]∧pf<B∧pv<B∧
  w.heap[pf]?=some (.cells #[.bool f.hasVa,VU f.va,.bool f.hasAsid,VU f.asid] 59 (0,0))∧w.heap[pv]?=some (.cells #[VU f.va] 260 (0,0)))
theorem CovVal.keep {B:Nat} {w w':World} {cv:Value} {f:FenceM} (h:CovVal B w cv f) (hb:Bw w w'):CovVal B w' cv f:=by
 rcases h with h | ⟨h1,pf,pv,rfl,lf,lp,hF,hV⟩
 ·exact .inl h
 ·exact .inr ⟨h1,pf,pv,rfl,lf,lp,ag hF hb (hpl hF),ag hV hb (hpl hV)⟩
theorem CovVal.up {B B':Nat} {w:World} {cv:Value} {f:FenceM} (h:CovVal B w cv f) (hb:B<=B'):CovVal B' w cv f:=by
 rcases h with h | ⟨h1,pf,pv,rfl,lf,lp,hF,hV⟩
 ·exact .inl h
 ·exact .inr ⟨h1,pf,pv,rfl,by omega,by omega,hF,hV⟩
def rl (h:HartM):Value:=.agg #[VI h.mode,.bool h.sum,.bool h.mxr,VU h.satp]
structure SameC (c:Nat) (r:RunM) (h0:HartM):Prop where
 mem:r.h.mem=h0.mem
 mode:r.h.mode=h0.mode
 sum:r.h.sum=h0.sum
 mxr:r.h.mxr=h0.mxr
 satp:r.h.satp=h0.satp
 nf:r.fenced=false
 few:r.looks.length<=c
theorem SameC.up {c:Nat} {r:RunM} {h0:HartM} (h:SameC c r h0):SameC (c+1) r h0:=⟨h.mem,h.mode,h.sum,h.mxr,h.satp,h.nf,Nat.le_succ_of_le h.few⟩
def qf (plain:Bool) (r:RunM) (f:FenceM):RunM:=⟨if plain=true then r.h else withK r.h (dD r.h.k f),r.cause,r.tval,r.looks,true,f⟩
def CovFree (X:Nat->Prop) (w:World) (cv:Value) (f:FenceM):Prop:=
 (f.hasVa=true∧dC f.va=false∧cv=.func (.func 146) #[] #[])∨
 ((f.hasVa=false∨dC f.va=true)∧∃pf pv,cv=.func (.func 147) #[] #[PT pf 0,PT pv 0]∧¬X pf∧¬X pv∧
  w.heap[pf]?=some (.cells #[.bool f.hasVa,VU f.va,.bool f.hasAsid,VU f.asid] 59 (0,0))∧w.heap[pv]?=some (.cells #[VU f.va] 260 (0,0)))
theorem CovFree.kp {X:Nat->Prop} {w w':World} {cv:Value} {f:FenceM} (h:CovFree X w cv f) (hk:Kp X w w'):CovFree X w' cv f:=by
 rcases h with h | ⟨h1,pf,pv,rfl,lf,lp,hF,hV⟩
 ·exact .inl h
 ·exact .inr ⟨h1,pf,pv,rfl,lf,lp,hk.heap hF lf,hk.heap hV lp⟩
def EM (m:MP) (plain:Bool) (pick:Int) (X:Nat->Prop) (PA:World->RunM->Prop) (r:RunM) (kind va:Int) (w:World) (e:Ending) (w':World):Prop:=
 ∃pa code,e=.returned (.tuple #[VU pa,cM code])∧(code=1∨code=2∨code=3)∧(bu plain pick r.h kind va).1=(if code=1 then 0 else if code=2 then eR kind else bP kind,pa)∧PA w' (bR plain pick r kind va)∧Kp X w w'
structure PathOk (m:MP) (plain:Bool) (pick:Int) (h0:HartM) (X:Nat->Prop) (PI:World->Prop) (PA:World->RunM->Prop):Prop where
 frame:∀w w' r,PA w r->w.heap.size<=w'.heap.size->(∀i,X i->w'.heap[i]?=w.heap[i]?)->PA w' r
 framei:∀w w',PI w->w.heap.size<=w'.heap.size->(∀i,X i->w'.heap[i]?=w.heap[i]?)->PI w'
 congr:∀w r r',PA w r->r'.h.k=r.h.k->r'.looks=r.looks->r'.fenced=r.fenced->r'.fence=r.fence->PA w r'
 phys:∀w r sv kind va,PA w r->CellsM w m.b (iw r.h.k m.gi m.gd m.gp)->(∀u,Kp X w u->SrcAt u sv r.h.mem)->SameC 2 r h0->ROk r->0<=kind->kind<=2->inU va->
  ∃fn rv,(method 444 m.pd m.px "loop.example/s0051/impl.phys").run Tryz.prog w=.ok (fn,rv) w∧(∀args u,(callFunc fn args).run Tryz.prog u=.ok (.enter fn args) u)∧
   Calls Tryz.prog fn #[rv,sv,rl r.h,VI kind,VU va] w fun e w'=>EM m plain pick X PA r kind va w e w'
 fence:∀w r cv f,PA w r->CellsM w m.b (iw r.h.k m.gi m.gd m.gp)->CovFree X w cv f->SameC 2 r h0->ROk r->inU f.va->inU f.asid->
  ∃fn rv,(method 444 m.pd m.px "loop.example/s0051/impl.fence").run Tryz.prog w=.ok (fn,rv) w∧(∀args u,(callFunc fn args).run Tryz.prog u=.ok (.enter fn args) u)∧
   Calls Tryz.prog fn #[rv,cv] w fun e w'=>e=.returned (.tuple #[])∧PA w' (qf plain r f)∧Kp X w w'
 begin:∀w,PI w->CellsM w m.b (iw h0.k m.gi m.gd m.gp)->HOk h0->
  ∃fn rv,(method 444 m.pd m.px "loop.example/s0051/impl.begin").run Tryz.prog w=.ok (fn,rv) w∧(∀args u,(callFunc fn args).run Tryz.prog u=.ok (.enter fn args) u)∧
   Calls Tryz.prog fn #[rv,VI pick] w fun e w'=>e=.returned (.tuple #[])∧PA w' (cK plain pick h0)∧Kp X w w'
theorem PathOk.keep {m:MP} {plain:Bool} {pick:Int} {h0:HartM} {X:Nat->Prop} {PI:World->Prop} {PA:World->RunM->Prop} (k:PathOk m plain pick h0 X PI PA) {w w':World} {r:RunM} (h:PA w r) {O:Nat->Prop} (hx:∀i,X i->i<w.heap.size) (hk:Kp O w w') (ho:∀i,X i->¬O i):PA w' r:=
 k.frame w w' r h hk.size fun i hi=>hk.block i (hx i hi) (ho i hi)
theorem MW.box {w v u:World} {O X:Nat->Prop} {m:MP} {ov:Value} {h h':HartM} {ol ol':List (Nat × Int)} (k0:MW w O X m ov h' ol') (k:MW v O X m ov h ol) {g:Nat} (hg:v.grownBy u (some g)) (hw:w.heap.size<=g):MW u O X m ov h ol:=by
 have hk:=Kp.of_gb hg rfl;have l1:=k0.lt;have l2:=k0.mem.lt;refine ⟨hk.heap k.blk (by omega),hk.blk k.mem (by omega),hk.own k.old fun g' e=>?_,k.ob,k.om,k.oo,k.bm,k.xb,k.xm,fun i hi=>⟨(k.xo i hi).1,ltl (k.xo i hi).2 hg.size⟩,k.byt,k.len,k.regs,k.oll,k.sh,fun i hi=>ltl (k.obd i hi) hg.size,k.oln⟩;have:=(k0.old.lt g' e).2;omega
theorem Kp.box {O:Nat->Prop} {w v u:World} (h:Kp O w v) {g:Nat} (hg:v.grownBy u (some g)) (hw:w.heap.size<=g):Kp O w u:=
 h.trans' (O':=fun i=>i=g) (Kp.of_gb hg rfl) fun i hi e=>by omega
theorem PathOk.box {m:MP} {plain:Bool} {pick:Int} {h0:HartM} {X:Nat->Prop} {PI:World->Prop} {PA:World->RunM->Prop} (k:PathOk m plain pick h0 X PI PA) {v u:World} {r:RunM} (h:PA v r) {g:Nat} (hx:∀i,X i->i<v.heap.size) (hg:v.grownBy u (some g)) (hn:¬X g):PA u r:=
 k.keep h hx (O:=fun i=>i=g) (Kp.of_gb hg rfl) fun i hi e=>hn (e ▸ hi)
theorem BU (b:Nat) (w:World):(method 444 212 (PT b 18) "loop.example/s0051/impl.entryAt").run Tryz.prog w=(do let v <-loadVar 82 (AD b 18);pure (221,v):Sem (FuncId × Value)).run Tryz.prog w:=by kernel_rfl
theorem Dz {w:World} {O X:Nat->Prop} {m:MP} {ov:Value} {h:HartM} {ol:List (Nat × Int)} (k:MW w O X m ov h ol):SrcAt w (.iface 212 (PT m.b 18)) h.mem:=by
 refine ⟨_,_,some (AD m.gm 0),h.mem.length,h.mem.length,rfl,?_,Blk.byt k.mem k.byt,by have:=k.len;omega⟩;intro u hu;have hc:u.cell? (AD m.b 18)=some (SL m.gm h.mem.length h.mem.length):=ab (ag k.blk hu k.lt) 18 rfl;rw [BU];simp [go_sem,hc]
def ShK (k k':KM):Prop:=(k'.i.es.length=k.i.es.length∧k'.i.sets=k.i.sets∧k'.i.ways=k.i.ways)∧(k'.d.es.length=k.d.es.length∧k'.d.sets=k.d.sets∧k'.d.ways=k.d.ways)∧(k'.p.es.length=k.p.es.length∧k'.p.sets=k.p.sets∧k'.p.ways=k.p.ways)
theorem ShK.refl (k:KM):ShK k k:=⟨⟨rfl,rfl,rfl⟩,⟨rfl,rfl,rfl⟩,⟨rfl,rfl,rfl⟩⟩
theorem ShK.set {k k':KM} (h:ShK k k') (gi gd gp:Nat):iw k' gi gd gp=iw k gi gd gp:=by
 obtain ⟨⟨h1,h2,h3⟩,⟨h4,h5,h6⟩,h7,h8,h9⟩:=h;simp only [iw,h1,h2,h3,h4,h5,h6,h7,h8,h9]
theorem si (zs:List Int) (mode:Int) (sum mxr:Bool) (satp:Int) (k:KM) (kind va pick:Int) (hg:bJ k=true) (hk:0<=kind∧kind<=2) (hm:0<=mode∧mode<=2) (hp:0<=pick∧pick<=255):ShK k (cy zs mode sum mxr satp k kind va pick).2:=by
 unfold cy;rw [if_neg (by rw [hg];simp;omega)];split
 ·exact ShK.refl k
 ·split
  ·exact ShK.refl k
  ·split
   ·exact ShK.refl k
   ·simp only;have hp':=ma va satp pick (aW zs satp va (aY k.p va (aK satp))).2.2.2 k.p;split
    ·unfold th eV;by_cases h0:kind=0
     ·simp only [if_pos h0];exact ⟨fx _ _ _,⟨rfl,rfl,rfl⟩,hp'⟩
     ·simp only [if_neg h0];exact ⟨⟨rfl,rfl,rfl⟩,fx _ _ _,hp'⟩
    ·exact ⟨⟨rfl,rfl,rfl⟩,⟨rfl,rfl,rfl⟩,hp'⟩
theorem wX {h:HartM} (hh:HOk h) (plain:Bool) {pick kind va:Int} (hp:0<=pick∧pick<=255) (hk:0<=kind∧kind<=2):ShK h.k (bu plain pick h kind va).2:=by
 cases plain
 ·exact si _ _ _ _ _ _ _ _ _ hh.v.ks hk hh.v.mode hp
 ·exact ShK.refl _
theorem wY (k:KM) (f:FenceM):ShK k (dD k f):=by
 have h:∀t:TlbM,(eO t f).es.length=t.es.length∧(eO t f).sets=t.sets∧(eO t f).ways=t.ways:=fun t=>by
  unfold eO;split
  ·simp
  ·exact ⟨rfl,rfl,rfl⟩
 exact ⟨h k.i,h k.d,h k.p⟩
theorem wZ (plain:Bool) (pick:Int) (k:KM):ShK k (fB plain pick k):=by
 unfold fB;split
 ·exact ⟨by simp [be],by simp [be],by simp [be]⟩
 ·exact ShK.refl k
theorem AS (kind:Int):eR kind≠0:=by unfold eR;split;omega;split <;> omega
theorem fp (kind:Int):bP kind≠0:=by unfold bP;split;omega;split <;> omega
section
variable {P:Program} {ops:Array Oper} {md:Region.Mode} {C:World->Prop}
def HeadQ (P:Program) (md:Region.Mode) (ops:Array Oper) (C:World->Prop) (n:Nat) (L:Array Bool->Act->Prop):Nat->Array Bool->Act->Prop
 | 0,s,a=>L s a
 | f+1,s,a=>Region.ready md ops s≠[]∧∀i∈Region.ready md ops s,i<n∧qOp P ops C i (HeadQ P md ops C n L f (s.setIfInBounds i true)) a
theorem HeadQ.any {n g:Nat} {L:Array Bool->Act->Prop} {Q:Exit->Act->World->Prop} (hL:∀s a w,C w->L s a->wpAny P md ops Q g s a w):
 ∀(f:Nat) (s:Array Bool) (a:Act) (w:World),C w->HeadQ P md ops C n L f s a->wpAny P md ops Q (f+g) s a w
 | 0,s,a,w,hw,h=>by
  rw [Nat.zero_add];exact hL s a w hw h
 | f+1,s,a,w,hw,h=>by
  have e:f+1+g=(f+g)+1:=by omega
  rw [e];refine ⟨fun h0=>(h.1 h0).elim,fun i hi=>?_⟩;exact wpOp_of_qOp hw (fun a' w' hw' h'=>HeadQ.any hL f _ a' w' hw' h') (h.2 i hi).2
theorem HeadQ.first {n i:Nat} {o:Oper} {v:Value} {L:Array Bool->Act->Prop} (ho:ops[i]?=some o) (ns:Region.noSelect ops=true) (hs:Region.sinkB md ops n=true) (hc:Region.chainB md ops n=true) (hn:n<ops.size) (hin:i<n)
 (hd:∀s a,L s a->∀j∈Region.ready md ops s,n<=j) (f:Nat):∀(s:Array Bool) (a:Act),HeadInv md ops n s->
  (∀j oj,ops[j]?=some oj->j≠i->s.getD j true=false->(∀e∈oj.after,Region.binds md e=true->e.on≠i)->o.apart ops oj=true)->
  i∈Region.ready md ops s->YieldsIn P ops C o v a->HeadQ P md ops C n L f (s.setIfInBounds i true) (a.put o.dst v)->HeadQ P md ops C n L (f+1) s a:=by
 have sel:=Region.noSelect_spec ns
 induction f with
 | zero=>
  intro s a inv _ hr hy H;refine ⟨fun h=>(by rw [h] at hr;cases hr),fun j hj=>?_⟩;have hjn:=Nat.lt_of_not_le fun h=>tail_waits hs hc hn inv _ i rfl hin (mem_ready.1 hr).1 j h hj;refine ⟨hjn,?_⟩;by_cases hji:j=i
  ·subst hji;exact YieldsIn.qOp ho hy H
  ·exact absurd (hd _ _ H j (ready_mono hj hji)) (by omega)
 | succ f ih=>
  intro s a inv hfree hr hy H;refine ⟨fun h=>(by rw [h] at hr;cases hr),fun j hj=>?_⟩;have hun:=(mem_ready.1 hr).1;have hjn:=Nat.lt_of_not_le fun h=>tail_waits hs hc hn inv _ i rfl hin hun j h hj;refine ⟨hjn,?_⟩;by_cases hji:j=i
  ·subst hji;exact YieldsIn.qOp ho hy H
  obtain ⟨hjun,oj,hoj,hall⟩:=mem_ready.1 hj;have hno:∀e∈oj.after,Region.binds md e=true->e.on≠i:=fun e he hb heq=>by
   have:=hall e he hb;rw [heq,getD_both hun] at this;cases this
  refine qOp_mono (fun a' h3=>?_) (qOp_put hoj (hfree j oj hoj hji hjun hno) (fun cs b=>sel i o cs b ho) (fun cs b=>sel j oj cs b hoj) hy (H.2 j (ready_mono hj hji)).2);refine ih (s.setIfInBounds j true) a' (inv.set hj hjn) (fun k ok hk hki hku hkn=>?_) (ready_mono hr (Ne.symm hji)) h3.1 ?_
  ·refine hfree k ok hk hki ?_ hkn;by_cases hjk:j=k
   ·rw [<-hjk];exact hjun
   ·rwa [getD_set_ne true hjk] at hku
  ·rw [Array.setIfInBounds_comm _ _ hji];exact h3.2
theorem HeadQ.lex {n g:Nat} {L:Act->Prop} (ns:Region.noSelect ops=true) (hs:Region.sinkB md ops n=true) (hc:Region.chainB md ops n=true) (hn:n<ops.size):
 ∀(l:List Oper) (k:Nat) (s:Array Bool) (a:Act),(∀j,j<l.length->l[j]?=ops[k+j]?)->k+l.length=n->HeadInv md ops n s->Region.lexHead md ops g l.length k s=true->wpQuiet P ops C L l a->
  HeadQ P md ops C n (fun s' a'=>Region.seqB md ops g n s'=true∧L a') l.length s a
 | [],k,s,a,_,hk,_,hB,h=>by
  obtain rfl:k=n:=by simpa using hk
  exact ⟨by simpa [Region.lexHead] using hB,h⟩
 | o::l,k,s,a,hl,hk,inv,hB,h=>by
  rw [List.length_cons] at hk;have h0:ops[k]?=some o:=by simpa using (hl 0 (by simp)).symm
  simp only [List.length_cons,Region.lexHead,Bool.and_eq_true] at hB;have hr:k∈Region.ready md ops s:=by simpa using hB.1.1
  have hq:qOp P ops C k (wpQuiet P ops C L l) a:=by
   unfold qOp;simp only [h0];exact h
  obtain ⟨v,hy,hK⟩:=yieldsIn_of_qOp h0 hq;refine HeadQ.first h0 ns hs hc hn (by omega) (fun s' a' hL=>seqB_ready hL.1) l.length s a inv (Region.free_spec h0 hB.1.2) hr hy ?_;refine HeadQ.lex ns hs hc hn l (k+1) _ _ (fun j hj=>?_) (by omega) (inv.set hr (by omega)) hB.2 hK;have:=hl (j+1) (by simp;omega);simpa [Nat.add_assoc,Nat.add_comm 1 j] using this
theorem ry {id:Nat} {Q:Exit->Act->World->Prop} {a:Act} {w:World} {l:List Oper} (n:Nat) (hm:P.follows .mixedOrders=true) (hB:Region.lexTailB .any l.toArray n=true) (hC:C w.drew)
 (h:wpQuiet P l.toArray C (fun a'=>∀w',C w'->wpList P l.toArray Q (l.drop n) a' w') (l.take n) a):(Code.region id l.toArray true).wp P Q a w:=by
 simp only [Region.lexTailB,Bool.and_eq_true,decide_eq_true_eq] at hB;obtain ⟨⟨⟨⟨ns,hn⟩,hs⟩,hc⟩,hx⟩:=hB;have hn':n<l.length:=by simpa using hn
 have e1:(l.take n).length=n:=by simp;omega
 have e2:(l.drop n).length=l.toArray.size-n:=by simp
 have i0:HeadInv .any l.toArray n (Array.replicate l.toArray.size false):=
  ⟨by simp,fun j oj _ hl=>(by rw [getD_replicate_false] at hl;cases hl),fun t _ ht=>getD_in (by simpa using ht) (getD_replicate_false _ _)⟩
 have hl:=HeadQ.lex (P:=P) (C:=C) (g:=l.toArray.size-n) ns hs hc hn (l.take n) 0 (Array.replicate l.toArray.size false) a (fun j hj=>by
  rw [e1] at hj;simp [hj]) (by rw [e1];omega) i0 (by rw [e1];exact hx) h
 rw [e1] at hl;refine wp_region_any hm ?_;have:=HeadQ.any (Q:=Q) (g:=l.toArray.size-n) (C:=C) (fun s a' w' hw' hL=>by
  have q:=wpAny_of_seq (P:=P) (Q':=Q) (l.drop n) n s a' w' (fun j=>by simp [List.getElem?_drop]) (by rw [e2];exact hL.1) (hL.2 w' hw');rw [e2] at q;exact q) n _ a w.drew hC hl
 rw [show n+(l.toArray.size-n)=l.toArray.size by simp;omega] at this;exact this
end
theorem lL {P:Program} {id:Nat} {Q:Exit->Act->World->Prop} {a:Act} {w:World} {l:List Oper} (n:Nat) (hm:P.follows .mixedOrders=true) (hB:Region.lexTailB .any l.toArray n=true)
 (h:wpQuiet P l.toArray (fun w'=>∃u:Lies w,w'=u.w) (fun a'=>∀w',(∃u:Lies w,w'=u.w)->wpList P l.toArray Q (l.drop n) a' w') (l.take n) a):(Code.region id l.toArray true).wp P Q a w:=
 ry n hm hB ⟨⟨w.drew,(brf).drew⟩,rfl⟩ h
def vU (o:Oper):Bool:=
 match o.op with
 | .move _ | .assign _ | .load _ _ | .fieldAddr _ _ _ | .field _ _ _ | .binOp _ _ _ _ _ | .unOp _ _ _ | .convert _ _ _ | .extract _ _ | .makeInterface _ _ | .build _ _ | .indexAddr _ _ _ | .nilCheck _ | .slice _ _ _ _ _ | .sliceToArrayPointer _ _=>true
 | _=>false
theorem Bq {P:Program} {s:Sem Value} {w w':World} {n:Next} (h:(do pure (.value (<-s)):Sem Next).run P w=.ok n w'):∃v,n=.value v:=by
 simp only [Sem.run_bind,Sem.run_pure] at h;generalize s.run P w=r at h;cases r with
 | ok x w1=>
  simp only [Result.andThen_ok,Result.ok.injEq] at h;exact ⟨x,h.1.symm⟩
 | halt x w1=>simp [Result.andThen] at h
theorem sS {P:Program} {ρ:Operand->Value} {o:Oper} {w w':World} {n:Next} (hp:vU o=true) (h:(execOp ρ o).run P w=.ok n w'):∃v,n=.value v:=by
 unfold vU at hp;unfold execOp at h;obtain ⟨dst,op,ty,pos,af,gd⟩:=o;cases op;all_goals first
  | (cases hp;done)
  | exact Bq h
  | (simp only [Sem.run_pure,Result.ok.injEq] at h;exact ⟨_,h.1.symm⟩)
  | skip
 rename_i x;simp only at h;split at h;all_goals first
  | (simp only [Sem.run_pure,Result.ok.injEq] at h;exact ⟨_,h.1.symm⟩)
  | (exfalso;revert h;simp [runtimePanic,go_sem];done)
  | skip
 split at h;all_goals first
  | (simp only [Sem.run_pure,Result.ok.injEq] at h;exact ⟨_,h.1.symm⟩)
  | (exfalso;revert h;simp [runtimePanic,go_sem];done)
  | skip
 simp only [Sem.run_bind] at h;generalize Sem.run P program w=r1 at h;cases r1 with
 | halt y w1=>simp [Result.andThen] at h
 | ok p w1=>
  simp only [Result.andThen_ok] at h;generalize Sem.run P (nilAhead _ _ _ _) w1=r2 at h;cases r2 with
  | halt y w2=>simp [Result.andThen] at h
  | ok q w2=>
   simp only [Result.andThen_ok] at h;split at h
   ·simp only [Sem.run_bind] at h;generalize Sem.run P (unsupported _) w2=r3 at h;cases r3 with
    | halt y w3=>simp [Result.andThen] at h
    | ok q w3=>
     simp only [Result.andThen_ok,Sem.run_pure,Result.ok.injEq] at h;exact ⟨_,h.1.symm⟩
   ·simp only [Sem.run_pure,Result.ok.injEq] at h;exact ⟨_,h.1.symm⟩
structure Has (b:Nat) (o:Obj) where
 w:World
 h:w.heap[b]?=some o
structure Has2 (b:Nat) (o:Obj) (b':Nat) (o':Obj) where
 w:World
 h:w.heap[b]?=some o
 h':w.heap[b']?=some o'
structure HasC (l:List (Addr × Value)) where
 w:World
 h:∀q∈l,w.cell? q.1=some q.2
theorem Br {Q:Exit->Act->World->Prop} (h:∀x a a' w,a'.defers=a.defers->Q (.panic x) a' w->Q (.panic x) a w) (x:List PanicEntry) (a:Act) (d:Option Tmp) (v:Value) (w:World) (hq:Q (.panic x) (a.put d v) w):Q (.panic x) a w:=
 h x a _ w (by cases d <;> rfl) hq
section
variable {P:Program} {ops:Array Oper} {Q:Exit->Act->World->Prop} {F:World->Prop} {c:Nat}
def Bt (ops:Array Oper) (c:Nat):List Nat->Array Bool->Bool
 | [],_=>true
 | i::is,s=>kX ops s && Region.free .any ops s i && (Region.ready .any ops s).contains i && (i != c) && mx ops ops.size c i && (match ops[i]? with | some o=>vU o | none=>false) && Bt ops c is (s.setIfInBounds i true)
def uG:List Nat->Array Bool->Array Bool
 | [],s=>s
 | i::is,s=>uG is (s.setIfInBounds i true)
def gX (ops:Array Oper):List Nat->List Oper
 | []=>[]
 | i::is=>match ops[i]? with
  | some o=>o::gX ops is
  | none=>gX ops is
theorem xX (ns:Region.noSelect ops=true) {fuel:Nat} {w:World} (hF:F w) (hQ:∀x a (d:Option Tmp) v w,Q (.panic x) (a.put d v) w->Q (.panic x) a w):∀(is:List Nat) (s:Array Bool) (a:Act),Bt ops c is s=true->
 wpQuiet P ops F (fun a'=>bK P ops Q F c fuel (uG is s) a' w) (gX ops is) a->bK P ops Q F c (fuel+is.length) s a w
 | [],s,a,_,h=>h
 | i::is,s,a,hB,h=>by
  simp only [Bt,Bool.and_eq_true] at hB;obtain ⟨⟨⟨⟨⟨⟨h1,h2⟩,h3⟩,h4⟩,h5⟩,h6⟩,h7⟩:=hB;cases ho:ops[i]? with
  | none=>rw [ho] at h6;cases h6
  | some o=>
   rw [ho] at h6;simp only [gX,ho,wpQuiet] at h;have key:∀v,YieldsIf P ops (fun w=>∃l,Closed ops l∧l.getD i true=false∧(l.getD c false=false->F w)) o v a->wpQuiet P ops F (fun a'=>bK P ops Q F c fuel (uG is (s.setIfInBounds i true)) a' w) (gX ops is) (a.put o.dst v)->bK P ops Q F c (fuel+(i::is).length) s a w:=fun v hy hn=>
    kW ho (by simpa using h4) (Region.noSelect_spec ns) (fun x a w=>hQ x a _ _ w) (fuel+is.length) s a w (jk h1) (Region.free_spec ho h2) (by simpa using h3) hy (fun _=>hF) (xX ns hF hQ is _ _ h7 hn)
   split at h
   ·rename_i hw;obtain ⟨v,hv,hn⟩:=h;refine key v (.inl ⟨hw,fun u ⟨l,l1,l2,l3⟩=>?_⟩) hn;have hFu:F u:=l3 (by
     cases hh:l.getD c false
     ·rfl
     ·have:=jQ l1 _ _ h5 hh;rw [nv l2] at this;cases this)
    have hq:=hv u hFu;unfold Oper.quietAt at hq;generalize hr:(execOp a.eval o).run P u=r at hq;cases r with
    | halt x w1=>exact hq.elim
    | ok n w1=>
     obtain ⟨x,rfl⟩:=sS h6 hr;obtain ⟨rfl,rfl⟩:=hq;rfl
   ·rename_i hw;exact key undef (.inr ⟨by simpa using hw,rfl⟩) h
theorem zx {fuel:Nat} {listed:Array Bool} {a:Act} {w:World} (i:Nat) {o:Oper} (d:Tmp) (hd:o.dst=some d) (hi:ops[i]?=some o) (hg:o.guard=none) (hr:Region.ready .any ops listed=[i]) {f:FuncId} {args:Array Value} (he:(execOp a.eval o).run P w=.ok (.enter f args) w)
 (h:Calls P f args w fun e w'=>(∃x,e=.returned x∧((listed.setIfInBounds i true).getD c false=false->F w')∧bK P ops Q F c fuel (listed.setIfInBounds i true) (a.put (some d) x) w')∨(∃ch,e=.panicked ch∧Q (.panic ch) a w')):bK P ops Q F c (fuel+1) listed a w:=by
 refine my i hr ?_;unfold wpOp;simp only [hi];rw [if_pos (by simp [Region.wanted,hg])];refine .inl ?_;unfold Oper.wp;rw [he];refine h.mono ?_;rintro e w' (⟨x,rfl,hS,h2⟩ | ⟨ch,rfl,h2⟩)
 ·refine ⟨hS,?_⟩;rw [hd];exact h2
 ·exact h2
theorem eh {fuel:Nat} {listed:Array Bool} {a:Act} {w:World} (i:Nat) {o:Oper} (d:Tmp) (hi:ops[i]?=some o) {f:FuncId} {args:Array Value}
 (h:Calls P f args w fun e w'=>(∃x,e=.returned x∧((listed.setIfInBounds i true).getD c false=false->F w')∧bK P ops Q F c fuel (listed.setIfInBounds i true) (a.put (some d) x) w')∨(∃ch,e=.panicked ch∧Q (.panic ch) a w'))
 (hd:o.dst=some d:=by kernel_rfl) (hg:o.guard=none:=by kernel_rfl) (hr:Region.ready .any ops listed=[i]:=by kernel_rfl) (he:(execOp a.eval o).run P w=.ok (.enter f args) w:=by kernel_rfl):bK P ops Q F c (fuel+1) listed a w:=zx i d hd hi hg hr he h
theorem eZ {fuel:Nat} {w:World} (hF:F w) (is:List Nat) {s:Array Bool} {a:Act} (h:wpQuiet P ops F (fun a'=>bK P ops Q F c fuel (uG is s) a' w) (gX ops is) a) (hB:Bt ops c is s=true:=by kernel_rfl) (ns:Region.noSelect ops=true:=by kernel_rfl)
 (hQ:∀x a (d:Option Tmp) v w,Q (.panic x) (a.put d v) w->Q (.panic x) a w:=by exact Br fun _ _ _ _ e h=>⟨e ▸ h.1,h.2⟩):bK P ops Q F c (fuel+is.length) s a w:=xX ns hF hQ is s a hB h
end
end Go.Proofs.YtkenjknmfhoppaaGreat
