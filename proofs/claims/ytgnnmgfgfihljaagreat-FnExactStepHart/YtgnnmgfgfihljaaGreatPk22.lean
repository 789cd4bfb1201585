import Derived.Test.YtgnnmgfgfihljaaGreatPk18
import Derived.Test.YtgnnmgfgfihljaaGreatPk11
namespace Go.Proofs.YtgnnmgfgfihljaaGreat
open Go.RowKit
set_option linter.unusedVariables false
set_option maxHeartbeats 6400000
set_option maxRecDepth 20000
def CellsM (w:World) (b:Nat) (A:Array Value):Prop:=
 ∃C,w.heap[b]?=some (.cells C 106 (0,0))∧∀(i:Nat) (v:Value),A[i]?=some v->C[20+i]?=some v
theorem CellsM.keep {w w':World} {b:Nat} {A:Array Value} (h:CellsM w b A) (hb:Below w.heap.size w w'):CellsM w' b A:=by
 obtain ⟨C,h1,h2⟩:=h;exact ⟨C,ae h1 hb (hpl h1),h2⟩
theorem CellsM.gb {w w':World} {b r:Nat} {A:Array Value} (h:CellsM w b A) (hg:w.grownBy w' (some r)) (hne:b≠r):CellsM w' b A:=by
 obtain ⟨C,h1,h2⟩:=h;exact ⟨C,aQ h1 hg hne,h2⟩
theorem CellsM.cell {w:World} {b:Nat} {A:Array Value} (h:CellsM w b A) (i j:Nat) (v:Value) (hv:A[i]?=some v) (hj:20+i=j):w.cell? ⟨b,j,none⟩=some v:=by
 obtain ⟨C,h1,h2⟩:=h;subst hj;exact go h1 _ v (h2 i v hv)
def SetM (w:World) (b base gi gd gp:Nat) (k:KM):Prop:=
 CellsM w b (eR k gi gd gp)∧RowsAt w base gi gd gp k∧b≠gi∧b≠gd∧b≠gp
theorem SetM.keep {w w':World} {b base gi gd gp:Nat} {k:KM} (h:SetM w b base gi gd gp k) (hb:Below w.heap.size w w'):SetM w' b base gi gd gp k:=
 ⟨h.1.keep hb,h.2.1.keep hb,h.2.2⟩
theorem SetM.lt {w:World} {b base gi gd gp:Nat} {k:KM} (h:SetM w b base gi gd gp k):b<w.heap.size:=by
 obtain ⟨C,h1,_⟩:=h.1;exact (hpl h1)
theorem SetM.cellI {w:World} {b base gi gd gp:Nat} {k:KM} (h:SetM w b base gi gd gp k):
 w.cell? ⟨b,20,none⟩=some (.int .i64 k.i.sets)∧w.cell? ⟨b,20+1,none⟩=some (.int .i64 k.i.ways)∧w.cell? ⟨b,20+2,none⟩=some (.slice (some ⟨gi,0,none⟩) k.i.es.length k.i.es.length):=
 ⟨h.1.cell 0 _ _ rfl rfl,h.1.cell 1 _ _ rfl rfl,h.1.cell 2 _ _ rfl rfl⟩
theorem SetM.cellD {w:World} {b base gi gd gp:Nat} {k:KM} (h:SetM w b base gi gd gp k):
 w.cell? ⟨b,23,none⟩=some (.int .i64 k.d.sets)∧w.cell? ⟨b,23+1,none⟩=some (.int .i64 k.d.ways)∧w.cell? ⟨b,23+2,none⟩=some (.slice (some ⟨gd,0,none⟩) k.d.es.length k.d.es.length):=
 ⟨h.1.cell 3 _ _ rfl rfl,h.1.cell 4 _ _ rfl rfl,h.1.cell 5 _ _ rfl rfl⟩
theorem SetM.cellP {w:World} {b base gi gd gp:Nat} {k:KM} (h:SetM w b base gi gd gp k):
 w.cell? ⟨b,26,none⟩=some (.int .i64 k.p.sets)∧w.cell? ⟨b,26+1,none⟩=some (.int .i64 k.p.ways)∧w.cell? ⟨b,26+2,none⟩=some (.slice (some ⟨gp,0,none⟩) k.p.es.length k.p.es.length):=
 ⟨h.1.cell 6 _ _ rfl rfl,h.1.cell 7 _ _ rfl rfl,h.1.cell 8 _ _ rfl rfl⟩
def fx:List (Nat × Int)->List Int->List Int
 | [],m=>m
 | o::os,m=>(fx os m).set o.1 o.2
theorem nX:∀(ol:List (Nat × Int)) (x:Nat × Int) (m:List Int),fx (ol++[x]) m=fx ol (m.set x.1 x.2)
 | [],x,m=>rfl
 | o::os,x,m=>by simp only [List.cons_append,fx,nX os x m]
theorem vo:∀(ol:List (Nat × Int)) (m:List Int),(fx ol m).length=m.length
 | [],m=>rfl
 | o::os,m=>by simp only [fx,List.length_set,vo os m]
theorem wV (ol:List (Nat × Int)) (a:Nat) (v:Int) (m:List Int):fx (ol++[(a,m[a]?.getD 0)]) (m.set a v)=fx ol m:=by
 rw [nX];simp only [List.set_set];by_cases h:a<m.length
 ·rw [List.getElem?_eq_getElem h,Option.getD_some,List.set_getElem_self]
 ·rw [List.set_eq_of_length_le (by omega)]
def BytM (zs:List Int):Prop:=∀i:Nat,0<=zs[i]?.getD 0∧zs[i]?.getD 0<=255
theorem BytM.set {zs:List Int} (h:BytM zs) (k:Nat) (z:Int) (h0:0<=z) (h1:z<=255):BytM (zs.set k z):=by
 refine ge fun x hx=>?_;rcases List.mem_or_eq_of_mem_set hx with hx | rfl
 ·exact fG h x hx
 ·exact ⟨h0,h1⟩
def rK (mem:List Int) (pa j:Nat):List Int:=(mem.drop pa).take j
theorem yJ (mem:List Int) (pa j:Nat) (h:pa+j<mem.length):rK mem pa (j+1)=rK mem pa j++[mem[pa+j]?.getD 0]:=by
 unfold rK;rw [List.take_succ_eq_append_getElem (by simp;omega)];simp [h]
theorem zW (mem:List Int) (pa j:Nat) (h:pa+j<=mem.length):(rK mem pa j).length=j:=by
 simp [rK];omega
theorem iZ (mem:List Int):∀(a b:List bI),bS mem (a++b)=bS mem a++bS mem b
 | [],b=>rfl
 | p::a,b=>by simp only [List.cons_append,bS,iZ mem a b,List.append_assoc]
def qS (mem:List Int) (ps:List bI):Prop:=∀p∈ps,fw mem.length p.2.2 p.2.1=true
theorem mI {mem:List Int}:∀{ps:List bI},qS mem ps->fm mem ps=none
 | [],_=>rfl
 | q::ps,h=>by
  unfold fm;rw [if_pos (h q (by simp)),mI fun p hp=>h p (by simp [hp])]
theorem pD {mem:List Int}:∀{a:List bI} {p:bI} {b:List bI},qS mem a->fw mem.length p.2.2 p.2.1=false->fm mem (a++p::b)=some p.1
 | [],p,b,_,h=>by simp only [List.nil_append,fm];rw [if_neg (by rw [h];simp)]
 | q::a,p,b,ha,h=>by
  simp only [List.cons_append,fm];rw [if_pos (ha q (by simp)),pD (fun x hx=>ha x (by simp [hx])) h]
theorem zX (xs:List Int) (y:Int):num (xs++[y])=num xs+y*256^xs.length:=by
 rw [pW];simp [num,Int.mul_comm]
theorem zY (mem:List Int) (pa j:Nat) (x:Int) (h:pa+j<mem.length):(put mem pa (cS x j)).set (pa+j) (x/256^j%256)=put mem pa (cS x (j+1)):=by
 rw [AE _ _ _ (by rw [xx _ _ _ (by rw [fL];omega)];exact h)];have:=zq mem pa j 1 x (by omega);rw [<-this];rfl
theorem sB (n m:Nat) (x:Int) (h:n<=m):(cS x m).take n=cS x n:=by
 obtain ⟨k,rfl⟩:=Nat.le.dest h;rw [pY,List.take_append_of_le_length (by rw [fL];exact nle),List.take_of_length_le (by rw [fL];exact nle)]
theorem sC (n m:Nat) (x:Int):(cS x (n+m)).drop n=cS (x/256^n) m:=by
 rw [pY,List.drop_append,List.drop_of_length_le (by rw [fL];exact nle),fL,Nat.sub_self];simp
def bN:List bI->Nat
 | []=>0
 | p::ps=>p.2.1.toNat+bN ps
theorem oM (mem:List Int):∀(a:List bI) (mem:List Int) (b:List bI) (x:Int) (m:Nat),gn mem (a++b) (cS x (bN a+m))=gn (gn mem a (cS x (bN a))) b (cS (x/256^bN a) m)
 | [],mem,b,x,m=>by simp [gn,bN]
 | p::a,mem,b,x,m=>by
  simp only [List.cons_append,gn,bN];rw [sB _ _ x (by omega),sB _ _ x (by omega),show p.2.1.toNat+bN a+m=p.2.1.toNat+(bN a+m) by omega,sC,sC,oM mem a];congr 2;rw [Int.pow_add,<-Int.ediv_ediv_of_nonneg (Int.le_of_lt (Int.pow_pos (by omega)))]
structure Kp (O:Nat->Prop) (w w':World):Prop where
 os:w'.os=w.os
 tape:w'.tape=w.tape
 output:w'.output=w.output
 size:w.heap.size<=w'.heap.size
 block:∀i,i<w.heap.size->¬O i->w'.heap[i]?=w.heap[i]?
theorem Kp.refl (O:Nat->Prop) (w:World):Kp O w w:=⟨rfl,rfl,rfl,nle,fun _ _ _=>rfl⟩
theorem Kp.trans {O:Nat->Prop} {a b c:World} (h:Kp O a b) (k:Kp O b c):Kp O a c:=
 ⟨k.os.trans h.os,k.tape.trans h.tape,k.output.trans h.output,Nat.le_trans h.size k.size,fun i hi ho=>(k.block i (Nat.lt_of_lt_of_le hi h.size) ho).trans (h.block i hi ho)⟩
theorem Kp.trans' {O O':Nat->Prop} {a b c:World} (h:Kp O a b) (k:Kp O' b c) (ho:∀i,i<a.heap.size->O' i->O i):Kp O a c:=
 ⟨k.os.trans h.os,k.tape.trans h.tape,k.output.trans h.output,Nat.le_trans h.size k.size,fun i hi hn=>(k.block i (Nat.lt_of_lt_of_le hi h.size) fun h'=>hn (ho i hi h')).trans (h.block i hi hn)⟩
theorem Kp.mono {O O':Nat->Prop} {a b:World} (h:Kp O a b) (ho:∀i,O i->O' i):Kp O' a b:=
 ⟨h.os,h.tape,h.output,h.size,fun i hi hn=>h.block i hi fun h'=>hn (ho i h')⟩
theorem Kp.of_below {w w':World} (O:Nat->Prop) (h:Below w.heap.size w w'):Kp O w w':=⟨h.os,h.tape,h.output,h.size,fun i hi _=>h.block i hi⟩
theorem Kp.of_gb {w w':World} {O:Nat->Prop} {r:Nat} (h:w.grownBy w' (some r)) (hr:O r):Kp O w w':=
 ⟨h.os,h.tape,h.output,h.size,fun i hi hn=>h.block i hi (by
  intro e;have:r=i:=by simpa using e.symm
  subst this;exact hn hr)⟩
theorem Kp.of_keeps {w w':World} {O:Nat->Prop} {x y z:Nat} (h:Keeps w w' x y z) (hx:O x) (hy:O y) (hz:O z):Kp O w w':=
 ⟨h.1,h.2.1,h.2.2.1,h.2.2.2.1,fun i hi hn=>h.2.2.2.2 i hi (by rintro rfl;exact hn hx) (by rintro rfl;exact hn hy) (by rintro rfl;exact hn hz)⟩
theorem Kp.heap {O:Nat->Prop} {w w':World} {i:Nat} {o:Obj} (h:Kp O w w') (hi:w.heap[i]?=some o) (ho:¬O i):w'.heap[i]?=some o:=
 (h.block i (hpl hi) ho).trans hi
theorem Kp.hid {O:Nat->Prop} {w w':World} {i:Nat} {o:Obj} (h:Hid (w.heap[i]?=some o)) (k:Kp O w w') (ho:¬O i):Hid (w'.heap[i]?=some o):=k.heap h.out ho
theorem Kp.blk {O:Nat->Prop} {w w':World} {e:TypeId} {g:Nat} {zs:List Int} (h:Kp O w w') (hb:Blk e w g zs) (ho:¬O g):Blk e w' g zs:=h.heap hb ho
theorem Kp.own {O:Nat->Prop} {w w':World} {e:TypeId} {size base n:Nat} {s:Value} {cs:List Value} (h:Kp O w w') (ho:w.ownsRow base e size s n cs) (hn:∀g,s.ownBlock=some g->¬O g):w'.ownsRow base e size s n cs:=by
 obtain ⟨h1,h2⟩:=ho;refine ⟨h1,?_⟩;rcases h2 with h2 | ⟨g',cap',cur,h2,hb,hh,r⟩
 ·exact .inl h2
 ·exact .inr ⟨g',cap',cur,h2,hb,h.heap hh (hn g' (by rw [h2];rfl)),r⟩
theorem Kp.below {O:Nat->Prop} {B:Nat} {a w w':World} (hb:Below B a w) (h:Kp O w w') (hB:B<=w.heap.size) (ho:∀i,O i->B<=i):Below B a w':=
 hb.trans ⟨h.os,h.tape,h.output,h.size,fun k hk=>h.block k (by omega) fun h'=>by have:=ho k h';omega⟩
theorem Kp.rows {O:Nat->Prop} {w w':World} {base gi gd gp:Nat} {k:KM} (h:Kp O w w') (hr:RowsAt w base gi gd gp k) (h1:¬O gi) (h2:¬O gd) (h3:¬O gp):RowsAt w' base gi gd gp k:=
 ⟨h.own hr.1 fun g e=>by cases e;exact h1,h.own hr.2.1 fun g e=>by cases e;exact h2,h.own hr.2.2.1 fun g e=>by cases e;exact h3,hr.2.2.2⟩
def fq (h:HartM):Array Value:=#[.int .u64 (h.regs[0]?.getD 0),.int .u64 (h.regs[1]?.getD 0),.int .u64 (h.regs[2]?.getD 0),.int .u64 (h.regs[3]?.getD 0),.int .u64 (h.regs[4]?.getD 0),.int .u64 (h.regs[5]?.getD 0),.int .u64 (h.regs[6]?.getD 0),.int .u64 (h.regs[7]?.getD 0),
 .int .u64 h.pc,.int .i64 h.mode,.bool h.sum,.bool h.mxr,.int .u64 h.satp,.int .u64 h.tvec,.int .u64 h.epc,.int .i64 h.emode,.int .i64 h.cause,.int .u64 h.tval]
def cy (h:HartM) (gm:Nat) (ov:Value) (gi gd gp:Nat) (pv:Value):Array Value:=#[.int .u64 (h.regs[0]?.getD 0),.int .u64 (h.regs[1]?.getD 0),.int .u64 (h.regs[2]?.getD 0),.int .u64 (h.regs[3]?.getD 0),.int .u64 (h.regs[4]?.getD 0),.int .u64 (h.regs[5]?.getD 0),.int .u64 (h.regs[6]?.getD 0),.int .u64 (h.regs[7]?.getD 0),
 .int .u64 h.pc,.int .i64 h.mode,.bool h.sum,.bool h.mxr,.int .u64 h.satp,.int .u64 h.tvec,.int .u64 h.epc,.int .i64 h.emode,.int .i64 h.cause,.int .u64 h.tval,
 .slice (some ⟨gm,0,none⟩) h.mem.length h.mem.length,ov,
 .int .i64 h.k.i.sets,.int .i64 h.k.i.ways,.slice (some ⟨gi,0,none⟩) h.k.i.es.length h.k.i.es.length,.int .i64 h.k.d.sets,.int .i64 h.k.d.ways,.slice (some ⟨gd,0,none⟩) h.k.d.es.length h.k.d.es.length,.int .i64 h.k.p.sets,.int .i64 h.k.p.ways,.slice (some ⟨gp,0,none⟩) h.k.p.es.length h.k.p.es.length,pv]
def kV:List (Nat × Int)->List Value
 | []=>[]
 | o::os=>.int .u64 o.1::.int .u64 o.2::kV os
theorem oE:∀a b:List (Nat × Int),kV (a++b)=kV a++kV b
 | [],b=>rfl
 | o::a,b=>by simp [kV,oE a b]
theorem ut:∀a:List (Nat × Int),(kV a).length=a.length*2
 | []=>rfl
 | o::a=>by simp [kV,ut a];omega
structure MP where
 b:Nat
 gm:Nat
 gi:Nat
 gd:Nat
 gp:Nat
 pd:TypeId
 px:Value
def MP.pv (m:MP):Value:=.iface m.pd m.px
structure MW (w:World) (O X:Nat->Prop) (m:MP) (ov:Value) (h:HartM) (ol:List (Nat × Int)):Prop where
 blk:w.heap[m.b]?=some (.cells (cy h m.gm ov m.gi m.gd m.gp m.pv) 106 (0,0))
 mem:Blk 5 w m.gm h.mem
 old:w.ownsRow 0 181 2 ov ol.length (kV ol)
 ob:O m.b
 om:O m.gm
 oo:∀g,ov.ownBlock=some g->O g∧g≠m.b∧g≠m.gm∧¬X g
 bm:m.b≠m.gm
 xb:¬X m.b
 xm:¬X m.gm
 xo:∀i,X i->O i∧i<w.heap.size
 byt:BytM h.mem
 len:h.mem.length<=4096
 regs:h.regs.length=8
 oll:ol.length<=16
 sh:∃n c a,ov=.slice a n c
 obd:∀i,O i->i<w.heap.size
 oln:∀o∈ol,o.1<h.mem.length∧0<=o.2∧o.2<=255
theorem MW.lt {w:World} {O X:Nat->Prop} {m:MP} {ov:Value} {h:HartM} {ol:List (Nat × Int)} (k:MW w O X m ov h ol):m.b<w.heap.size:=(hpl k.blk)
theorem MW.keep {w w':World} {O X:Nat->Prop} {m:MP} {ov:Value} {h:HartM} {ol:List (Nat × Int)} (k:MW w O X m ov h ol) (hk:Kp X w w'):MW w' O X m ov h ol:=
 ⟨hk.heap k.blk k.xb,hk.blk k.mem k.xm,hk.own k.old fun g e=>(k.oo g e).2.2.2,k.ob,k.om,k.oo,k.bm,k.xb,k.xm,fun i hi=>⟨(k.xo i hi).1,Nat.lt_of_lt_of_le (k.xo i hi).2 hk.size⟩,k.byt,k.len,k.regs,k.oll,k.sh,fun i hi=>Nat.lt_of_lt_of_le (k.obd i hi) hk.size,k.oln⟩
theorem MW.low {w w':World} {O X:Nat->Prop} {m:MP} {ov:Value} {h:HartM} {ol:List (Nat × Int)} (k:MW w O X m ov h ol) (hb:Below w.heap.size w w'):MW w' O X m ov h ol:=k.keep (Kp.of_below X hb)
theorem MW.withK {w:World} {O X:Nat->Prop} {m:MP} {ov:Value} {h:HartM} {ol:List (Nat × Int)} (k:MW w O X m ov h ol) {q:KM} (hq:eR q m.gi m.gd m.gp=eR h.k m.gi m.gd m.gp):MW w O X m ov (withK h q) ol:=by
 refine ⟨?_,k.mem,k.old,k.ob,k.om,k.oo,k.bm,k.xb,k.xm,k.xo,k.byt,k.len,k.regs,k.oll,k.sh,k.obd,k.oln⟩;have e:cy (Go.Proofs.YtgnnmgfgfihljaaGreat.withK h q) m.gm ov m.gi m.gd m.gp m.pv=cy h m.gm ov m.gi m.gd m.gp m.pv:=by
  simp only [eR,Array.mk.injEq,List.cons.injEq,Value.int.injEq,Value.slice.injEq,true_and,and_true] at hq;simp only [cy,Go.Proofs.YtgnnmgfgfihljaaGreat.withK,hq]
 rw [e];exact k.blk
theorem MW.cells {w:World} {O X:Nat->Prop} {m:MP} {ov:Value} {h:HartM} {ol:List (Nat × Int)} (k:MW w O X m ov h ol):CellsM w m.b (eR h.k m.gi m.gd m.gp):=by
 refine ⟨_,k.blk,?_⟩;intro i v hv;rcases (show i=0∨i=1∨i=2∨i=3∨i=4∨i=5∨i=6∨i=7∨i=8∨9<=i by omega) with rfl | rfl | rfl | rfl | rfl | rfl | rfl | rfl | rfl | hi;all_goals first
  | exact hv
  | (rw [Array.getElem?_eq_none (by simp [eR];omega)] at hv;cases hv)
theorem bq {w:World} {b i:Nat} {A:Array Value} {T:TypeId} {v:Value} (h:w.heap[b]?=some (.cells A T (0,0))):(w.setCell ⟨b,i,none⟩ v).heap[b]?=some (.cells (A.setIfInBounds i v) T (0,0)):=by
 simp [World.setCell,Array.getElem?_modify,h]
theorem MW.put {w w':World} {O X:Nat->Prop} {m:MP} {ov:Value} {h h':HartM} {ol:List (Nat × Int)} (k:MW w O X m ov h ol) (hg:w.grownBy w' (some m.b)) (hb:w'.heap[m.b]?=some (.cells (cy h' m.gm ov m.gi m.gd m.gp m.pv) 106 (0,0))) (hm:h'.mem=h.mem) (hr:h'.regs.length=8):MW w' O X m ov h' ol:=by
 refine ⟨hb,?_,?_,k.ob,k.om,k.oo,k.bm,k.xb,k.xm,fun i hi=>⟨(k.xo i hi).1,Nat.lt_of_lt_of_le (k.xo i hi).2 hg.size⟩,by rw [hm];exact k.byt,by rw [hm];exact k.len,hr,k.oll,k.sh,fun i hi=>Nat.lt_of_lt_of_le (k.obd i hi) hg.size,by rw [hm];exact k.oln⟩
 ·rw [hm];exact Blk.gb k.mem hg (Ne.symm k.bm)
 ·have hk:Kp (fun i=>i=m.b) w w':=Kp.of_gb hg rfl;exact hk.own k.old fun g e=>(k.oo g e).2.1
theorem sL (lv tg asd va:Int) (gl:Bool) (w:World) (hl:lv=0∨lv=1∨lv=2) (hv0:0<=va) (hv1:va<=18446744073709551615):
 Calls Tryz.prog 140 #[.agg #[.int .i64 lv,.int .u64 tg,.int .u64 asd,.bool gl],.int .u64 va] w fun e w'=>e=.returned (.bool (tg == eF va lv))∧Below w.heap.size w w':=by
 have n1:=(Below.refl w.heap.size w).alloc nle (Obj.cells #[.int .i64 lv,.int .u64 tg,.int .u64 asd,.bool gl] 222);obtain ⟨tm,htm⟩:∃tm,eF va lv=tm:=⟨_,rfl⟩;have HT:Hid (∀w,Calls Tryz.prog 170 #[.int .u64 va,.int .i64 lv] w fun e w'=>e=.returned (.int .u64 tm)∧∃n,w'=w.drewN n):=fun w=>by
  have:=wE va lv w hv0 hv1 hl;rw [htm] at this;exact this
 rw [htm];clear htm;go_enter Tryz.func140,Tryz.ntmps140;go_wp2_with fail;go_quiet ((go_at_call 170;exact Calls.quiet_of (HT.out _)));go_wp2_with fail;go_ret;exact ⟨rfl,below_drewN n1 nq⟩
theorem Ar (lv tg asd va asid:Int) (gl:Bool) (w:World) (hl:lv=0∨lv=1∨lv=2) (hv0:0<=va) (hv1:va<=18446744073709551615):
 Calls Tryz.prog 201 #[.agg #[.int .i64 lv,.int .u64 tg,.int .u64 asd,.bool gl],.int .u64 va,.int .u64 asid] w fun e w'=>e=.returned (.bool ((tg == eF va lv) && (gl || asd == asid)))∧Below w.heap.size w w':=by
 have n1:=(Below.refl w.heap.size w).alloc nle (Obj.cells #[.int .i64 lv,.int .u64 tg,.int .u64 asd,.bool gl] 222);have H1:Hid ((w.alloc (Obj.cells #[.int .i64 lv,.int .u64 tg,.int .u64 asd,.bool gl] 222)).heap[w.heap.size]?=some (.cells #[.int .i64 lv,.int .u64 tg,.int .u64 asd,.bool gl] 222 (0,0))):=heap_alloc_new w _;obtain ⟨sb,hsb⟩:∃sb,(tg == eF va lv)=sb:=⟨_,rfl⟩;have HS:Hid (∀w,Calls Tryz.prog 140 #[.agg #[.int .i64 lv,.int .u64 tg,.int .u64 asd,.bool gl],.int .u64 va] w fun e w'=>e=.returned (.bool sb)∧Below w.heap.size w w'):=fun w=>by
  have:=sL lv tg asd va gl w hl hv0 hv1;rw [hsb] at this;exact this
 rw [hsb];clear hsb;cases sb <;> cases gl;all_goals
  go_enter Tryz.func201,Tryz.ntmps201;go_wp2_with fail;generalize hv1:w.alloc _=v1 at n1 H1 |-;refine (HS.out v1).mono ?_;rintro e v2 ⟨rfl,n2⟩;have K1:=ae H1.out n2 (hpl H1.out);obtain ⟨⟨x0,x1,x2,x3⟩,_,_,_,_⟩:=av K1;have A2:=bst n1 n2;go_wp2_with fail;go_ret;exact ⟨aB (by simp),A2⟩
def zo (f:FenceM) (lv tg asd:Int) (gl:Bool):Bool:=(!f.hasVa || tg == eF f.va lv) && (!f.hasAsid || (!gl && asd == f.asid))
theorem uj (f:FenceM) (lv tg asd:Int) (gl:Bool) (h:f.hasVa=false∨cP f.va=true):zo f lv tg asd gl=gu f lv tg asd gl:=by
 unfold zo gu;rcases h with h | h
 ·rw [h];simp
 ·rw [h];cases f.hasVa <;> simp [bne]
theorem wn (lv tg asd:Int) (gl:Bool) (w:World):
 Calls Tryz.prog 138 #[.agg #[.int .i64 lv,.int .u64 tg,.int .u64 asd,.bool gl]] w fun e w'=>e=.returned (.bool false)∧Below w.heap.size w w':=by
 have n1:=(Below.refl w.heap.size w).alloc nle (Obj.cells #[.int .i64 lv,.int .u64 tg,.int .u64 asd,.bool gl] 222);go_enter Tryz.func138,Tryz.ntmps138;go_wp2_with fail;go_ret;exact ⟨rfl,by first | exact n1 | exact Below.refl _ _⟩
theorem wo (hv:Bool) (fva:Int) (ha:Bool) (fa:Int) (lv tg asd:Int) (gl:Bool) (pf pv:Nat) (w:World) (hl:lv=0∨lv=1∨lv=2) (hv0:0<=fva) (hv1:fva<=18446744073709551615)
 (hF:w.heap[pf]?=some (.cells #[.bool hv,.int .u64 fva,.bool ha,.int .u64 fa] 64 (0,0))) (hV:w.heap[pv]?=some (.cells #[.int .u64 fva] 240 (0,0))):
 Calls Tryz.prog 139 #[.agg #[.int .i64 lv,.int .u64 tg,.int .u64 asd,.bool gl],.pointer (some ⟨pf,0,none⟩),.pointer (some ⟨pv,0,none⟩)] w fun e w'=>e=.returned (.bool (zo ⟨hv,fva,ha,fa⟩ lv tg asd gl))∧Below w.heap.size w w':=by
 have n1:=(Below.refl w.heap.size w).alloc nle (Obj.cells #[.int .i64 lv,.int .u64 tg,.int .u64 asd,.bool gl] 222);have H1:Hid ((w.alloc (Obj.cells #[.int .i64 lv,.int .u64 tg,.int .u64 asd,.bool gl] 222)).heap[w.heap.size]?=some (.cells #[.int .i64 lv,.int .u64 tg,.int .u64 asd,.bool gl] 222 (0,0))):=heap_alloc_new w _;have lf:pf<w.heap.size:=(hpl hF);have lv':pv<w.heap.size:=(hpl hV);have F1:Hid ((w.alloc (Obj.cells #[.int .i64 lv,.int .u64 tg,.int .u64 asd,.bool gl] 222)).heap[pf]?=some (.cells #[.bool hv,.int .u64 fva,.bool ha,.int .u64 fa] 64 (0,0))):=ae hF n1 lf;have V1:Hid ((w.alloc (Obj.cells #[.int .i64 lv,.int .u64 tg,.int .u64 asd,.bool gl] 222)).heap[pv]?=some (.cells #[.int .u64 fva] 240 (0,0))):=ae hV n1 lv';obtain ⟨sb,hsb⟩:∃sb,(tg == eF fva lv)=sb:=⟨_,rfl⟩;have HSp:Hid (∀w,Calls Tryz.prog 140 #[.agg #[.int .i64 lv,.int .u64 tg,.int .u64 asd,.bool gl],.int .u64 fva] w fun e w'=>e=.returned (.bool sb)∧Below w.heap.size w w'):=fun w=>by
  have:=sL lv tg asd fva gl w hl hv0 hv1;rw [hsb] at this;exact this
 have hcov:zo ⟨hv,fva,ha,fa⟩ lv tg asd gl=((!hv || sb) && (!ha || (!gl && asd == fa))):=by unfold zo;rw [hsb]
 rw [hcov];obtain ⟨⟨f0,f1,f2,f3⟩,_,_,_,_⟩:=av hF;have vc:w.cell? ⟨pv,0,none⟩=some (.int .u64 fva):=by simp [World.cell?,hV]
 clear hsb hcov hF hV;cases hv
 ·cases ha
  ·go_enter Tryz.func139,Tryz.ntmps139;go_wp2_with fail;go_ret;exact ⟨aB (by simp),n1⟩
  ·cases gl;all_goals
    go_enter Tryz.func139,Tryz.ntmps139;go_wp2_with fail;go_ret;exact ⟨aB (by simp),n1⟩
 ·cases ha
  ·cases sb;all_goals
    go_enter Tryz.func139,Tryz.ntmps139;go_wp2_with fail;generalize w.alloc (Obj.cells #[.int .i64 lv,.int .u64 tg,.int .u64 asd,.bool gl] 222)=v1 at n1 H1 F1 V1 |-;refine (HSp.out v1).mono ?_;rintro e v2 ⟨rfl,n2⟩;have A2:=bst n1 n2;have F2:=ab F1 n2;have R2:=ab H1 n2;clear f0 f1 f2 f3 vc;obtain ⟨⟨f0,f1,f2,f3⟩,_,_,_,_⟩:=av F2.out;obtain ⟨⟨r0,r1,r2,r3⟩,_,_,_,_⟩:=av R2.out;go_wp2_with fail;go_ret;exact ⟨aB (by simp),A2⟩
  ·cases sb <;> cases gl;all_goals
    go_enter Tryz.func139,Tryz.ntmps139;go_wp2_with fail;generalize hv1:w.alloc _=v1 at n1 H1 F1 V1 |-;refine (HSp.out v1).mono ?_;rintro e v2 ⟨rfl,n2⟩;have A2:=bst n1 n2;have F2:=ab F1 n2;have R2:=ab H1 n2;clear f0 f1 f2 f3 vc;obtain ⟨⟨f0,f1,f2,f3⟩,_,_,_,_⟩:=av F2.out;obtain ⟨⟨r0,r1,r2,r3⟩,_,_,_,_⟩:=av R2.out;go_wp2_with fail;go_ret;exact ⟨aB (by simp),A2⟩
def Br (base:Nat) (w:World) (e:Ending) (f:FenceM):Prop:=
 (f.hasVa=true∧cP f.va=false∧e=.returned (.func (.func 138) #[] #[]))∨
 ((f.hasVa=false∨cP f.va=true)∧∃pf pv,e=.returned (.func (.func 139) #[] #[.pointer (some ⟨pf,0,none⟩),.pointer (some ⟨pv,0,none⟩)])∧base<=pf∧base<=pv∧
  w.heap[pf]?=some (.cells #[.bool f.hasVa,.int .u64 f.va,.bool f.hasAsid,.int .u64 f.asid] 64 (0,0))∧w.heap[pv]?=some (.cells #[.int .u64 f.va] 240 (0,0)))
theorem pT (hv:Bool) (fva:Int) (ha:Bool) (fa:Int) (w:World) (hv0:0<=fva) (hv1:fva<=18446744073709551615):
 Calls Tryz.prog 103 #[.agg #[.bool hv,.int .u64 fva,.bool ha,.int .u64 fa]] w fun e w'=>Br w.heap.size w' e ⟨hv,fva,ha,fa⟩∧Below w.heap.size w w':=by
 have n1:=((Below.refl w.heap.size w).alloc nle (Obj.cells #[.bool hv,.int .u64 fva,.bool ha,.int .u64 fa] 64)).alloc (by simp) (Obj.cells #[.int .u64 fva] 240);have H1:Hid (((w.alloc (Obj.cells #[.bool hv,.int .u64 fva,.bool ha,.int .u64 fa] 64)).alloc (Obj.cells #[.int .u64 fva] 240)).heap[w.heap.size]?=some (.cells #[.bool hv,.int .u64 fva,.bool ha,.int .u64 fa] 64 (0,0))):=by
  show _=_;rw [heap_alloc_old _ _ (by simp)];exact heap_alloc_new w _
 have H2:Hid (((w.alloc (Obj.cells #[.bool hv,.int .u64 fva,.bool ha,.int .u64 fa] 64)).alloc (Obj.cells #[.int .u64 fva] 240)).heap[w.heap.size+1]?=some (.cells #[.int .u64 fva] 240 (0,0))):=by
  have:=heap_alloc_new (w.alloc (Obj.cells #[.bool hv,.int .u64 fva,.bool ha,.int .u64 fa] 64)) (Obj.cells #[.int .u64 fva] 240);simp only [World.size_alloc] at this;exact this
 obtain ⟨cb,hcb⟩:∃cb,cP fva=cb:=⟨_,rfl⟩;have HCan:Hid (∀u:World,Calls Tryz.prog 137 #[.int .u64 fva] u fun e w'=>e=.returned (.bool cb)∧w'=u):=fun u=>by
  have:=gV fva u hv0 hv1;rw [hcb] at this;exact this
 have HCb:Hid (cP fva=cb):=hcb;clear hcb;cases hv
 ·go_enter Tryz.func103,Tryz.ntmps103;go_wp2_with fail;go_ret;exact ⟨.inr ⟨.inl rfl,_,_,rfl,nle,by omega,H1.out,H2.out⟩,n1⟩
 ·cases cb
  ·go_enter Tryz.func103,Tryz.ntmps103;go_wp2_with (go_at_call 137;refine (HCan.out _).mono ?_;rintro e w' ⟨rfl,rfl⟩);go_ret;exact ⟨.inl ⟨rfl,HCb.out,rfl⟩,n1⟩
  ·go_enter Tryz.func103,Tryz.ntmps103;go_wp2_with (go_at_call 137;refine (HCan.out _).mono ?_;rintro e w' ⟨rfl,rfl⟩);go_ret;exact ⟨.inr ⟨.inr HCb.out,_,_,rfl,nle,by omega,H1.out,H2.out⟩,n1⟩
def CovVal (B:Nat) (w:World) (cv:Value) (f:FenceM):Prop:=
 (f.hasVa=true∧cP f.va=false∧cv=.func (.func 138) #[] #[])∨
 ((f.hasVa=false∨cP f.va=true)∧∃pf pv,cv=.func (.func 139) #[] #[.pointer (some ⟨pf,0,none⟩),.pointer (some ⟨pv,0,none⟩)]∧pf<B∧pv<B∧
  w.heap[pf]?=some (.cells #[.bool f.hasVa,.int .u64 f.va,.bool f.hasAsid,.int .u64 f.asid] 64 (0,0))∧w.heap[pv]?=some (.cells #[.int .u64 f.va] 240 (0,0)))
theorem CovVal.keep {B:Nat} {w w':World} {cv:Value} {f:FenceM} (h:CovVal B w cv f) (hb:Below w.heap.size w w'):CovVal B w' cv f:=by
 rcases h with h | ⟨h1,pf,pv,rfl,lf,lp,hF,hV⟩
 ·exact .inl h
 ·exact .inr ⟨h1,pf,pv,rfl,lf,lp,ae hF hb (hpl hF),ae hV hb (hpl hV)⟩
def oO (h:HartM):Value:=.agg #[.int .i64 h.mode,.bool h.sum,.bool h.mxr,.int .u64 h.satp]
structure SameC (h h0:HartM):Prop where
 mem:h.mem=h0.mem
 mode:h.mode=h0.mode
 sum:h.sum=h0.sum
 mxr:h.mxr=h0.mxr
 satp:h.satp=h0.satp
def mQ (plain:Bool) (r:RunM) (f:FenceM):RunM:=⟨if plain=true then r.h else withK r.h (dh r.h.k f),r.cause,r.tval,r.looks,true,f⟩
def CovFree (X:Nat->Prop) (w:World) (cv:Value) (f:FenceM):Prop:=
 (f.hasVa=true∧cP f.va=false∧cv=.func (.func 138) #[] #[])∨
 ((f.hasVa=false∨cP f.va=true)∧∃pf pv,cv=.func (.func 139) #[] #[.pointer (some ⟨pf,0,none⟩),.pointer (some ⟨pv,0,none⟩)]∧¬X pf∧¬X pv∧
  w.heap[pf]?=some (.cells #[.bool f.hasVa,.int .u64 f.va,.bool f.hasAsid,.int .u64 f.asid] 64 (0,0))∧w.heap[pv]?=some (.cells #[.int .u64 f.va] 240 (0,0)))
theorem CovFree.kp {X:Nat->Prop} {w w':World} {cv:Value} {f:FenceM} (h:CovFree X w cv f) (hk:Kp X w w'):CovFree X w' cv f:=by
 rcases h with h | ⟨h1,pf,pv,rfl,lf,lp,hF,hV⟩
 ·exact .inl h
 ·exact .inr ⟨h1,pf,pv,rfl,lf,lp,hk.heap hF lf,hk.heap hV lp⟩
def Bb (m:MP) (plain:Bool) (pick:Int) (X:Nat->Prop) (PA:World->RunM->Prop) (r:RunM) (kind va:Int) (w:World) (e:Ending) (w':World):Prop:=
 ∃pa code,e=.returned (.tuple #[.int .u64 pa,bW code])∧(code=1∨code=2∨code=3)∧(be plain pick r.h kind va).1=(if code=1 then 0 else if code=2 then dL kind else bE kind,pa)∧PA w' (bw plain pick r kind va)∧Kp X w w'
structure PathOk (m:MP) (plain:Bool) (pick:Int) (h0:HartM) (X:Nat->Prop) (PI:World->Prop) (PA:World->RunM->Prop):Prop where
 frame:∀w w' r,PA w r->w.heap.size<=w'.heap.size->(∀i,X i->w'.heap[i]?=w.heap[i]?)->PA w' r
 framei:∀w w',PI w->w.heap.size<=w'.heap.size->(∀i,X i->w'.heap[i]?=w.heap[i]?)->PI w'
 congr:∀w r r',PA w r->r'.h.k=r.h.k->r'.looks=r.looks->r'.fenced=r.fenced->r'.fence=r.fence->PA w r'
 phys:∀w r sv kind va,PA w r->CellsM w m.b (eR r.h.k m.gi m.gd m.gp)->SrcAt w sv r.h.mem->SameC r.h h0->ROk r->0<=kind->kind<=2->inU va->
  ∃fn rv,(method 428 m.pd m.px "loop.example/s0051/impl.phys").run Tryz.prog w=.ok (fn,rv) w∧(∀args u,(callFunc fn args).run Tryz.prog u=.ok (.enter fn args) u)∧
   Calls Tryz.prog fn #[rv,sv,oO r.h,.int .i64 kind,.int .u64 va] w fun e w'=>Bb m plain pick X PA r kind va w e w'
 fence:∀w r cv f,PA w r->CellsM w m.b (eR r.h.k m.gi m.gd m.gp)->CovFree X w cv f->ROk r->inU f.va->inU f.asid->
  ∃fn rv,(method 428 m.pd m.px "loop.example/s0051/impl.fence").run Tryz.prog w=.ok (fn,rv) w∧(∀args u,(callFunc fn args).run Tryz.prog u=.ok (.enter fn args) u)∧
   Calls Tryz.prog fn #[rv,cv] w fun e w'=>e=.returned (.tuple #[])∧PA w' (mQ plain r f)∧Kp X w w'
 begin:∀w,PI w->CellsM w m.b (eR h0.k m.gi m.gd m.gp)->HOk h0->
  ∃fn rv,(method 428 m.pd m.px "loop.example/s0051/impl.begin").run Tryz.prog w=.ok (fn,rv) w∧(∀args u,(callFunc fn args).run Tryz.prog u=.ok (.enter fn args) u)∧
   Calls Tryz.prog fn #[rv,.int .i64 pick] w fun e w'=>e=.returned (.tuple #[])∧PA w' (cC plain pick h0)∧Kp X w w'
theorem PathOk.keep {m:MP} {plain:Bool} {pick:Int} {h0:HartM} {X:Nat->Prop} {PI:World->Prop} {PA:World->RunM->Prop} (k:PathOk m plain pick h0 X PI PA) {w w':World} {r:RunM} (h:PA w r) {O:Nat->Prop} (hx:∀i,X i->i<w.heap.size) (hk:Kp O w w') (ho:∀i,X i->¬O i):PA w' r:=
 k.frame w w' r h hk.size fun i hi=>hk.block i (hx i hi) (ho i hi)
theorem MW.box {w v u:World} {O X:Nat->Prop} {m:MP} {ov:Value} {h h':HartM} {ol ol':List (Nat × Int)} (k0:MW w O X m ov h' ol') (k:MW v O X m ov h ol) {g:Nat} (hg:v.grownBy u (some g)) (hw:w.heap.size<=g):MW u O X m ov h ol:=by
 have hk:Kp (fun i=>i=g) v u:=Kp.of_gb hg rfl;have l1:=k0.lt;have l2:=k0.mem.lt;refine ⟨hk.heap k.blk (by omega),hk.blk k.mem (by omega),hk.own k.old fun g' e=>?_,k.ob,k.om,k.oo,k.bm,k.xb,k.xm,fun i hi=>⟨(k.xo i hi).1,Nat.lt_of_lt_of_le (k.xo i hi).2 hg.size⟩,k.byt,k.len,k.regs,k.oll,k.sh,fun i hi=>Nat.lt_of_lt_of_le (k.obd i hi) hg.size,k.oln⟩;have:=(k0.old.lt g' e).2;omega
theorem Kp.box {O:Nat->Prop} {w v u:World} (h:Kp O w v) {g:Nat} (hg:v.grownBy u (some g)) (hw:w.heap.size<=g):Kp O w u:=
 h.trans' (O':=fun i=>i=g) (Kp.of_gb hg rfl) fun i hi e=>by omega
theorem PathOk.box {m:MP} {plain:Bool} {pick:Int} {h0:HartM} {X:Nat->Prop} {PI:World->Prop} {PA:World->RunM->Prop} (k:PathOk m plain pick h0 X PI PA) {v u:World} {r:RunM} (h:PA v r) {g:Nat} (hx:∀i,X i->i<v.heap.size) (hg:v.grownBy u (some g)) (hn:¬X g):PA u r:=
 k.keep h hx (O:=fun i=>i=g) (Kp.of_gb hg rfl) fun i hi e=>hn (e ▸ hi)
theorem yS (b:Nat) (w:World):(method 428 176 (.pointer (some ⟨b,18,none⟩)) "loop.example/s0051/impl.entryAt").run Tryz.prog w=(do let v <-loadVar 91 ⟨b,18,none⟩;pure (240,v):Sem (FuncId × Value)).run Tryz.prog w:=by kernel_rfl
theorem Ag {w:World} {O X:Nat->Prop} {m:MP} {ov:Value} {h:HartM} {ol:List (Nat × Int)} (k:MW w O X m ov h ol):SrcAt w (.iface 176 (.pointer (some ⟨m.b,18,none⟩))) h.mem:=by
 refine ⟨_,_,some ⟨m.gm,0,none⟩,h.mem.length,h.mem.length,rfl,?_,Blk.byt k.mem k.byt,by have:=k.len;omega⟩;intro u hu;have hc:u.cell? ⟨m.b,18,none⟩=some (.slice (some ⟨m.gm,0,none⟩) h.mem.length h.mem.length):=aa (ae k.blk hu k.lt) 18 rfl;rw [yS];simp [go_sem,hc]
end Go.Proofs.YtgnnmgfgfihljaaGreat
