import Derived.Test.YtpdddbobhndbjaaGreatPk19
import Derived.Test.YtpdddbobhndbjaaGreatPk13
namespace Go.Proofs.YtpdddbobhndbjaaGreat
open Go.RowKit
set_option linter.unusedVariables false
set_option maxHeartbeats 6400000
set_option maxRecDepth 20000
def Ao (f:FenceM) (lv tg asd:Int) (gl:Bool):Bool:=(!f.hasVa || tg == fJ f.va lv) && (!f.hasAsid || (!gl && asd == f.asid))
theorem vf (f:FenceM) (lv tg asd:Int) (gl:Bool) (h:f.hasVa=false∨du f.va=true):Ao f lv tg asd gl=il f lv tg asd gl:=by
 unfold Ao il;rcases h with h | h
 ·rw [h];simp
 ·rw [h];cases f.hasVa <;> simp [bne]
theorem xB (lv tg asd:Int) (gl:Bool) (w:World):
 Calls Tryz.prog 105 #[.agg #[.int .i64 lv,.int .u64 tg,.int .u64 asd,.bool gl]] w fun e w'=>e=.returned (.bool false)∧Bw w w':=by
 have n1:=(Below.refl w.heap.size w).alloc nle (Obj.cells #[.int .i64 lv,.int .u64 tg,.int .u64 asd,.bool gl] 188);go_enter Tryz.func105,Tryz.ntmps105;go_wp2_with fail;go_ret;exact ⟨rfl,by first | exact n1 | exact Below.refl _ _⟩
theorem xC (hv:Bool) (fva:Int) (ha:Bool) (fa:Int) (lv tg asd:Int) (gl:Bool) (pf pv:Nat) (w:World) (hl:lv=0∨lv=1∨lv=2) (hv0:0<=fva) (hv1:fva<=18446744073709551615)
 (hF:w.heap[pf]?=some (.cells #[.bool hv,.int .u64 fva,.bool ha,.int .u64 fa] 49 (0,0))) (hV:w.heap[pv]?=some (.cells #[.int .u64 fva] 205 (0,0))):
 Calls Tryz.prog 106 #[.agg #[.int .i64 lv,.int .u64 tg,.int .u64 asd,.bool gl],.pointer (some ⟨pf,0,none⟩),.pointer (some ⟨pv,0,none⟩)] w fun e w'=>e=.returned (.bool (Ao ⟨hv,fva,ha,fa⟩ lv tg asd gl))∧Bw w w':=by
 have n1:=(Below.refl w.heap.size w).alloc nle (Obj.cells #[.int .i64 lv,.int .u64 tg,.int .u64 asd,.bool gl] 188);have H1:Hid ((w.alloc (Obj.cells #[.int .i64 lv,.int .u64 tg,.int .u64 asd,.bool gl] 188)).heap[w.heap.size]?=some (.cells #[.int .i64 lv,.int .u64 tg,.int .u64 asd,.bool gl] 188 (0,0))):=heap_alloc_new w _;have lf:=(hpl hF);have lv':=(hpl hV);have F1:=hid (ae hF n1 lf);have V1:=hid (ae hV n1 lv');obtain ⟨sb,hsb⟩:∃sb,(tg == fJ fva lv)=sb:=⟨_,rfl⟩;have HSp:Hid (∀w,Calls Tryz.prog 107 #[.agg #[.int .i64 lv,.int .u64 tg,.int .u64 asd,.bool gl],.int .u64 fva] w fun e w'=>e=.returned (.bool sb)∧Bw w w'):=fun w=>by
  have:=ua lv tg asd fva gl w hl hv0 hv1;rw [hsb] at this;exact this
 have hcov:Ao ⟨hv,fva,ha,fa⟩ lv tg asd gl=((!hv || sb) && (!ha || (!gl && asd == fa))):=by unfold Ao;rw [hsb]
 rw [hcov];obtain ⟨⟨f0,f1,f2,f3⟩,_,_,_,_⟩:=az hF;have vc:w.cell? ⟨pv,0,none⟩=some (.int .u64 fva):=by simp [World.cell?,hV]
 clear hsb hcov hF hV;cases hv
 ·cases ha
  ·go_enter Tryz.func106,Tryz.ntmps106;go_wp2_with fail;go_ret;exact ⟨aE (by simp),n1⟩
  ·cases gl;all_goals
    go_enter Tryz.func106,Tryz.ntmps106;go_wp2_with fail;go_ret;exact ⟨aE (by simp),n1⟩
 ·cases ha
  ·cases sb;all_goals
    go_enter Tryz.func106,Tryz.ntmps106;go_wp2_with fail;generalize w.alloc (Obj.cells #[.int .i64 lv,.int .u64 tg,.int .u64 asd,.bool gl] 188)=v1 at n1 H1 F1 V1 |-;refine (HSp.out v1).mono ?_;rintro e v2 ⟨rfl,n2⟩;have A2:=bst n1 n2;have F2:=ah F1 n2;have R2:=ah H1 n2;clear f0 f1 f2 f3 vc;obtain ⟨⟨f0,f1,f2,f3⟩,_,_,_,_⟩:=az F2.out;obtain ⟨⟨r0,r1,r2,r3⟩,_,_,_,_⟩:=az R2.out;go_wp2_with fail;go_ret;exact ⟨aE (by simp),A2⟩
  ·cases sb <;> cases gl;all_goals
    go_enter Tryz.func106,Tryz.ntmps106;go_wp2_with fail;generalize hv1:w.alloc _=v1 at n1 H1 F1 V1 |-;refine (HSp.out v1).mono ?_;rintro e v2 ⟨rfl,n2⟩;have A2:=bst n1 n2;have F2:=ah F1 n2;have R2:=ah H1 n2;clear f0 f1 f2 f3 vc;obtain ⟨⟨f0,f1,f2,f3⟩,_,_,_,_⟩:=az F2.out;obtain ⟨⟨r0,r1,r2,r3⟩,_,_,_,_⟩:=az R2.out;go_wp2_with fail;go_ret;exact ⟨aE (by simp),A2⟩
def Dc (base:Nat) (w:World) (e:Ending) (f:FenceM):Prop:=
 (f.hasVa=true∧du f.va=false∧e=.returned (.func (.func 105) #[] #[]))∨
 ((f.hasVa=false∨du f.va=true)∧∃pf pv,e=.returned (.func (.func 106) #[] #[.pointer (some ⟨pf,0,none⟩),.pointer (some ⟨pv,0,none⟩)])∧base<=pf∧base<=pv∧
  w.heap[pf]?=some (.cells #[.bool f.hasVa,.int .u64 f.va,.bool f.hasAsid,.int .u64 f.asid] 49 (0,0))∧w.heap[pv]?=some (.cells #[.int .u64 f.va] 205 (0,0)))
theorem rj (hv:Bool) (fva:Int) (ha:Bool) (fa:Int) (w:World) (hv0:0<=fva) (hv1:fva<=18446744073709551615):
 Calls Tryz.prog 80 #[.agg #[.bool hv,.int .u64 fva,.bool ha,.int .u64 fa]] w fun e w'=>Dc w.heap.size w' e ⟨hv,fva,ha,fa⟩∧Bw w w':=by
 have n1:=((Below.refl w.heap.size w).alloc nle (Obj.cells #[.bool hv,.int .u64 fva,.bool ha,.int .u64 fa] 49)).alloc (by simp) (Obj.cells #[.int .u64 fva] 205);have H1:Hid (((w.alloc (Obj.cells #[.bool hv,.int .u64 fva,.bool ha,.int .u64 fa] 49)).alloc (Obj.cells #[.int .u64 fva] 205)).heap[w.heap.size]?=some (.cells #[.bool hv,.int .u64 fva,.bool ha,.int .u64 fa] 49 (0,0))):=by
  show _=_;rw [heap_alloc_old _ _ (by simp)];exact heap_alloc_new w _
 have H2:Hid (((w.alloc (Obj.cells #[.bool hv,.int .u64 fva,.bool ha,.int .u64 fa] 49)).alloc (Obj.cells #[.int .u64 fva] 205)).heap[w.heap.size+1]?=some (.cells #[.int .u64 fva] 205 (0,0))):=by
  have:=heap_alloc_new (w.alloc (Obj.cells #[.bool hv,.int .u64 fva,.bool ha,.int .u64 fa] 49)) (Obj.cells #[.int .u64 fva] 205);simp only [World.size_alloc] at this;exact this
 obtain ⟨cb,hcb⟩:∃cb,du fva=cb:=⟨_,rfl⟩;have HCan:Hid (∀u:World,Calls Tryz.prog 104 #[.int .u64 fva] u fun e w'=>e=.returned (.bool cb)∧w'=u):=fun u=>by
  have:=iK fva u hv0 hv1;rw [hcb] at this;exact this
 have HCb:=hid hcb;clear hcb;cases hv
 ·go_enter Tryz.func80,Tryz.ntmps80;go_wp2_with fail;go_ret;exact ⟨.inr ⟨.inl rfl,_,_,rfl,nle,by omega,H1.out,H2.out⟩,n1⟩
 ·cases cb
  ·go_enter Tryz.func80,Tryz.ntmps80;go_wp2_with (go_at_call 104;refine (HCan.out _).mono ?_;rintro e w' ⟨rfl,rfl⟩);go_ret;exact ⟨.inl ⟨rfl,HCb.out,rfl⟩,n1⟩
  ·go_enter Tryz.func80,Tryz.ntmps80;go_wp2_with (go_at_call 104;refine (HCan.out _).mono ?_;rintro e w' ⟨rfl,rfl⟩);go_ret;exact ⟨.inr ⟨.inr HCb.out,_,_,rfl,nle,by omega,H1.out,H2.out⟩,n1⟩
def CovVal (B:Nat) (w:World) (cv:Value) (f:FenceM):Prop:=
 (f.hasVa=true∧du f.va=false∧cv=.func (.func 105) #[] #[])∨
 ((f.hasVa=false∨du f.va=true)∧∃pf pv,cv=.func (.func 106) #[] #[.pointer (some ⟨pf,0,none⟩),.pointer (some ⟨pv,0,none⟩)]∧pf<B∧pv<B∧
  w.heap[pf]?=some (.cells #[.bool f.hasVa,.int .u64 f.va,.bool f.hasAsid,.int .u64 f.asid] 49 (0,0))∧w.heap[pv]?=some (.cells #[.int .u64 f.va] 205 (0,0)))
theorem CovVal.keep {B:Nat} {w w':World} {cv:Value} {f:FenceM} (h:CovVal B w cv f) (hb:Bw w w'):CovVal B w' cv f:=by
 rcases h with h | ⟨h1,pf,pv,rfl,lf,lp,hF,hV⟩
 ·exact .inl h
 ·exact .inr ⟨h1,pf,pv,rfl,lf,lp,ae hF hb (hpl hF),ae hV hb (hpl hV)⟩
def ql (h:HartM):Value:=.agg #[.int .i64 h.mode,.bool h.sum,.bool h.mxr,.int .u64 h.satp]
structure SameC (h h0:HartM):Prop where
 mem:h.mem=h0.mem
 mode:h.mode=h0.mode
 sum:h.sum=h0.sum
 mxr:h.mxr=h0.mxr
 satp:h.satp=h0.satp
def oK (plain:Bool) (r:RunM) (f:FenceM):RunM:=⟨if plain=true then r.h else withK r.h (dA r.h.k f),r.cause,r.tval,r.looks,true,f⟩
def CovFree (X:Nat->Prop) (w:World) (cv:Value) (f:FenceM):Prop:=
 (f.hasVa=true∧du f.va=false∧cv=.func (.func 105) #[] #[])∨
 ((f.hasVa=false∨du f.va=true)∧∃pf pv,cv=.func (.func 106) #[] #[.pointer (some ⟨pf,0,none⟩),.pointer (some ⟨pv,0,none⟩)]∧¬X pf∧¬X pv∧
  w.heap[pf]?=some (.cells #[.bool f.hasVa,.int .u64 f.va,.bool f.hasAsid,.int .u64 f.asid] 49 (0,0))∧w.heap[pv]?=some (.cells #[.int .u64 f.va] 205 (0,0)))
theorem CovFree.kp {X:Nat->Prop} {w w':World} {cv:Value} {f:FenceM} (h:CovFree X w cv f) (hk:Kp X w w'):CovFree X w' cv f:=by
 rcases h with h | ⟨h1,pf,pv,rfl,lf,lp,hF,hV⟩
 ·exact .inl h
 ·exact .inr ⟨h1,pf,pv,rfl,lf,lp,hk.heap hF lf,hk.heap hV lp⟩
def CF (m:MP) (plain:Bool) (pick:Int) (X:Nat->Prop) (PA:World->RunM->Prop) (r:RunM) (kind va:Int) (w:World) (e:Ending) (w':World):Prop:=
 ∃pa code,e=.returned (.tuple #[.int .u64 pa,cF code])∧(code=1∨code=2∨code=3)∧(br plain pick r.h kind va).1=(if code=1 then 0 else if code=2 then eA kind else bL kind,pa)∧PA w' (bX plain pick r kind va)∧Kp X w w'
structure PathOk (m:MP) (plain:Bool) (pick:Int) (h0:HartM) (X:Nat->Prop) (PI:World->Prop) (PA:World->RunM->Prop):Prop where
 frame:∀w w' r,PA w r->w.heap.size<=w'.heap.size->(∀i,X i->w'.heap[i]?=w.heap[i]?)->PA w' r
 framei:∀w w',PI w->w.heap.size<=w'.heap.size->(∀i,X i->w'.heap[i]?=w.heap[i]?)->PI w'
 congr:∀w r r',PA w r->r'.h.k=r.h.k->r'.looks=r.looks->r'.fenced=r.fenced->r'.fence=r.fence->PA w r'
 phys:∀w r sv kind va,PA w r->CellsM w m.b (gP r.h.k m.gi m.gd m.gp)->SrcAt w sv r.h.mem->SameC r.h h0->ROk r->0<=kind->kind<=2->inU va->
  ∃fn rv,(method 395 m.pd m.px "loop.example/s0051/impl.phys").run Tryz.prog w=.ok (fn,rv) w∧(∀args u,(callFunc fn args).run Tryz.prog u=.ok (.enter fn args) u)∧
   Calls Tryz.prog fn #[rv,sv,ql r.h,.int .i64 kind,.int .u64 va] w fun e w'=>CF m plain pick X PA r kind va w e w'
 fence:∀w r cv f,PA w r->CellsM w m.b (gP r.h.k m.gi m.gd m.gp)->CovFree X w cv f->ROk r->inU f.va->inU f.asid->
  ∃fn rv,(method 395 m.pd m.px "loop.example/s0051/impl.fence").run Tryz.prog w=.ok (fn,rv) w∧(∀args u,(callFunc fn args).run Tryz.prog u=.ok (.enter fn args) u)∧
   Calls Tryz.prog fn #[rv,cv] w fun e w'=>e=.returned (.tuple #[])∧PA w' (oK plain r f)∧Kp X w w'
 begin:∀w,PI w->CellsM w m.b (gP h0.k m.gi m.gd m.gp)->HOk h0->
  ∃fn rv,(method 395 m.pd m.px "loop.example/s0051/impl.begin").run Tryz.prog w=.ok (fn,rv) w∧(∀args u,(callFunc fn args).run Tryz.prog u=.ok (.enter fn args) u)∧
   Calls Tryz.prog fn #[rv,.int .i64 pick] w fun e w'=>e=.returned (.tuple #[])∧PA w' (cL plain pick h0)∧Kp X w w'
theorem PathOk.keep {m:MP} {plain:Bool} {pick:Int} {h0:HartM} {X:Nat->Prop} {PI:World->Prop} {PA:World->RunM->Prop} (k:PathOk m plain pick h0 X PI PA) {w w':World} {r:RunM} (h:PA w r) {O:Nat->Prop} (hx:∀i,X i->i<w.heap.size) (hk:Kp O w w') (ho:∀i,X i->¬O i):PA w' r:=
 k.frame w w' r h hk.size fun i hi=>hk.block i (hx i hi) (ho i hi)
theorem MW.box {w v u:World} {O X:Nat->Prop} {m:MP} {ov:Value} {h h':HartM} {ol ol':List (Nat × Int)} (k0:MW w O X m ov h' ol') (k:MW v O X m ov h ol) {g:Nat} (hg:v.grownBy u (some g)) (hw:w.heap.size<=g):MW u O X m ov h ol:=by
 have hk:=Kp.of_gb hg rfl;have l1:=k0.lt;have l2:=k0.mem.lt;refine ⟨hk.heap k.blk (by omega),hk.blk k.mem (by omega),hk.own k.old fun g' e=>?_,k.ob,k.om,k.oo,k.bm,k.xb,k.xm,fun i hi=>⟨(k.xo i hi).1,Nat.lt_of_lt_of_le (k.xo i hi).2 hg.size⟩,k.byt,k.len,k.regs,k.oll,k.sh,fun i hi=>Nat.lt_of_lt_of_le (k.obd i hi) hg.size,k.oln⟩;have:=(k0.old.lt g' e).2;omega
theorem Kp.box {O:Nat->Prop} {w v u:World} (h:Kp O w v) {g:Nat} (hg:v.grownBy u (some g)) (hw:w.heap.size<=g):Kp O w u:=
 h.trans' (O':=fun i=>i=g) (Kp.of_gb hg rfl) fun i hi e=>by omega
theorem PathOk.box {m:MP} {plain:Bool} {pick:Int} {h0:HartM} {X:Nat->Prop} {PI:World->Prop} {PA:World->RunM->Prop} (k:PathOk m plain pick h0 X PI PA) {v u:World} {r:RunM} (h:PA v r) {g:Nat} (hx:∀i,X i->i<v.heap.size) (hg:v.grownBy u (some g)) (hn:¬X g):PA u r:=
 k.keep h hx (O:=fun i=>i=g) (Kp.of_gb hg rfl) fun i hi e=>hn (e ▸ hi)
theorem zW (b:Nat) (w:World):(method 395 151 (.pointer (some ⟨b,18,none⟩)) "loop.example/s0051/impl.entryAt").run Tryz.prog w=(do let v <-loadVar 62 ⟨b,18,none⟩;pure (206,v):Sem (FuncId × Value)).run Tryz.prog w:=by kernel_rfl
theorem Bk {w:World} {O X:Nat->Prop} {m:MP} {ov:Value} {h:HartM} {ol:List (Nat × Int)} (k:MW w O X m ov h ol):SrcAt w (.iface 151 (.pointer (some ⟨m.b,18,none⟩))) h.mem:=by
 refine ⟨_,_,some ⟨m.gm,0,none⟩,h.mem.length,h.mem.length,rfl,?_,Blk.byt k.mem k.byt,by have:=k.len;omega⟩;intro u hu;have hc:u.cell? ⟨m.b,18,none⟩=some (.slice (some ⟨m.gm,0,none⟩) h.mem.length h.mem.length):=ab (ae k.blk hu k.lt) 18 rfl;rw [zW];simp [go_sem,hc]
def ShK (k k':KM):Prop:=(k'.i.es.length=k.i.es.length∧k'.i.sets=k.i.sets∧k'.i.ways=k.i.ways)∧(k'.d.es.length=k.d.es.length∧k'.d.sets=k.d.sets∧k'.d.ways=k.d.ways)∧(k'.p.es.length=k.p.es.length∧k'.p.sets=k.p.sets∧k'.p.ways=k.p.ways)
theorem ShK.refl (k:KM):ShK k k:=⟨⟨rfl,rfl,rfl⟩,⟨rfl,rfl,rfl⟩,⟨rfl,rfl,rfl⟩⟩
theorem ShK.set {k k':KM} (h:ShK k k') (gi gd gp:Nat):gP k' gi gd gp=gP k gi gd gp:=by
 obtain ⟨⟨h1,h2,h3⟩,⟨h4,h5,h6⟩,h7,h8,h9⟩:=h;simp only [gP,h1,h2,h3,h4,h5,h6,h7,h8,h9]
theorem rl (zs:List Int) (mode:Int) (sum mxr:Bool) (satp:Int) (k:KM) (kind va pick:Int) (hg:bW k=true) (hk:0<=kind∧kind<=2) (hm:0<=mode∧mode<=2) (hp:0<=pick∧pick<=255):ShK k (cD zs mode sum mxr satp k kind va pick).2:=by
 unfold cD;rw [if_neg (by rw [hg];simp;omega)];split
 ·exact ShK.refl k
 ·split
  ·exact ShK.refl k
  ·split
   ·exact ShK.refl k
   ·simp only;have hp':=kN va satp pick (bj zs satp va (ba k.p va (aM satp))).2.2.2 k.p;split
    ·unfold sX eQ;by_cases h0:kind=0
     ·simp only [if_pos h0];exact ⟨eX _ _ _,⟨rfl,rfl,rfl⟩,hp'⟩
     ·simp only [if_neg h0];exact ⟨⟨rfl,rfl,rfl⟩,eX _ _ _,hp'⟩
    ·exact ⟨⟨rfl,rfl,rfl⟩,⟨rfl,rfl,rfl⟩,hp'⟩
theorem vi {h:HartM} (hh:HOk h) (plain:Bool) {pick kind va:Int} (hp:0<=pick∧pick<=255) (hk:0<=kind∧kind<=2):ShK h.k (br plain pick h kind va).2:=by
 cases plain
 ·exact rl _ _ _ _ _ _ _ _ _ hh.v.ks hk hh.v.mode hp
 ·exact ShK.refl _
theorem vj (k:KM) (f:FenceM):ShK k (dA k f):=by
 have h:∀t:TlbM,(eI t f).es.length=t.es.length∧(eI t f).sets=t.sets∧(eI t f).ways=t.ways:=fun t=>by
  unfold eI;split
  ·simp
  ·exact ⟨rfl,rfl,rfl⟩
 exact ⟨h k.i,h k.d,h k.p⟩
theorem vk (plain:Bool) (pick:Int) (k:KM):ShK k (fW plain pick k):=by
 unfold fW;split
 ·exact ⟨by simp [bf],by simp [bf],by simp [bf]⟩
 ·exact ShK.refl k
theorem zf (kind:Int):eA kind≠0:=by unfold eA;split;omega;split <;> omega
theorem eT (kind:Int):bL kind≠0:=by unfold bL;split;omega;split <;> omega
section
variable {P:Program} {ops:Array Oper} {md:Region.Mode} {C:World->Prop}
def HeadQ (P:Program) (md:Region.Mode) (ops:Array Oper) (C:World->Prop) (n:Nat) (L:Array Bool->Act->Prop):Nat->Array Bool->Act->Prop
 | 0,s,a=>L s a
 | f+1,s,a=>Region.ready md ops s≠[]∧∀i∈Region.ready md ops s,i<n∧qOp P ops C i (HeadQ P md ops C n L f (s.setIfInBounds i true)) a
theorem HeadQ.any {n g:Nat} {L:Array Bool->Act->Prop} {Q:Exit->Act->World->Prop} (hL:∀s a w,C w->L s a->wpAny P md ops Q g s a w):
 ∀(f:Nat) (s:Array Bool) (a:Act) (w:World),C w->HeadQ P md ops C n L f s a->wpAny P md ops Q (f+g) s a w
 | 0,s,a,w,hw,h=>by
  rw [Nat.zero_add];exact hL s a w hw h
 | f+1,s,a,w,hw,h=>by
  have e:f+1+g=(f+g)+1:=by omega
  rw [e];refine ⟨fun h0=>(h.1 h0).elim,fun i hi=>?_⟩;exact wpOp_of_qOp hw (fun a' w' hw' h'=>HeadQ.any hL f _ a' w' hw' h') (h.2 i hi).2
theorem HeadQ.first {n i:Nat} {o:Oper} {v:Value} {L:Array Bool->Act->Prop} (ho:ops[i]?=some o) (ns:Region.noSelect ops=true) (hs:Region.sinkB md ops n=true) (hc:Region.chainB md ops n=true) (hn:n<ops.size) (hin:i<n)
 (hd:∀s a,L s a->∀j∈Region.ready md ops s,n<=j) (f:Nat):∀(s:Array Bool) (a:Act),HeadInv md ops n s->
  (∀j oj,ops[j]?=some oj->j≠i->s.getD j true=false->(∀e∈oj.after,Region.binds md e=true->e.on≠i)->o.apart ops oj=true)->
  i∈Region.ready md ops s->YieldsIn P ops C o v a->HeadQ P md ops C n L f (s.setIfInBounds i true) (a.put o.dst v)->HeadQ P md ops C n L (f+1) s a:=by
 have sel:=Region.noSelect_spec ns
 induction f with
 | zero=>
  intro s a inv _ hr hy H;refine ⟨fun h=>(by rw [h] at hr;cases hr),fun j hj=>?_⟩;have hjn:=Nat.lt_of_not_le fun h=>tail_waits hs hc hn inv _ i rfl hin (mem_ready.1 hr).1 j h hj;refine ⟨hjn,?_⟩;by_cases hji:j=i
  ·subst hji;exact YieldsIn.qOp ho hy H
  ·exact absurd (hd _ _ H j (ready_mono hj hji)) (by omega)
 | succ f ih=>
  intro s a inv hfree hr hy H;refine ⟨fun h=>(by rw [h] at hr;cases hr),fun j hj=>?_⟩;have hun:=(mem_ready.1 hr).1;have hjn:=Nat.lt_of_not_le fun h=>tail_waits hs hc hn inv _ i rfl hin hun j h hj;refine ⟨hjn,?_⟩;by_cases hji:j=i
  ·subst hji;exact YieldsIn.qOp ho hy H
  obtain ⟨hjun,oj,hoj,hall⟩:=mem_ready.1 hj;have hno:∀e∈oj.after,Region.binds md e=true->e.on≠i:=fun e he hb heq=>by
   have:=hall e he hb;rw [heq,getD_both hun] at this;cases this
  refine qOp_mono (fun a' h3=>?_) (qOp_put hoj (hfree j oj hoj hji hjun hno) (fun cs b=>sel i o cs b ho) (fun cs b=>sel j oj cs b hoj) hy (H.2 j (ready_mono hj hji)).2);refine ih (s.setIfInBounds j true) a' (inv.set hj hjn) (fun k ok hk hki hku hkn=>?_) (ready_mono hr (Ne.symm hji)) h3.1 ?_
  ·refine hfree k ok hk hki ?_ hkn;by_cases hjk:j=k
   ·rw [<-hjk];exact hjun
   ·rwa [getD_set_ne true hjk] at hku
  ·rw [Array.setIfInBounds_comm _ _ hji];exact h3.2
theorem HeadQ.lex {n g:Nat} {L:Act->Prop} (ns:Region.noSelect ops=true) (hs:Region.sinkB md ops n=true) (hc:Region.chainB md ops n=true) (hn:n<ops.size):
 ∀(l:List Oper) (k:Nat) (s:Array Bool) (a:Act),(∀j,j<l.length->l[j]?=ops[k+j]?)->k+l.length=n->HeadInv md ops n s->Region.lexHead md ops g l.length k s=true->wpQuiet P ops C L l a->
  HeadQ P md ops C n (fun s' a'=>Region.seqB md ops g n s'=true∧L a') l.length s a
 | [],k,s,a,_,hk,_,hB,h=>by
  obtain rfl:k=n:=by simpa using hk
  exact ⟨by simpa [Region.lexHead] using hB,h⟩
 | o::l,k,s,a,hl,hk,inv,hB,h=>by
  rw [List.length_cons] at hk;have h0:ops[k]?=some o:=by simpa using (hl 0 (by simp)).symm
  simp only [List.length_cons,Region.lexHead,Bool.and_eq_true] at hB;have hr:k∈Region.ready md ops s:=by simpa using hB.1.1
  have hq:qOp P ops C k (wpQuiet P ops C L l) a:=by
   unfold qOp;simp only [h0];exact h
  obtain ⟨v,hy,hK⟩:=yieldsIn_of_qOp h0 hq;refine HeadQ.first h0 ns hs hc hn (by omega) (fun s' a' hL=>seqB_ready hL.1) l.length s a inv (Region.free_spec h0 hB.1.2) hr hy ?_;refine HeadQ.lex ns hs hc hn l (k+1) _ _ (fun j hj=>?_) (by omega) (inv.set hr (by omega)) hB.2 hK;have:=hl (j+1) (by simp;omega);simpa [Nat.add_assoc,Nat.add_comm 1 j] using this
theorem qw {id:Nat} {Q:Exit->Act->World->Prop} {a:Act} {w:World} {l:List Oper} (n:Nat) (hm:P.follows .mixedOrders=true) (hB:Region.lexTailB .any l.toArray n=true) (hC:C w.drew)
 (h:wpQuiet P l.toArray C (fun a'=>∀w',C w'->wpList P l.toArray Q (l.drop n) a' w') (l.take n) a):(Code.region id l.toArray true).wp P Q a w:=by
 simp only [Region.lexTailB,Bool.and_eq_true,decide_eq_true_eq] at hB;obtain ⟨⟨⟨⟨ns,hn⟩,hs⟩,hc⟩,hx⟩:=hB;have hn':n<l.length:=by simpa using hn
 have e1:(l.take n).length=n:=by simp;omega
 have e2:(l.drop n).length=l.toArray.size-n:=by simp
 have i0:HeadInv .any l.toArray n (Array.replicate l.toArray.size false):=
  ⟨by simp,fun j oj _ hl=>(by rw [getD_replicate_false] at hl;cases hl),fun t _ ht=>getD_in (by simpa using ht) (getD_replicate_false _ _)⟩
 have hl:=HeadQ.lex (P:=P) (C:=C) (g:=l.toArray.size-n) ns hs hc hn (l.take n) 0 (Array.replicate l.toArray.size false) a (fun j hj=>by
  rw [e1] at hj;simp [hj]) (by rw [e1];omega) i0 (by rw [e1];exact hx) h
 rw [e1] at hl;refine wp_region_any hm ?_;have:=HeadQ.any (Q:=Q) (g:=l.toArray.size-n) (C:=C) (fun s a' w' hw' hL=>by
  have q:=wpAny_of_seq (P:=P) (Q':=Q) (l.drop n) n s a' w' (fun j=>by simp [List.getElem?_drop]) (by rw [e2];exact hL.1) (hL.2 w' hw');rw [e2] at q;exact q) n _ a w.drew hC hl
 rw [show n+(l.toArray.size-n)=l.toArray.size by simp;omega] at this;exact this
end
theorem kD {P:Program} {id:Nat} {Q:Exit->Act->World->Prop} {a:Act} {w:World} {l:List Oper} (n:Nat) (hm:P.follows .mixedOrders=true) (hB:Region.lexTailB .any l.toArray n=true)
 (h:wpQuiet P l.toArray (fun w'=>∃u:Lies w,w'=u.w) (fun a'=>∀w',(∃u:Lies w,w'=u.w)->wpList P l.toArray Q (l.drop n) a' w') (l.take n) a):(Code.region id l.toArray true).wp P Q a w:=
 qw n hm hB ⟨⟨w.drew,(Below.refl _ _).drew⟩,rfl⟩ h
def uz (o:Oper):Bool:=
 match o.op with
 | .move _ | .assign _ | .load _ _ | .fieldAddr _ _ _ | .field _ _ _ | .binOp _ _ _ _ _ | .unOp _ _ _ | .convert _ _ _ | .extract _ _ | .makeInterface _ _ | .build _ _ | .indexAddr _ _ _ | .nilCheck _ | .slice _ _ _ _ _ | .sliceToArrayPointer _ _=>true
 | _=>false
theorem zF {P:Program} {s:Sem Value} {w w':World} {n:Next} (h:(do pure (.value (<-s)):Sem Next).run P w=.ok n w'):∃v,n=.value v:=by
 simp only [Sem.run_bind,Sem.run_pure] at h;generalize s.run P w=r at h;cases r with
 | ok x w1=>
  simp only [Result.andThen_ok,Result.ok.injEq] at h;exact ⟨x,h.1.symm⟩
 | halt x w1=>simp [Result.andThen] at h
theorem rS {P:Program} {ρ:Operand->Value} {o:Oper} {w w':World} {n:Next} (hp:uz o=true) (h:(execOp ρ o).run P w=.ok n w'):∃v,n=.value v:=by
 unfold uz at hp;unfold execOp at h;obtain ⟨dst,op,ty,pos,af,gd⟩:=o;cases op;all_goals first
  | (cases hp;done)
  | exact zF h
  | (simp only [Sem.run_pure,Result.ok.injEq] at h;exact ⟨_,h.1.symm⟩)
  | skip
 rename_i x;simp only at h;split at h;all_goals first
  | (simp only [Sem.run_pure,Result.ok.injEq] at h;exact ⟨_,h.1.symm⟩)
  | (exfalso;revert h;simp [runtimePanic,go_sem];done)
  | skip
 split at h;all_goals first
  | (simp only [Sem.run_pure,Result.ok.injEq] at h;exact ⟨_,h.1.symm⟩)
  | (exfalso;revert h;simp [runtimePanic,go_sem];done)
  | skip
 simp only [Sem.run_bind] at h;generalize Sem.run P program w=r1 at h;cases r1 with
 | halt y w1=>simp [Result.andThen] at h
 | ok p w1=>
  simp only [Result.andThen_ok] at h;generalize Sem.run P (nilAhead _ _ _ _) w1=r2 at h;cases r2 with
  | halt y w2=>simp [Result.andThen] at h
  | ok q w2=>
   simp only [Result.andThen_ok] at h;split at h
   ·simp only [Sem.run_bind] at h;generalize Sem.run P (unsupported _) w2=r3 at h;cases r3 with
    | halt y w3=>simp [Result.andThen] at h
    | ok q w3=>
     simp only [Result.andThen_ok,Sem.run_pure,Result.ok.injEq] at h;exact ⟨_,h.1.symm⟩
   ·simp only [Sem.run_pure,Result.ok.injEq] at h;exact ⟨_,h.1.symm⟩
structure Has (b:Nat) (o:Obj) where
 w:World
 h:w.heap[b]?=some o
structure Has2 (b:Nat) (o:Obj) (b':Nat) (o':Obj) where
 w:World
 h:w.heap[b]?=some o
 h':w.heap[b']?=some o'
structure HasC (l:List (Addr × Value)) where
 w:World
 h:∀q∈l,w.cell? q.1=some q.2
theorem cR {Q:Exit->Act->World->Prop} (h:∀x a a' w,a'.defers=a.defers->Q (.panic x) a' w->Q (.panic x) a w) (x:List PanicEntry) (a:Act) (d:Option Tmp) (v:Value) (w:World) (hq:Q (.panic x) (a.put d v) w):Q (.panic x) a w:=
 h x a _ w (by cases d <;> rfl) hq
section
variable {P:Program} {ops:Array Oper} {Q:Exit->Act->World->Prop} {F:World->Prop} {c:Nat}
def AQ (ops:Array Oper) (c:Nat):List Nat->Array Bool->Bool
 | [],_=>true
 | i::is,s=>lW ops s && Region.free .any ops s i && (Region.ready .any ops s).contains i && (i != c) && li ops ops.size c i && (match ops[i]? with | some o=>uz o | none=>false) && AQ ops c is (s.setIfInBounds i true)
def vZ:List Nat->Array Bool->Array Bool
 | [],s=>s
 | i::is,s=>vZ is (s.setIfInBounds i true)
def gt (ops:Array Oper):List Nat->List Oper
 | []=>[]
 | i::is=>match ops[i]? with
  | some o=>o::gt ops is
  | none=>gt ops is
theorem df (ns:Region.noSelect ops=true) {fuel:Nat} {w:World} (hF:F w) (hQ:∀x a (d:Option Tmp) v w,Q (.panic x) (a.put d v) w->Q (.panic x) a w):∀(is:List Nat) (s:Array Bool) (a:Act),AQ ops c is s=true->
 wpQuiet P ops F (fun a'=>cB P ops Q F c fuel (vZ is s) a' w) (gt ops is) a->cB P ops Q F c (fuel+is.length) s a w
 | [],s,a,_,h=>h
 | i::is,s,a,hB,h=>by
  simp only [AQ,Bool.and_eq_true] at hB;obtain ⟨⟨⟨⟨⟨⟨h1,h2⟩,h3⟩,h4⟩,h5⟩,h6⟩,h7⟩:=hB;cases ho:ops[i]? with
  | none=>rw [ho] at h6;cases h6
  | some o=>
   rw [ho] at h6;simp only [gt,ho,wpQuiet] at h;have key:∀v,YieldsIf P ops (fun w=>∃l,Closed ops l∧l.getD i true=false∧(l.getD c false=false->F w)) o v a->wpQuiet P ops F (fun a'=>cB P ops Q F c fuel (vZ is (s.setIfInBounds i true)) a' w) (gt ops is) (a.put o.dst v)->cB P ops Q F c (fuel+(i::is).length) s a w:=fun v hy hn=>
    kf ho (by simpa using h4) (Region.noSelect_spec ns) (fun x a w=>hQ x a _ _ w) (fuel+is.length) s a w (iN h1) (Region.free_spec ho h2) (by simpa using h3) hy (fun _=>hF) (df ns hF hQ is _ _ h7 hn)
   split at h
   ·rename_i hw;obtain ⟨v,hv,hn⟩:=h;refine key v (.inl ⟨hw,fun u ⟨l,l1,l2,l3⟩=>?_⟩) hn;have hFu:F u:=l3 (by
     cases hh:l.getD c false
     ·rfl
     ·have:=jl l1 _ _ h5 hh;rw [mh l2] at this;cases this)
    have hq:=hv u hFu;unfold Oper.quietAt at hq;generalize hr:(execOp a.eval o).run P u=r at hq;cases r with
    | halt x w1=>exact hq.elim
    | ok n w1=>
     obtain ⟨x,rfl⟩:=rS h6 hr;obtain ⟨rfl,rfl⟩:=hq;rfl
   ·rename_i hw;exact key undef (.inr ⟨by simpa using hw,rfl⟩) h
theorem cO {fuel:Nat} {listed:Array Bool} {a:Act} {w:World} (i:Nat) {o:Oper} (d:Tmp) (hd:o.dst=some d) (hi:ops[i]?=some o) (hg:o.guard=none) (hr:Region.ready .any ops listed=[i]) {f:FuncId} {args:Array Value} (he:(execOp a.eval o).run P w=.ok (.enter f args) w)
 (h:Calls P f args w fun e w'=>(∃x,e=.returned x∧((listed.setIfInBounds i true).getD c false=false->F w')∧cB P ops Q F c fuel (listed.setIfInBounds i true) (a.put (some d) x) w')∨(∃ch,e=.panicked ch∧Q (.panic ch) a w')):cB P ops Q F c (fuel+1) listed a w:=by
 refine jN i hr ?_;unfold wpOp;simp only [hi];rw [if_pos (by simp [Region.wanted,hg])];refine .inl ?_;unfold Oper.wp;rw [he];refine h.mono ?_;rintro e w' (⟨x,rfl,hS,h2⟩ | ⟨ch,rfl,h2⟩)
 ·refine ⟨hS,?_⟩;rw [hd];exact h2
 ·exact h2
end
end Go.Proofs.YtpdddbobhndbjaaGreat
