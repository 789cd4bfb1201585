import Derived.Test.YtgnnmgfgfihljaaGreatPk27
namespace Go.Proofs.YtgnnmgfgfihljaaGreat
open Go.RowKit
set_option linter.unusedVariables false
set_option maxHeartbeats 6400000
set_option maxRecDepth 20000
theorem iS {w w':World} {e:TypeId} {size base n g c:Nat} {cs:List Value} (h:w.ownsRow base e size (.slice (some ⟨g,0,none⟩) n c) n cs) (hg:w'.heap[g]?=w.heap[g]?):w'.ownsRow base e size (.slice (some ⟨g,0,none⟩) n c) n cs:=by
 obtain ⟨h1,h2⟩:=h;refine ⟨h1,?_⟩;rcases h2 with h2 | ⟨g',cap',cur,h2,hb,hh,r⟩
 ·exact .inl h2
 ·refine .inr ⟨g',cap',cur,h2,hb,?_,r⟩;have:g=g':=by
   simp only [Value.slice.injEq,Option.some.injEq,Addr.mk.injEq] at h2;exact h2.1.1
  subst this;rw [hg,hh]
def cX (m:MP) (pb:Nat) (i:Nat):Prop:=i=m.gi∨i=m.gd∨i=m.gp∨i=pb
def cA (m:MP) (pb base:Nat) (pick:Int) (k:KM) (w:World):Prop:=
 RowsAt w base m.gi m.gd m.gp k∧w.heap[pb]?=some (.cells #[.pointer (some ⟨m.b,20,none⟩),.int .i64 pick] 175 (0,0))
theorem cA.frame {m:MP} {pb base:Nat} {pick:Int} {k:KM} {w w':World} (h:cA m pb base pick k w) (hx:∀i,cX m pb i->w'.heap[i]?=w.heap[i]?):cA m pb base pick k w':=
 ⟨⟨iS h.1.1 (hx _ (.inl rfl)),iS h.1.2.1 (hx _ (.inr (.inl rfl))),iS h.1.2.2.1 (hx _ (.inr (.inr (.inl rfl)))),h.1.2.2.2⟩,(hx _ (.inr (.inr (.inr rfl)))).trans h.2⟩
structure CDist (m:MP) (pb:Nat):Prop where
 pd:m.pd=173
 px:m.px=.pointer (some ⟨pb,0,none⟩)
 bi:m.b≠m.gi
 bd:m.b≠m.gd
 bp:m.b≠m.gp
 pi:pb≠m.gi
 pdd:pb≠m.gd
 pp:pb≠m.gp
theorem uG (pb:Nat) (w:World):(method 428 173 (.pointer (some ⟨pb,0,none⟩)) "loop.example/s0051/impl.phys").run Tryz.prog w=.ok (234,.pointer (some ⟨pb,0,none⟩)) w:=by kernel_rfl
theorem tl (pb:Nat) (w:World):(method 428 173 (.pointer (some ⟨pb,0,none⟩)) "loop.example/s0051/impl.fence").run Tryz.prog w=.ok (233,.pointer (some ⟨pb,0,none⟩)) w:=by kernel_rfl
theorem tn (pb:Nat) (w:World):(method 428 173 (.pointer (some ⟨pb,0,none⟩)) "loop.example/s0051/impl.begin").run Tryz.prog w=.ok (232,.pointer (some ⟨pb,0,none⟩)) w:=by kernel_rfl
theorem wL (args:Array Value) (w:World):(callFunc 234 args).run Tryz.prog w=.ok (.enter 234 args) w:=by kernel_rfl
theorem uH (args:Array Value) (w:World):(callFunc 233 args).run Tryz.prog w=.ok (.enter 233 args) w:=by kernel_rfl
theorem uI (args:Array Value) (w:World):(callFunc 232 args).run Tryz.prog w=.ok (.enter 232 args) w:=by kernel_rfl
theorem AN (m:MP) (pb base:Nat) (pick:Int) (hd:CDist m pb) (r:RunM) (sv:Value) (kind va:Int) (w:World) (hA:cA m pb base pick r.h.k w) (hC:CellsM w m.b (eR r.h.k m.gi m.gd m.gp)) (hs:SrcAt w sv r.h.mem) (hr:ROk r) (hpk:0<=pick∧pick<=255) (hk0:0<=kind) (hk2:kind<=2) (hv:inU va):
 Calls Tryz.prog 234 #[.pointer (some ⟨pb,0,none⟩),sv,oO r.h,.int .i64 kind,.int .u64 va] w fun e w'=>∃pa code,e=.returned (.tuple #[.int .u64 pa,bW code])∧(code=1∨code=2∨code=3)∧(be false pick r.h kind va).1=(if code=1 then 0 else if code=2 then dL kind else bE kind,pa)∧cA m pb base pick (be false pick r.h kind va).2 w'∧Kp (cX m pb) w w':=by
 have F:=bL w #[.int .i64 r.h.mode,.bool r.h.sum,.bool r.h.mxr,.int .u64 r.h.satp] 205;have HA:Hid _:=hA;have HC:Hid _:=hC;have HS:Hid _:=hs;have HR:Hid _:=hr;have HD:Hid _:=hd;have hpl:=(hpl hA.2);have hbp:=hA.2;obtain ⟨hv0,hv1⟩:=hv;clear hA hC hs hr hd;unfold oO;go_enter Tryz.func234,Tryz.ntmps234;go_upto_region 1 with fail;generalize w.alloc (Obj.cells #[.int .i64 r.h.mode,.bool r.h.sum,.bool r.h.mxr,.int .u64 r.h.satp] 205)=v1 at F |-;obtain ⟨f1,f2,n1⟩:=F;have HP1:Hid (v1.heap[pb]?=some (.cells #[.pointer (some ⟨m.b,20,none⟩),.int .i64 pick] 175 (0,0))):=ae hbp n1 hpl;have HF1:Hid _:=f1;have HN1:Hid _:=n1;clear hbp f1 f2 n1;have J0:∀u:Has2 pb (.cells #[.pointer (some ⟨m.b,20,none⟩),.int .i64 pick] 175 (0,0)) w.heap.size (.cells #[.int .i64 r.h.mode,.bool r.h.sum,.bool r.h.mxr,.int .u64 r.h.satp] 205 (0,0)),u.w.cell? ⟨pb,0,none⟩=some (.pointer (some ⟨m.b,20,none⟩)):=fun u=>aa u.h 0 rfl;have J1:∀u:Has2 pb (.cells #[.pointer (some ⟨m.b,20,none⟩),.int .i64 pick] 175 (0,0)) w.heap.size (.cells #[.int .i64 r.h.mode,.bool r.h.sum,.bool r.h.mxr,.int .u64 r.h.satp] 205 (0,0)),u.w.cell? ⟨pb,1,none⟩=some (.int .i64 pick):=fun u=>aa u.h 1 rfl;have I0:∀u:Has2 pb (.cells #[.pointer (some ⟨m.b,20,none⟩),.int .i64 pick] 175 (0,0)) w.heap.size (.cells #[.int .i64 r.h.mode,.bool r.h.sum,.bool r.h.mxr,.int .u64 r.h.satp] 205 (0,0)),u.w.cell? ⟨w.heap.size,0,none⟩=some (.int .i64 r.h.mode):=fun u=>aa u.h' 0 rfl;have I1:∀u:Has2 pb (.cells #[.pointer (some ⟨m.b,20,none⟩),.int .i64 pick] 175 (0,0)) w.heap.size (.cells #[.int .i64 r.h.mode,.bool r.h.sum,.bool r.h.mxr,.int .u64 r.h.satp] 205 (0,0)),u.w.cell? ⟨w.heap.size,1,none⟩=some (.bool r.h.sum):=fun u=>aa u.h' 1 rfl;have I2:∀u:Has2 pb (.cells #[.pointer (some ⟨m.b,20,none⟩),.int .i64 pick] 175 (0,0)) w.heap.size (.cells #[.int .i64 r.h.mode,.bool r.h.sum,.bool r.h.mxr,.int .u64 r.h.satp] 205 (0,0)),u.w.cell? ⟨w.heap.size,2,none⟩=some (.bool r.h.mxr):=fun u=>aa u.h' 2 rfl;have I3:∀u:Has2 pb (.cells #[.pointer (some ⟨m.b,20,none⟩),.int .i64 pick] 175 (0,0)) w.heap.size (.cells #[.int .i64 r.h.mode,.bool r.h.sum,.bool r.h.mxr,.int .u64 r.h.satp] 205 (0,0)),u.w.cell? ⟨w.heap.size,3,none⟩=some (.int .u64 r.h.satp):=fun u=>aa u.h' 3 rfl;have ne:Nonempty (Has2 pb (.cells #[.pointer (some ⟨m.b,20,none⟩),.int .i64 pick] 175 (0,0)) w.heap.size (.cells #[.int .i64 r.h.mode,.bool r.h.sum,.bool r.h.mxr,.int .u64 r.h.satp] 205 (0,0))):=⟨⟨v1,HP1.out,HF1.out⟩⟩;refine aO (fun w'=>∃u:Has2 pb (.cells #[.pointer (some ⟨m.b,20,none⟩),.int .i64 pick] 175 (0,0)) w.heap.size (.cells #[.int .i64 r.h.mode,.bool r.h.sum,.bool r.h.mxr,.int .u64 r.h.satp] 205 (0,0)),w'=u.w) 16 (by kernel_rfl) ?_;refine cW (by kernel_rfl) (fuel:=5) ⟨⟨v1.drew,HP1.out,HF1.out⟩,rfl⟩ (cG fun _ _ _ _ e h=>⟨e ▸ h.1,h.2⟩) [0,1,2,3,4,5,6,7,8,9,10,11] _ _ (by kernel_rfl) ?_;simp only [fI,List.getElem?_toArray,List.getElem?_cons_zero,List.getElem?_cons_succ];repeat (go_big_quiet_step (fail))
 refine wpQuiet_nil ?_;have n2:Below w.heap.size w v1.drew:=bst HN1.out (Below.refl _ _).drew;have hk:=HR.out.h.ks;have hg:=HR.out.h.v;have S2:SetM v1.drew m.b base m.gi m.gd m.gp r.h.k:=⟨CellsM.keep HC.out n2,HA.out.1.keep n2,HD.out.bi,HD.out.bd,HD.out.bp⟩;refine ck 12 24 (by kernel_rfl) rfl (by kernel_rfl) (by kernel_rfl) (f:=194) (args:=#[.pointer (some ⟨m.b,20,none⟩),sv,.agg #[.int .i64 r.h.mode,.bool r.h.sum,.bool r.h.mxr,.int .u64 r.h.satp],.int .i64 kind,.int .u64 va,.int .i64 pick]) (by kernel_rfl) ?_;refine (BI m.b base m.gi m.gd m.gp r.h.k sv r.h.mem r.h.mode r.h.sum r.h.mxr r.h.satp kind va pick v1.drew S2 hg.ks hk.1.1 hk.2.1.1 hk.2.2.1 hk.1.2.2.2 hk.2.1.2.2.2 hk.2.2.2.2.2 (SrcAt.keep HS.out n2) hv0 hv1 HR.out.h.satp.1 HR.out.h.satp.2 hpk.1 hpk.2 hg.mode ⟨hk0,hk2⟩).mono ?_;rintro e v3 ⟨pa,code,rfl,hcode,hans,hset,hkp⟩;have l1:=(bC HA.out.1.1).2.2;have l2:=(bC HA.out.1.2.1).2.2;have l3:=(bC HA.out.1.2.2.1).2.2;simp only at l1 l2 l3;have HP3:Hid (v3.heap[pb]?=some (.cells #[.pointer (some ⟨m.b,20,none⟩),.int .i64 pick] 175 (0,0))):=hkp.heap HP1.out HD.out.pi HD.out.pdd HD.out.pp;have HF3:Hid (v3.heap[w.heap.size]?=some (.cells #[.int .i64 r.h.mode,.bool r.h.sum,.bool r.h.mxr,.int .u64 r.h.satp] 205 (0,0))):=hkp.heap HF1.out (by omega) (by omega) (by omega);have HFin:Hid ((code=1∨code=2∨code=3)∧(be false pick r.h kind va).1=(if code=1 then 0 else if code=2 then dL kind else bE kind,pa)∧cA m pb base pick (be false pick r.h kind va).2 v3∧Kp (cX m pb) w v3):=
  ⟨hcode,hans,⟨hset.2.1,HP3.out⟩,(Kp.of_below _ n2).trans (Kp.of_keeps hkp (.inl rfl) (.inr (.inl rfl)) (.inr (.inr (.inl rfl))))⟩
 clear hcode hans hset hkp S2 n2 hk hg l1 l2 l3;refine .inl ⟨_,rfl,fun _=>⟨⟨v3,HP3.out,HF3.out⟩,rfl⟩,?_⟩;simp only [aPt,sTa,sCs,sCz];refine cW (by kernel_rfl) (fuel:=1) ⟨⟨v3,HP3.out,HF3.out⟩,rfl⟩ (cG fun _ _ _ _ e h=>⟨e ▸ h.1,h.2⟩) [13,14,15] _ _ (by kernel_rfl) ?_;simp only [fI,List.getElem?_toArray,List.getElem?_cons_zero,List.getElem?_cons_succ];repeat (go_big_quiet_step (fail))
 refine wpQuiet_nil ?_;refine eH 16 11 (bW code) (by kernel_rfl) rfl (by kernel_rfl) (by kernel_rfl) (by kernel_rfl) (fun _=>⟨⟨v3,HP3.out,HF3.out⟩,rfl⟩) ?_;simp only [aPt,sTa,sCs,sCz];refine cf (by kernel_rfl) ?_ _;clear J0 J1 I0 I1 I2 I3 ne;go_wp2_with fail;exact bodyPost_ret (v:=.tuple #[.int .u64 pa,bW code]) (by simp [results,Tryz.results234,go_sem]) rfl ⟨pa,code,rfl,HFin.out⟩
theorem oI {f:FenceM} (h1:f.hasVa=true) (h2:cP f.va=false) (es:List EntM):es.map (bT f)=es:=by
 have:∀e,bT f e=e:=fun e=>by unfold bT gu;simp [h1,h2]
 rw [show bT f=id from funext this,List.map_id]
theorem df {w w':World} {e:TypeId} {size base n g c r:Nat} {cs:List Value} (h:w.ownsRow base e size (.slice (some ⟨g,0,none⟩) n c) n cs) (hg:w.grownBy w' (some r)) (hne:g≠r):w'.ownsRow base e size (.slice (some ⟨g,0,none⟩) n c) n cs:=
 (Kp.of_gb (O:=fun i=>i=r) hg rfl).own h fun g' e he=>hne (by
  have:g=g':=by simpa [Value.ownBlock] using e
  exact this.trans he)
def BX (z0 z1:Nat):Prop:=∀(X:Nat->Prop) (f:FenceM) (cv:Value) (b o g n base:Nat) (es:List EntM) (w:World) (hn:es.length=n) (hn1:n<=1048576) (hbl:b<w.heap.size) (hbg:b≠g) (hv:inU f.va) (hcv:CovFree X w cv f) (hX:X g)
 (c2:w.cell? ⟨b,o+2,none⟩=some (.slice (some ⟨g,0,none⟩) n n)) (ho:w.ownsRow base z1 6 (.slice (some ⟨g,0,none⟩) n n) n (aC es)) (hlv:∀(j:Nat) (x:EntM),es[j]?=some x->x.valid=true->0<=x.level∧x.level<=2),
 Calls Tryz.prog z0 #[.pointer (some ⟨b,o,none⟩),cv] w fun x w'=>x=.returned (.tuple #[])∧w'.ownsRow base z1 6 (.slice (some ⟨g,0,none⟩) n n) n (aC (es.map (bT f)))∧w.grownBy w' (some g)
theorem flC:BX 238 224∧BX 239 229:=by
 refine ⟨?_,?_⟩
 ·intro X f cv b o g n base es w hn hn1 hbl hbg hv hcv hX c2 ho hlv;rcases hcv with ⟨h1,h2,rfl⟩ | ⟨h1,pf,pv,rfl,xf,xv,hF,hV⟩
  ·rw [oI h1 h2];exact oB.1 f.hasVa f.va f.hasAsid f.asid 0 0 b o g n base es 0 0 w hn hn1 hbl hbg c2 ho hlv
  ·exact oA.1 f.hasVa f.va f.hasAsid f.asid pf pv b o g n base es 0 0 w hn hn1 hbl hbg hv.1 hv.2 h1 (fun e=>xf (e ▸ hX)) (fun e=>xv (e ▸ hX)) hF hV c2 ho hlv
 ·intro X f cv b o g n base es w hn hn1 hbl hbg hv hcv hX c2 ho hlv;rcases hcv with ⟨h1,h2,rfl⟩ | ⟨h1,pf,pv,rfl,xf,xv,hF,hV⟩
  ·rw [oI h1 h2];exact oB.2 f.hasVa f.va f.hasAsid f.asid 0 0 b o g n base es 0 0 w hn hn1 hbl hbg c2 ho hlv
  ·exact oA.2 f.hasVa f.va f.hasAsid f.asid pf pv b o g n base es 0 0 w hn hn1 hbl hbg hv.1 hv.2 h1 (fun e=>xf (e ▸ hX)) (fun e=>xv (e ▸ hX)) hF hV c2 ho hlv
theorem wM {w w1 w2 w3:World} {base gi gd gp:Nat} {k:KM} {f:FenceM} (hk:bf k=true) (h:RowsAt w base gi gd gp k)
 (h1:w1.ownsRow base 224 6 (.slice (some ⟨gi,0,none⟩) k.i.es.length k.i.es.length) k.i.es.length (aC (k.i.es.map (bT f)))) (h2:w2.ownsRow base 224 6 (.slice (some ⟨gd,0,none⟩) k.d.es.length k.d.es.length) k.d.es.length (aC (k.d.es.map (bT f)))) (h3:w3.ownsRow base 229 6 (.slice (some ⟨gp,0,none⟩) k.p.es.length k.p.es.length) k.p.es.length (aC (k.p.es.map (bT f))))
 (g2:w1.grownBy w2 (some gd)) (g3:w2.grownBy w3 (some gp)):RowsAt w3 base gi gd gp (dh k f):=by
 have hk':=hk;simp only [bf,Bool.and_eq_true] at hk';have n:=h.2.2.2;unfold dh dW;rw [if_pos (dC hk'.1.1),if_pos (dC hk'.1.2),if_pos (dC hk'.2)];refine ⟨?_,?_,?_,n⟩
 ·show w3.ownsRow base _ 6 (.slice (some ⟨gi,0,none⟩) (k.i.es.map (bT f)).length (k.i.es.map (bT f)).length) (k.i.es.map (bT f)).length _;rw [List.length_map];exact df (df h1 g2 n.1) g3 n.2.1
 ·show w3.ownsRow base _ 6 (.slice (some ⟨gd,0,none⟩) (k.d.es.map (bT f)).length (k.d.es.map (bT f)).length) (k.d.es.map (bT f)).length _;rw [List.length_map];exact df h2 g3 n.2.2
 ·show w3.ownsRow base _ 6 (.slice (some ⟨gp,0,none⟩) (k.p.es.map (bT f)).length (k.p.es.map (bT f)).length) (k.p.es.map (bT f)).length _;rw [List.length_map];exact h3
theorem AQ (X:Nat->Prop) (b base gi gd gp:Nat) (k:KM) (f:FenceM) (cv:Value) (w:World) (hS:SetM w b base gi gd gp k) (hk:bf k=true) (hl:k.i.es.length<=1048576∧k.d.es.length<=1048576∧k.p.es.length<=1048576) (hv:inU f.va) (hcv:CovFree X w cv f) (hx:X gi∧X gd∧X gp):
 Calls Tryz.prog 237 #[.pointer (some ⟨b,20,none⟩),cv] w fun e w'=>e=.returned (.tuple #[])∧RowsAt w' base gi gd gp (dh k f)∧Kp X w w':=by
 have hk':=hk;simp only [bf,Bool.and_eq_true] at hk';have HKg:Hid _:=hk;have HV:Hid (aL k.i false=true∧aL k.d false=true∧aL k.p true=true):=⟨hk'.1.1,hk'.1.2,hk'.2⟩;have HS:Hid (SetM w b base gi gd gp k):=hS;have HL:Hid _:=hl;have HU:Hid (inU f.va):=hv;have HCv:Hid (CovFree X w cv f):=hcv;have HX:Hid _:=hx;clear hk hk' hS hl hv hcv hx;go_enter Tryz.func237,Tryz.ntmps237;go_wp2_with fail;refine (flC.1 X f cv b 20 gi _ base k.i.es w rfl HL.out.1 HS.out.lt HS.out.2.2.1 HU.out HCv.out HX.out.1 HS.out.cellI.2.2 HS.out.2.1.1 (dM (dC HV.out.1))).mono ?_;rintro e w1 ⟨rfl,o1,g1⟩;have O1:Hid _:=o1;have G1:Hid _:=g1;have C1:Hid (CovFree X w1 cv f):=HCv.out.kp (Kp.of_gb g1 HX.out.1);have A1:Hid (CellsM w1 b (eR k gi gd gp)):=HS.out.1.gb g1 HS.out.2.2.1;have L1:Hid (b<w1.heap.size):=Nat.lt_of_lt_of_le HS.out.lt g1.size;clear o1 g1;go_wp2_with fail;refine (flC.1 X f cv b 23 gd _ base k.d.es w1 rfl HL.out.2.1 L1.out HS.out.2.2.2.1 HU.out C1.out HX.out.2.1 (A1.out.cell 5 _ _ rfl rfl) (df HS.out.2.1.2.1 G1.out HS.out.2.1.2.2.2.1.symm) (dM (dC HV.out.2.1))).mono ?_;rintro e w2 ⟨rfl,o2,g2⟩;have O2:Hid _:=o2;have G2:Hid _:=g2;have C2:Hid (CovFree X w2 cv f):=C1.out.kp (Kp.of_gb g2 HX.out.2.1);have A2:Hid (CellsM w2 b (eR k gi gd gp)):=A1.out.gb g2 HS.out.2.2.2.1;have L2:Hid (b<w2.heap.size):=Nat.lt_of_lt_of_le L1.out g2.size;clear o2 g2;go_wp2_with fail;refine (flC.2 X f cv b 26 gp _ base k.p.es w2 rfl HL.out.2.2 L2.out HS.out.2.2.2.2 HU.out C2.out HX.out.2.2 (A2.out.cell 8 _ _ rfl rfl) (df (df HS.out.2.1.2.2.1 G1.out HS.out.2.1.2.2.2.2.1.symm) G2.out HS.out.2.1.2.2.2.2.2.symm) (dM (dC HV.out.2.2))).mono ?_;rintro e w3 ⟨rfl,o3,g3⟩;have FIN:Hid (RowsAt w3 base gi gd gp (dh k f)∧Kp X w w3):=⟨wM HKg.out HS.out.2.1 O1.out O2.out o3 G2.out g3,((Kp.of_gb G1.out HX.out.1).trans (Kp.of_gb G2.out HX.out.2.1)).trans (Kp.of_gb g3 HX.out.2.2)⟩;clear o3 g3;go_wp2_with fail;exact ⟨rfl,.tuple #[],by kernel_rfl,rfl,FIN.out⟩
theorem zO (m:MP) (pb base:Nat) (pick:Int) (hd:CDist m pb) (r:RunM) (cv:Value) (f:FenceM) (w:World) (hA:cA m pb base pick r.h.k w) (hC:CellsM w m.b (eR r.h.k m.gi m.gd m.gp)) (hcv:CovFree (cX m pb) w cv f) (hr:ROk r) (hv:inU f.va):
 Calls Tryz.prog 233 #[.pointer (some ⟨pb,0,none⟩),cv] w fun e w'=>e=.returned (.tuple #[])∧cA m pb base pick (dh r.h.k f) w'∧Kp (cX m pb) w w':=by
 have HA:Hid (cA m pb base pick r.h.k w):=hA;have HD:Hid (CDist m pb):=hd;have hk:=hr.h.ks;have HF:Hid _:=AQ (fun i=>i=m.gi∨i=m.gd∨i=m.gp) m.b base m.gi m.gd m.gp r.h.k f cv w ⟨hC,hA.1,hd.bi,hd.bd,hd.bp⟩ hr.h.v.ks ⟨hk.1.2.2.2,hk.2.1.2.2.2,hk.2.2.2.2.2⟩ hv (by
  rcases hcv with h | ⟨h1,pf,pv,rfl,xf,xv,hF,hV⟩
  ·exact .inl h
  ·refine .inr ⟨h1,pf,pv,rfl,fun h=>xf ?_,fun h=>xv ?_,hF,hV⟩;all_goals (rcases h with h | h | h <;> simp [cX,h])) ⟨.inl rfl,.inr (.inl rfl),.inr (.inr rfl)⟩
 have c0:=aa hA.2 0 (v:=.pointer (some ⟨m.b,20,none⟩)) rfl;clear hA hC hcv hr hv hk hd;go_enter Tryz.func233,Tryz.ntmps233;go_wp2_with fail;refine Calls.mono HF.out ?_;rintro e w1 ⟨rfl,o1,k1⟩;have FIN:Hid (cA m pb base pick (dh r.h.k f) w1∧Kp (cX m pb) w w1):=⟨⟨o1,k1.heap HA.out.2 (by
  rintro (h | h | h)
  ·exact HD.out.pi h
  ·exact HD.out.pdd h
  ·exact HD.out.pp h)⟩,k1.mono (by
  rintro i (h | h | h)
  ·exact .inl h
  ·exact .inr (.inl h)
  ·exact .inr (.inr (.inl h)))⟩
 clear o1 k1 c0;go_wp2_with fail;exact ⟨rfl,.tuple #[],by kernel_rfl,rfl,FIN.out⟩
def zE (z0 z1:Nat):Prop:=∀(num:Int) (b o g n base:Nat) (es:List EntM) (w:World) (hn:es.length=n) (hn0:0<n) (hn1:n<=1048576) (h0:0<=num) (h1:num<=255) (hbl:b<w.heap.size) (hbg:b≠g)
 (c2:w.cell? ⟨b,o+2,none⟩=some (.slice (some ⟨g,0,none⟩) n n)) (ho:w.ownsRow base z1 6 (.slice (some ⟨g,0,none⟩) n n) n (aC es)),
 Calls Tryz.prog z0 #[.pointer (some ⟨b,o,none⟩),.int .i64 num] w fun x w'=>x=.returned (.tuple #[])∧w'.ownsRow base z1 6 (.slice (some ⟨g,0,none⟩) n n) n (aC (es.set (num%n).toNat cO))∧w.grownBy w' (some g)
theorem zF:zE 235 224∧zE 236 229:=by
 refine ⟨?_,?_⟩;have mL:Hid True:=trivial
 rotate_left
 have mP:Hid True:=trivial
 rotate_left
 all_goals
  intro num b o g n base es w hn hn0 hn1 h0 h1 hbl hbg c2 ho;first
   | (replace mL:=mL;have HO:Hid (w.drew.ownsRow base 224 6 (.slice (some ⟨g,0,none⟩) n n) n (aC es)):=ag ho (Below.refl _ _).drew)
   | (replace mP:=mP;have HO:Hid (w.drew.ownsRow base 229 6 (.slice (some ⟨g,0,none⟩) n n) n (aC es)):=ag ho (Below.refl _ _).drew)
  have HN:Hid (es.length=n):=hn;obtain ⟨j,hj⟩:∃j:Nat,num%n=j:=⟨(num%n).toNat,by have:=Int.emod_nonneg num (show (n:Int)≠0 by omega);omega⟩;have hjn:j<n:=by
   have:=Int.emod_lt_of_pos num (show (0:Int)<n by omega);omega
  have hrem:num.tmod n=j:=by rw [Int.tmod_eq_emod_of_nonneg h0,hj]
  have HJ:Hid ((num%n).toNat=j):=by show _=_;rw [hj];rfl
  have hfl:(aC es).length=n*6:=by rw [dR,hn]
  have q0:=aw HO.out (j*6) _ (List.getElem?_eq_getElem (by omega));have q1:=aw HO.out (j*6+1) _ (List.getElem?_eq_getElem (by omega));have q2:=aw HO.out (j*6+2) _ (List.getElem?_eq_getElem (by omega));have q3:=aw HO.out (j*6+3) _ (List.getElem?_eq_getElem (by omega));have q4:=aw HO.out (j*6+4) _ (List.getElem?_eq_getElem (by omega));have q5:=aw HO.out (j*6+5) _ (List.getElem?_eq_getElem (by omega));generalize (aC es)[j*6]'_=y0 at q0;generalize (aC es)[j*6+1]'_=y1 at q1;generalize (aC es)[j*6+2]'_=y2 at q2;generalize (aC es)[j*6+3]'_=y3 at q3;generalize (aC es)[j*6+4]'_=y4 at q4;generalize (aC es)[j*6+5]'_=y5 at q5;have s0:=aD HO.out (j*6);have s1:=aD HO.out (j*6+1);have s2:=aD HO.out (j*6+2);have s3:=aD HO.out (j*6+3);have s4:=aD HO.out (j*6+4);have s5:=aD HO.out (j*6+5);have c2':w.drew.cell? ⟨b,o+2,none⟩=some (.slice (some ⟨g,0,none⟩) n n):=c2;have hw0:¬((n:Int)=0):=by omega
  have hwn:¬(n=0):=by omega
  have hwd:IntKind.i64.wrap (j:Int)=(j:Int):=(IntKind.wrap_i64 _).trans (by omega);clear ho hn hfl hj c2;first
   | (replace mL:=mL;go_enter Tryz.func235,Tryz.ntmps235)
   | (replace mP:=mP;go_enter Tryz.func236,Tryz.ntmps236)
  refine cY 12 (by kernel_rfl) (by kernel_rfl) ?_;simp only [List.take_succ_cons,List.take_zero,List.drop_succ_cons,List.drop_zero];have D:Hid (Below w.heap.size w w.drew):=(Below.refl _ _).drew;generalize w.drew=u at D HO q0 q1 q2 q3 q4 q5 s0 s1 s2 s3 s4 s5 c2' |-;repeat still_step
  refine wpStill_nil ?_;go_wp2_with fail;refine ⟨rfl,.tuple #[],by kernel_rfl,rfl,?_,eJ (eW (au w (some g)) D.out) (ak (ak (ak (ak (ak (ak (au u _) _ _) _ _) _ _) _ _) _ _) _ _)⟩;rw [HJ.out,gh _ _ _ (by rw [HN.out];exact hjn)];exact ax (ax (ax (ax (ax (ax HO.out _ _) _ _) _ _) _ _) _ _) _ _
theorem yu {w w1 w2 w3:World} {base gi gd gp:Nat} {k:KM} {z:Int} (h:RowsAt w base gi gd gp k)
 (h1:w1.ownsRow base 224 6 (.slice (some ⟨gi,0,none⟩) k.i.es.length k.i.es.length) k.i.es.length (aC (k.i.es.set (z%k.i.es.length).toNat cO))) (h2:w2.ownsRow base 224 6 (.slice (some ⟨gd,0,none⟩) k.d.es.length k.d.es.length) k.d.es.length (aC (k.d.es.set (z%k.d.es.length).toNat cO))) (h3:w3.ownsRow base 229 6 (.slice (some ⟨gp,0,none⟩) k.p.es.length k.p.es.length) k.p.es.length (aC (k.p.es.set (z%k.p.es.length).toNat cO)))
 (g2:w1.grownBy w2 (some gd)) (g3:w2.grownBy w3 (some gp)):RowsAt w3 base gi gd gp ⟨aZ k.i z,aZ k.d z,aZ k.p z⟩:=by
 have n:=h.2.2.2;refine ⟨?_,?_,?_,n⟩
 ·simp only [aZ,List.length_set];exact df (df h1 g2 n.1) g3 n.2.1
 ·simp only [aZ,List.length_set];exact df h2 g3 n.2.2
 ·simp only [aZ,List.length_set];exact h3
theorem Bw (X:Nat->Prop) (b base gi gd gp:Nat) (k:KM) (z:Int) (w:World) (hS:SetM w b base gi gd gp k) (hl0:0<k.i.es.length∧0<k.d.es.length∧0<k.p.es.length) (hl:k.i.es.length<=1048576∧k.d.es.length<=1048576∧k.p.es.length<=1048576) (h0:0<=z) (h1:z<=255) (hx:X gi∧X gd∧X gp):
 Calls Tryz.prog 193 #[.pointer (some ⟨b,20,none⟩),.int .i64 z] w fun e w'=>e=.returned (.tuple #[])∧RowsAt w' base gi gd gp ⟨aZ k.i z,aZ k.d z,aZ k.p z⟩∧Kp X w w':=by
 have HS:Hid (SetM w b base gi gd gp k):=hS;have HL:Hid _:=hl;have H0:Hid _:=hl0;have HX:Hid _:=hx;clear hS hl hl0 hx;go_enter Tryz.func193,Tryz.ntmps193;go_wp2_with fail;refine (zF.1 z b 20 gi _ base k.i.es w rfl H0.out.1 HL.out.1 h0 h1 HS.out.lt HS.out.2.2.1 HS.out.cellI.2.2 HS.out.2.1.1).mono ?_;rintro e w1 ⟨rfl,o1,g1⟩;have O1:Hid _:=o1;have G1:Hid _:=g1;have A1:Hid (CellsM w1 b (eR k gi gd gp)):=HS.out.1.gb g1 HS.out.2.2.1;have L1:Hid (b<w1.heap.size):=Nat.lt_of_lt_of_le HS.out.lt g1.size;clear o1 g1;go_wp2_with fail;refine (zF.1 z b 23 gd _ base k.d.es w1 rfl H0.out.2.1 HL.out.2.1 h0 h1 L1.out HS.out.2.2.2.1 (A1.out.cell 5 _ _ rfl rfl) (df HS.out.2.1.2.1 G1.out HS.out.2.1.2.2.2.1.symm)).mono ?_;rintro e w2 ⟨rfl,o2,g2⟩;have O2:Hid _:=o2;have G2:Hid _:=g2;have A2:Hid (CellsM w2 b (eR k gi gd gp)):=A1.out.gb g2 HS.out.2.2.2.1;have L2:Hid (b<w2.heap.size):=Nat.lt_of_lt_of_le L1.out g2.size;clear o2 g2;go_wp2_with fail;refine (zF.2 z b 26 gp _ base k.p.es w2 rfl H0.out.2.2 HL.out.2.2 h0 h1 L2.out HS.out.2.2.2.2 (A2.out.cell 8 _ _ rfl rfl) (df (df HS.out.2.1.2.2.1 G1.out HS.out.2.1.2.2.2.2.1.symm) G2.out HS.out.2.1.2.2.2.2.2.symm)).mono ?_;rintro e w3 ⟨rfl,o3,g3⟩;have FIN:Hid (RowsAt w3 base gi gd gp ⟨aZ k.i z,aZ k.d z,aZ k.p z⟩∧Kp X w w3):=⟨yu HS.out.2.1 O1.out O2.out o3 G2.out g3,((Kp.of_gb G1.out HX.out.1).trans (Kp.of_gb G2.out HX.out.2.1)).trans (Kp.of_gb g3 HX.out.2.2)⟩;clear o3 g3;go_wp2_with fail;exact ⟨rfl,.tuple #[],by kernel_rfl,rfl,FIN.out⟩
def cI (m:MP) (pb base:Nat) (k:KM) (w:World):Prop:=∃pick,cA m pb base pick k w
theorem nH {t:TlbM} {p:Bool} (h:aL t p=true):0<t.es.length:=by
 obtain ⟨hs,h1,h4,hl⟩:=eL h;rcases hs with e | e | e | e <;> (rw [e] at hl;omega)
theorem zG (m:MP) (pb base:Nat) (pick p0:Int) (hd:CDist m pb) (h0:HartM) (w:World) (hA:cA m pb base p0 h0.k w) (hC:CellsM w m.b (eR h0.k m.gi m.gd m.gp)) (hbp:m.b≠pb) (hh:HOk h0) (hpk:0<=pick∧pick<=255):
 Calls Tryz.prog 232 #[.pointer (some ⟨pb,0,none⟩),.int .i64 pick] w fun e w'=>e=.returned (.tuple #[])∧cA m pb base pick (fE false pick h0.k) w'∧Kp (cX m pb) w w':=by
 have hk:=hh.ks;have hv:=hh.v.ks;simp only [bf,Bool.and_eq_true] at hv;have g1:=ak (au w (some pb)) 1 (.int .i64 pick);have e1:=bq (v:=.int .i64 pick) (i:=1) hA.2;have c0:=aa hA.2 0 (v:=.pointer (some ⟨m.b,20,none⟩)) rfl;have c1:=aa hA.2 1 (v:=.int .i64 p0) rfl;have f1:=aE hA.2 1;have R1:RowsAt (w.setCell ⟨pb,1,none⟩ (.int .i64 pick)) base m.gi m.gd m.gp h0.k:=⟨df hA.1.1 g1 hd.pi.symm,df hA.1.2.1 g1 hd.pdd.symm,df hA.1.2.2.1 g1 hd.pp.symm,hA.1.2.2.2⟩;have HD:Hid (CDist m pb):=hd;have HR1:Hid _:=R1;have HE1:Hid _:=e1;have HG1:Hid (Kp (cX m pb) w (w.setCell ⟨pb,1,none⟩ (.int .i64 pick))):=Kp.of_gb g1 (.inr (.inr (.inr rfl)));have HDr:Hid (128<=pick->Calls Tryz.prog 193 #[.pointer (some ⟨m.b,20,none⟩),.int .i64 (pick-128)] (w.setCell ⟨pb,1,none⟩ (.int .i64 pick)) fun e w'=>e=.returned (.tuple #[])∧RowsAt w' base m.gi m.gd m.gp ⟨aZ h0.k.i (pick-128),aZ h0.k.d (pick-128),aZ h0.k.p (pick-128)⟩∧Kp (fun i=>i=m.gi∨i=m.gd∨i=m.gp) (w.setCell ⟨pb,1,none⟩ (.int .i64 pick)) w'):=fun h=>
  Bw (fun i=>i=m.gi∨i=m.gd∨i=m.gp) m.b base m.gi m.gd m.gp h0.k (pick-128) _ ⟨hC.gb g1 hbp,R1,hd.bi,hd.bd,hd.bp⟩ ⟨nH hv.1.1,nH hv.1.2,nH hv.2⟩ ⟨hk.1.2.2.2,hk.2.1.2.2.2,hk.2.2.2.2.2⟩ (by omega) (by omega) ⟨.inl rfl,.inr (.inl rfl),.inr (.inr rfl)⟩
 obtain ⟨hp0,hp1⟩:=hpk;clear hA hC hh hk hv hd g1 e1 R1;go_enter Tryz.func232,Tryz.ntmps232;by_cases hp:128<=pick
 ·have d0:(w.setCell ⟨pb,1,none⟩ (.int .i64 pick)).cell? ⟨pb,0,none⟩=some (.pointer (some ⟨m.b,20,none⟩)):=aa HE1.out 0 rfl;go_wp2_with fail;generalize w.setCell ⟨pb,1,none⟩ (.int .i64 pick)=v1 at HR1 HE1 HG1 HDr d0 |-;refine Calls.mono (HDr.out hp) ?_;rintro e w1 ⟨rfl,o1,k1⟩;have FIN:Hid (cA m pb base pick (fE false pick h0.k) w1∧Kp (cX m pb) w w1):=⟨⟨by unfold fE;rw [if_pos ⟨hp,rfl⟩];exact o1,k1.heap HE1.out (by
   rintro (h | h | h)
   ·exact HD.out.pi h
   ·exact HD.out.pdd h
   ·exact HD.out.pp h)⟩,HG1.out.trans (k1.mono (by
   rintro i (h | h | h)
   ·exact .inl h
   ·exact .inr (.inl h)
   ·exact .inr (.inr (.inl h))))⟩
  clear o1 k1 c0 c1 f1 d0;go_wp2_with fail;exact ⟨rfl,.tuple #[],by kernel_rfl,rfl,FIN.out⟩
 ·have FIN:Hid (cA m pb base pick (fE false pick h0.k) (w.setCell ⟨pb,1,none⟩ (.int .i64 pick))∧Kp (cX m pb) w (w.setCell ⟨pb,1,none⟩ (.int .i64 pick))):=⟨⟨by unfold fE;rw [if_neg (fun h=>hp h.1)];exact HR1.out,HE1.out⟩,HG1.out⟩;go_wp2_with fail;exact ⟨rfl,.tuple #[],by kernel_rfl,rfl,FIN.out⟩
theorem uD (m:MP) (pb base:Nat) (hd:CDist m pb) (hbp:m.b≠pb) (pick:Int) (hpk:0<=pick∧pick<=255) (h0:HartM):PathOk m false pick h0 (cX m pb) (cI m pb base h0.k) (fun w r=>cA m pb base pick r.h.k w):=by
 refine ⟨fun w w' r h _ hx=>h.frame hx,fun w w' ⟨p,h⟩ _ hx=>⟨p,h.frame hx⟩,fun w r r' h e _ _ _=>by rw [e];exact h,?_,?_,?_⟩
 ·intro w r sv kind va hA hC hs hc hr hk0 hk2 hv;rw [hd.pd,hd.px];refine ⟨_,_,uG pb w,fun args u=>wL args u,?_⟩;exact (AN m pb base pick hd r sv kind va w hA hC hs hr hpk hk0 hk2 hv).mono fun e w' h=>h
 ·intro w r cv f hA hC hcv hr hv ha;rw [hd.pd,hd.px];refine ⟨_,_,tl pb w,fun args u=>uH args u,?_⟩;exact (zO m pb base pick hd r cv f w hA hC hcv hr hv).mono fun e w' h=>h
 ·intro w hI hC hh;obtain ⟨p0,hA⟩:=hI;rw [hd.pd,hd.px];refine ⟨_,_,tn pb w,fun args u=>uI args u,?_⟩;exact (zG m pb base pick p0 hd h0 w hA hC hbp hh hpk).mono fun e w' h=>h
end Go.Proofs.YtgnnmgfgfihljaaGreat
