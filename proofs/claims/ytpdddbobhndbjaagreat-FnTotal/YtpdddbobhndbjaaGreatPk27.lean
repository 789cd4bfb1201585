import Derived.Test.YtpdddbobhndbjaaGreatPk26
namespace Go.Proofs.YtpdddbobhndbjaaGreat
open Go.RowKit
set_option linter.unusedVariables false
set_option maxHeartbeats 6400000
set_option maxRecDepth 20000
theorem jK {w w':World} {e:TypeId} {size base n g c:Nat} {cs:List Value} (h:w.ownsRow base e size (.slice (some ⟨g,0,none⟩) n c) n cs) (hg:w'.heap[g]?=w.heap[g]?):w'.ownsRow base e size (.slice (some ⟨g,0,none⟩) n c) n cs:=by
 obtain ⟨h1,h2⟩:=h;refine ⟨h1,?_⟩;rcases h2 with h2 | ⟨g',cap',cur,h2,hb,hh,r⟩
 ·exact .inl h2
 ·refine .inr ⟨g',cap',cur,h2,hb,?_,r⟩;have:g=g':=by
   simp only [Value.slice.injEq,Option.some.injEq,Addr.mk.injEq] at h2;exact h2.1.1
  subst this;rw [hg,hh]
def cX (m:MP) (pb:Nat) (i:Nat):Prop:=i=m.gi∨i=m.gd∨i=m.gp∨i=pb
def cA (m:MP) (pb base:Nat) (pick:Int) (k:KM) (w:World):Prop:=
 RowsAt w base m.gi m.gd m.gp k∧w.heap[pb]?=some (.cells #[.pointer (some ⟨m.b,20,none⟩),.int .i64 pick] 150 (0,0))
theorem cA.frame {m:MP} {pb base:Nat} {pick:Int} {k:KM} {w w':World} (h:cA m pb base pick k w) (hx:∀i,cX m pb i->w'.heap[i]?=w.heap[i]?):cA m pb base pick k w':=
 ⟨⟨jK h.1.1 (hx _ (.inl rfl)),jK h.1.2.1 (hx _ (.inr (.inl rfl))),jK h.1.2.2.1 (hx _ (.inr (.inr (.inl rfl)))),h.1.2.2.2⟩,(hx _ (.inr (.inr (.inr rfl)))).trans h.2⟩
structure CDist (m:MP) (pb:Nat):Prop where
 pd:m.pd=148
 px:m.px=.pointer (some ⟨pb,0,none⟩)
 bi:m.b≠m.gi
 bd:m.b≠m.gd
 bp:m.b≠m.gp
 pi:pb≠m.gi
 pdd:pb≠m.gd
 pp:pb≠m.gp
theorem vQ (pb:Nat) (w:World):(method 395 148 (.pointer (some ⟨pb,0,none⟩)) "loop.example/s0051/impl.phys").run Tryz.prog w=.ok (200,.pointer (some ⟨pb,0,none⟩)) w:=by kernel_rfl
theorem ur (pb:Nat) (w:World):(method 395 148 (.pointer (some ⟨pb,0,none⟩)) "loop.example/s0051/impl.fence").run Tryz.prog w=.ok (199,.pointer (some ⟨pb,0,none⟩)) w:=by kernel_rfl
theorem us (pb:Nat) (w:World):(method 395 148 (.pointer (some ⟨pb,0,none⟩)) "loop.example/s0051/impl.begin").run Tryz.prog w=.ok (198,.pointer (some ⟨pb,0,none⟩)) w:=by kernel_rfl
theorem xP (args:Array Value) (w:World):(callFunc 200 args).run Tryz.prog w=.ok (.enter 200 args) w:=by kernel_rfl
theorem vR (args:Array Value) (w:World):(callFunc 199 args).run Tryz.prog w=.ok (.enter 199 args) w:=by kernel_rfl
theorem vS (args:Array Value) (w:World):(callFunc 198 args).run Tryz.prog w=.ok (.enter 198 args) w:=by kernel_rfl
theorem Cn (m:MP) (pb base:Nat) (pick:Int) (hd:CDist m pb) (r:RunM) (sv:Value) (kind va:Int) (w:World) (hA:cA m pb base pick r.h.k w) (hC:CellsM w m.b (gP r.h.k m.gi m.gd m.gp)) (hs:SrcAt w sv r.h.mem) (hr:ROk r) (hpk:0<=pick∧pick<=255) (hk0:0<=kind) (hk2:kind<=2) (hv:inU va):
 Calls Tryz.prog 200 #[.pointer (some ⟨pb,0,none⟩),sv,ql r.h,.int .i64 kind,.int .u64 va] w fun e w'=>∃pa code,e=.returned (.tuple #[.int .u64 pa,cF code])∧(code=1∨code=2∨code=3)∧(br false pick r.h kind va).1=(if code=1 then 0 else if code=2 then eA kind else bL kind,pa)∧cA m pb base pick (br false pick r.h kind va).2 w'∧Kp (cX m pb) w w':=by
 obtain ⟨v1,Ev1,F⟩:=ax1 w #[.int .i64 r.h.mode,.bool r.h.sum,.bool r.h.mxr,.int .u64 r.h.satp] 172;have HA:Hid _:=hA;have HC:Hid _:=hC;have HS:Hid _:=hs;have HR:Hid _:=hr;have HD:Hid _:=hd;have hpl:=(hpl hA.2);have hbp:=hA.2;obtain ⟨hv0,hv1⟩:=hv;clear hA hC hs hr hd;unfold ql;go_enter Tryz.func200,Tryz.ntmps200;go_upto_region 1 with fail;rw [Ev1.out];clear Ev1;obtain ⟨f1,f2,n1⟩:=F;have HP1:=hid (ae hbp n1 hpl);have HF1:Hid _:=f1;have HN1:Hid _:=n1;clear hbp f1 f2 n1;have J0:=fun (u:Has2 pb (.cells #[.pointer (some ⟨m.b,20,none⟩),.int .i64 pick] 150 (0,0)) w.heap.size (.cells #[.int .i64 r.h.mode,.bool r.h.sum,.bool r.h.mxr,.int .u64 r.h.satp] 172 (0,0)))=>ab u.h 0 rfl;have J1:=fun (u:Has2 pb (.cells #[.pointer (some ⟨m.b,20,none⟩),.int .i64 pick] 150 (0,0)) w.heap.size (.cells #[.int .i64 r.h.mode,.bool r.h.sum,.bool r.h.mxr,.int .u64 r.h.satp] 172 (0,0)))=>ab u.h 1 rfl;have I0:=fun (u:Has2 pb (.cells #[.pointer (some ⟨m.b,20,none⟩),.int .i64 pick] 150 (0,0)) w.heap.size (.cells #[.int .i64 r.h.mode,.bool r.h.sum,.bool r.h.mxr,.int .u64 r.h.satp] 172 (0,0)))=>ab u.h' 0 rfl;have I1:=fun (u:Has2 pb (.cells #[.pointer (some ⟨m.b,20,none⟩),.int .i64 pick] 150 (0,0)) w.heap.size (.cells #[.int .i64 r.h.mode,.bool r.h.sum,.bool r.h.mxr,.int .u64 r.h.satp] 172 (0,0)))=>ab u.h' 1 rfl;have I2:=fun (u:Has2 pb (.cells #[.pointer (some ⟨m.b,20,none⟩),.int .i64 pick] 150 (0,0)) w.heap.size (.cells #[.int .i64 r.h.mode,.bool r.h.sum,.bool r.h.mxr,.int .u64 r.h.satp] 172 (0,0)))=>ab u.h' 2 rfl;have I3:=fun (u:Has2 pb (.cells #[.pointer (some ⟨m.b,20,none⟩),.int .i64 pick] 150 (0,0)) w.heap.size (.cells #[.int .i64 r.h.mode,.bool r.h.sum,.bool r.h.mxr,.int .u64 r.h.satp] 172 (0,0)))=>ab u.h' 3 rfl;have ne:Nonempty (Has2 pb (.cells #[.pointer (some ⟨m.b,20,none⟩),.int .i64 pick] 150 (0,0)) w.heap.size (.cells #[.int .i64 r.h.mode,.bool r.h.sum,.bool r.h.mxr,.int .u64 r.h.satp] 172 (0,0))):=⟨⟨v1,HP1.out,HF1.out⟩⟩;refine aN (fun w'=>∃u:Has2 pb (.cells #[.pointer (some ⟨m.b,20,none⟩),.int .i64 pick] 150 (0,0)) w.heap.size (.cells #[.int .i64 r.h.mode,.bool r.h.sum,.bool r.h.mxr,.int .u64 r.h.satp] 172 (0,0)),w'=u.w) 16 (by kernel_rfl) ?_;refine df (by kernel_rfl) (fuel:=5) ⟨⟨v1.drew,HP1.out,HF1.out⟩,rfl⟩ (cR fun _ _ _ _ e h=>⟨e ▸ h.1,h.2⟩) [0,1,2,3,4,5,6,7,8,9,10,11] _ _ (by kernel_rfl) ?_;simp only [gt,List.getElem?_toArray,List.getElem?_cons_zero,List.getElem?_cons_succ];repeat (go_big_quiet_step (fail))
 refine wpQuiet_nil ?_;have n2:Bw w v1.drew:=bst HN1.out (Below.refl _ _).drew;have hk:=HR.out.h.ks;have hg:=HR.out.h.v;have S2:SetM v1.drew m.b base m.gi m.gd m.gp r.h.k:=⟨CellsM.keep HC.out n2,HA.out.1.keep n2,HD.out.bi,HD.out.bd,HD.out.bp⟩;refine cO 12 24 (by kernel_rfl) rfl (by kernel_rfl) (by kernel_rfl) (f:=160) (args:=#[.pointer (some ⟨m.b,20,none⟩),sv,.agg #[.int .i64 r.h.mode,.bool r.h.sum,.bool r.h.mxr,.int .u64 r.h.satp],.int .i64 kind,.int .u64 va,.int .i64 pick]) (by kernel_rfl) ?_;refine (Dr m.b base m.gi m.gd m.gp r.h.k sv r.h.mem r.h.mode r.h.sum r.h.mxr r.h.satp kind va pick v1.drew S2 hg.ks hk.1.1 hk.2.1.1 hk.2.2.1 hk.1.2.2.2 hk.2.1.2.2.2 hk.2.2.2.2.2 (SrcAt.keep HS.out n2) hv0 hv1 HR.out.h.satp.1 HR.out.h.satp.2 hpk.1 hpk.2 hg.mode ⟨hk0,hk2⟩).mono ?_;rintro e v3 ⟨pa,code,rfl,hcode,hans,hset,hkp⟩;have l1:=(bZ HA.out.1.1).2.2;have l2:=(bZ HA.out.1.2.1).2.2;have l3:=(bZ HA.out.1.2.2.1).2.2;simp only at l1 l2 l3;have HP3:=hid (hkp.heap HP1.out HD.out.pi HD.out.pdd HD.out.pp);have HF3:=hid (hkp.heap HF1.out (by omega) (by omega) (by omega));have HFin:Hid ((code=1∨code=2∨code=3)∧(br false pick r.h kind va).1=(if code=1 then 0 else if code=2 then eA kind else bL kind,pa)∧cA m pb base pick (br false pick r.h kind va).2 v3∧Kp (cX m pb) w v3):=
  ⟨hcode,hans,⟨hset.2.1,HP3.out⟩,(Kp.of_below _ n2).trans (Kp.of_keeps hkp (.inl rfl) (.inr (.inl rfl)) (.inr (.inr (.inl rfl))))⟩
 clear hcode hans hset hkp S2 n2 hk hg l1 l2 l3;refine .inl ⟨_,rfl,fun _=>⟨⟨v3,HP3.out,HF3.out⟩,rfl⟩,?_⟩;simp only [aPt,sTa,sCs,sCz];refine df (by kernel_rfl) (fuel:=1) ⟨⟨v3,HP3.out,HF3.out⟩,rfl⟩ (cR fun _ _ _ _ e h=>⟨e ▸ h.1,h.2⟩) [13,14,15] _ _ (by kernel_rfl) ?_;simp only [gt,List.getElem?_toArray,List.getElem?_cons_zero,List.getElem?_cons_succ];repeat (go_big_quiet_step (fail))
 refine wpQuiet_nil ?_;refine eM 16 11 (cF code) (by kernel_rfl) rfl (by kernel_rfl) (by kernel_rfl) (by kernel_rfl) (fun _=>⟨⟨v3,HP3.out,HF3.out⟩,rfl⟩) ?_;simp only [aPt,sTa,sCs,sCz];refine bJ (by kernel_rfl) ?_ _;clear J0 J1 I0 I1 I2 I3 ne;go_wp2_with fail;exact bodyPost_ret (v:=.tuple #[.int .u64 pa,cF code]) (by simp [results,Tryz.results200,go_sem]) rfl ⟨pa,code,rfl,HFin.out⟩
theorem pZ {f:FenceM} (h1:f.hasVa=true) (h2:du f.va=false) (es:List EntM):es.map (cj f)=es:=by
 have:∀e,cj f e=e:=fun e=>by unfold cj il;simp [h1,h2]
 rw [show cj f=id from funext this,List.map_id]
theorem dy {w w':World} {e:TypeId} {size base n g c r:Nat} {cs:List Value} (h:w.ownsRow base e size (.slice (some ⟨g,0,none⟩) n c) n cs) (hg:w.grownBy w' (some r)) (hne:g≠r):w'.ownsRow base e size (.slice (some ⟨g,0,none⟩) n c) n cs:=
 (Kp.of_gb (O:=fun i=>i=r) hg rfl).own h fun g' e he=>hne (by
  have:g=g':=by simpa [Value.ownBlock] using e
  exact this.trans he)
def DH (z0 z1:Nat):Prop:=∀(X:Nat->Prop) (f:FenceM) (cv:Value) (b o g n base:Nat) (es:List EntM) (w:World) (hn:es.length=n) (hn1:n<=1048576) (hbl:b<w.heap.size) (hbg:b≠g) (hv:inU f.va) (hcv:CovFree X w cv f) (hX:X g)
 (c2:w.cell? ⟨b,o+2,none⟩=some (.slice (some ⟨g,0,none⟩) n n)) (ho:w.ownsRow base z1 6 (.slice (some ⟨g,0,none⟩) n n) n (aH es)) (hlv:∀(j:Nat) (x:EntM),es[j]?=some x->x.valid=true->0<=x.level∧x.level<=2),
 Calls Tryz.prog z0 #[.pointer (some ⟨b,o,none⟩),cv] w fun x w'=>x=.returned (.tuple #[])∧w'.ownsRow base z1 6 (.slice (some ⟨g,0,none⟩) n n) n (aH (es.map (cj f)))∧w.grownBy w' (some g)
theorem flC:DH 204 190∧DH 205 195:=by
 refine ⟨?_,?_⟩
 ·intro X f cv b o g n base es w hn hn1 hbl hbg hv hcv hX c2 ho hlv;rcases hcv with ⟨h1,h2,rfl⟩ | ⟨h1,pf,pv,rfl,xf,xv,hF,hV⟩
  ·rw [pZ h1 h2];exact pQ.1 f.hasVa f.va f.hasAsid f.asid 0 0 b o g n base es 0 0 w hn hn1 hbl hbg c2 ho hlv
  ·exact pP.1 f.hasVa f.va f.hasAsid f.asid pf pv b o g n base es 0 0 w hn hn1 hbl hbg hv.1 hv.2 h1 (fun e=>xf (e ▸ hX)) (fun e=>xv (e ▸ hX)) hF hV c2 ho hlv
 ·intro X f cv b o g n base es w hn hn1 hbl hbg hv hcv hX c2 ho hlv;rcases hcv with ⟨h1,h2,rfl⟩ | ⟨h1,pf,pv,rfl,xf,xv,hF,hV⟩
  ·rw [pZ h1 h2];exact pQ.2 f.hasVa f.va f.hasAsid f.asid 0 0 b o g n base es 0 0 w hn hn1 hbl hbg c2 ho hlv
  ·exact pP.2 f.hasVa f.va f.hasAsid f.asid pf pv b o g n base es 0 0 w hn hn1 hbl hbg hv.1 hv.2 h1 (fun e=>xf (e ▸ hX)) (fun e=>xv (e ▸ hX)) hF hV c2 ho hlv
theorem xT {w w1 w2 w3:World} {base gi gd gp:Nat} {k:KM} {f:FenceM} (hk:bW k=true) (h:RowsAt w base gi gd gp k)
 (h1:w1.ownsRow base 190 6 (.slice (some ⟨gi,0,none⟩) k.i.es.length k.i.es.length) k.i.es.length (aH (k.i.es.map (cj f)))) (h2:w2.ownsRow base 190 6 (.slice (some ⟨gd,0,none⟩) k.d.es.length k.d.es.length) k.d.es.length (aH (k.d.es.map (cj f)))) (h3:w3.ownsRow base 195 6 (.slice (some ⟨gp,0,none⟩) k.p.es.length k.p.es.length) k.p.es.length (aH (k.p.es.map (cj f))))
 (g2:w1.grownBy w2 (some gd)) (g3:w2.grownBy w3 (some gp)):RowsAt w3 base gi gd gp (dA k f):=by
 have hk':=hk;simp only [bW,Bool.and_eq_true] at hk';have n:=h.2.2.2;unfold dA eI;rw [if_pos (dM hk'.1.1),if_pos (dM hk'.1.2),if_pos (dM hk'.2)];refine ⟨?_,?_,?_,n⟩
 ·show w3.ownsRow base _ 6 (.slice (some ⟨gi,0,none⟩) (k.i.es.map (cj f)).length (k.i.es.map (cj f)).length) (k.i.es.map (cj f)).length _;rw [List.length_map];exact dy (dy h1 g2 n.1) g3 n.2.1
 ·show w3.ownsRow base _ 6 (.slice (some ⟨gd,0,none⟩) (k.d.es.map (cj f)).length (k.d.es.map (cj f)).length) (k.d.es.map (cj f)).length _;rw [List.length_map];exact dy h2 g3 n.2.2
 ·show w3.ownsRow base _ 6 (.slice (some ⟨gp,0,none⟩) (k.p.es.map (cj f)).length (k.p.es.map (cj f)).length) (k.p.es.map (cj f)).length _;rw [List.length_map];exact h3
theorem Cq (X:Nat->Prop) (b base gi gd gp:Nat) (k:KM) (f:FenceM) (cv:Value) (w:World) (hS:SetM w b base gi gd gp k) (hk:bW k=true) (hl:k.i.es.length<=1048576∧k.d.es.length<=1048576∧k.p.es.length<=1048576) (hv:inU f.va) (hcv:CovFree X w cv f) (hx:X gi∧X gd∧X gp):
 Calls Tryz.prog 203 #[.pointer (some ⟨b,20,none⟩),cv] w fun e w'=>e=.returned (.tuple #[])∧RowsAt w' base gi gd gp (dA k f)∧Kp X w w':=by
 have hk':=hk;simp only [bW,Bool.and_eq_true] at hk';have HKg:Hid _:=hk;have HV:Hid (aQ k.i false=true∧aQ k.d false=true∧aQ k.p true=true):=⟨hk'.1.1,hk'.1.2,hk'.2⟩;have HS:=hid hS;have HL:Hid _:=hl;have HU:=hid hv;have HCv:=hid hcv;have HX:Hid _:=hx;clear hk hk' hS hl hv hcv hx;go_enter Tryz.func203,Tryz.ntmps203;go_wp2_with fail;refine (flC.1 X f cv b 20 gi _ base k.i.es w rfl HL.out.1 HS.out.lt HS.out.2.2.1 HU.out HCv.out HX.out.1 HS.out.cellI.2.2 HS.out.2.1.1 (dY (dM HV.out.1))).mono ?_;rintro e w1 ⟨rfl,o1,g1⟩;have O1:Hid _:=o1;have G1:Hid _:=g1;have C1:=hid (HCv.out.kp (Kp.of_gb g1 HX.out.1));have A1:=hid (HS.out.1.gb g1 HS.out.2.2.1);have L1:=hid (Nat.lt_of_lt_of_le HS.out.lt g1.size);clear o1 g1;go_wp2_with fail;refine (flC.1 X f cv b 23 gd _ base k.d.es w1 rfl HL.out.2.1 L1.out HS.out.2.2.2.1 HU.out C1.out HX.out.2.1 (A1.out.cell 5 _ _ rfl rfl) (dy HS.out.2.1.2.1 G1.out HS.out.2.1.2.2.2.1.symm) (dY (dM HV.out.2.1))).mono ?_;rintro e w2 ⟨rfl,o2,g2⟩;have O2:Hid _:=o2;have G2:Hid _:=g2;have C2:=hid (C1.out.kp (Kp.of_gb g2 HX.out.2.1));have A2:=hid (A1.out.gb g2 HS.out.2.2.2.1);have L2:=hid (Nat.lt_of_lt_of_le L1.out g2.size);clear o2 g2;go_wp2_with fail;refine (flC.2 X f cv b 26 gp _ base k.p.es w2 rfl HL.out.2.2 L2.out HS.out.2.2.2.2 HU.out C2.out HX.out.2.2 (A2.out.cell 8 _ _ rfl rfl) (dy (dy HS.out.2.1.2.2.1 G1.out HS.out.2.1.2.2.2.2.1.symm) G2.out HS.out.2.1.2.2.2.2.2.symm) (dY (dM HV.out.2.2))).mono ?_;rintro e w3 ⟨rfl,o3,g3⟩;have FIN:Hid (RowsAt w3 base gi gd gp (dA k f)∧Kp X w w3):=⟨xT HKg.out HS.out.2.1 O1.out O2.out o3 G2.out g3,((Kp.of_gb G1.out HX.out.1).trans (Kp.of_gb G2.out HX.out.2.1)).trans (Kp.of_gb g3 HX.out.2.2)⟩;clear o3 g3;go_wp2_with fail;exact ⟨rfl,.tuple #[],by kernel_rfl,rfl,FIN.out⟩
theorem AR (m:MP) (pb base:Nat) (pick:Int) (hd:CDist m pb) (r:RunM) (cv:Value) (f:FenceM) (w:World) (hA:cA m pb base pick r.h.k w) (hC:CellsM w m.b (gP r.h.k m.gi m.gd m.gp)) (hcv:CovFree (cX m pb) w cv f) (hr:ROk r) (hv:inU f.va):
 Calls Tryz.prog 199 #[.pointer (some ⟨pb,0,none⟩),cv] w fun e w'=>e=.returned (.tuple #[])∧cA m pb base pick (dA r.h.k f) w'∧Kp (cX m pb) w w':=by
 have HA:=hid hA;have HD:=hid hd;have hk:=hr.h.ks;have HF:Hid _:=Cq (fun i=>i=m.gi∨i=m.gd∨i=m.gp) m.b base m.gi m.gd m.gp r.h.k f cv w ⟨hC,hA.1,hd.bi,hd.bd,hd.bp⟩ hr.h.v.ks ⟨hk.1.2.2.2,hk.2.1.2.2.2,hk.2.2.2.2.2⟩ hv (by
  rcases hcv with h | ⟨h1,pf,pv,rfl,xf,xv,hF,hV⟩
  ·exact .inl h
  ·refine .inr ⟨h1,pf,pv,rfl,fun h=>xf ?_,fun h=>xv ?_,hF,hV⟩;all_goals (rcases h with h | h | h <;> simp [cX,h])) ⟨.inl rfl,.inr (.inl rfl),.inr (.inr rfl)⟩
 have c0:=ab hA.2 0 (v:=.pointer (some ⟨m.b,20,none⟩)) rfl;clear hA hC hcv hr hv hk hd;go_enter Tryz.func199,Tryz.ntmps199;go_wp2_with fail;refine Calls.mono HF.out ?_;rintro e w1 ⟨rfl,o1,k1⟩;have FIN:Hid (cA m pb base pick (dA r.h.k f) w1∧Kp (cX m pb) w w1):=⟨⟨o1,k1.heap HA.out.2 (by
  rintro (h | h | h)
  ·exact HD.out.pi h
  ·exact HD.out.pdd h
  ·exact HD.out.pp h)⟩,k1.mono (by
  rintro i (h | h | h)
  ·exact .inl h
  ·exact .inr (.inl h)
  ·exact .inr (.inr (.inl h)))⟩
 clear o1 k1 c0;go_wp2_with fail;exact ⟨rfl,.tuple #[],by kernel_rfl,rfl,FIN.out⟩
def AA (z0 z1:Nat):Prop:=∀(num:Int) (b o g n base:Nat) (es:List EntM) (w:World) (hn:es.length=n) (hn0:0<n) (hn1:n<=1048576) (h0:0<=num) (h1:num<=255) (hbl:b<w.heap.size) (hbg:b≠g)
 (c2:w.cell? ⟨b,o+2,none⟩=some (.slice (some ⟨g,0,none⟩) n n)) (ho:w.ownsRow base z1 6 (.slice (some ⟨g,0,none⟩) n n) n (aH es)),
 Calls Tryz.prog z0 #[.pointer (some ⟨b,o,none⟩),.int .i64 num] w fun x w'=>x=.returned (.tuple #[])∧w'.ownsRow base z1 6 (.slice (some ⟨g,0,none⟩) n n) n (aH (es.set (num%n).toNat cK))∧w.grownBy w' (some g)
theorem AB:AA 201 190∧AA 202 195:=by
 refine ⟨?_,?_⟩;have mL:=trivial
 rotate_left
 have mP:=trivial
 rotate_left
 all_goals
  intro num b o g n base es w hn hn0 hn1 h0 h1 hbl hbg c2 ho;first
   | (replace mL:=mL;have HO:Hid (w.drew.ownsRow base 190 6 (.slice (some ⟨g,0,none⟩) n n) n (aH es)):=aj ho (Below.refl _ _).drew)
   | (replace mP:=mP;have HO:Hid (w.drew.ownsRow base 195 6 (.slice (some ⟨g,0,none⟩) n n) n (aH es)):=aj ho (Below.refl _ _).drew)
  have HN:Hid (es.length=n):=hn;obtain ⟨j,hj⟩:∃j:Nat,num%n=j:=⟨(num%n).toNat,by have:=Int.emod_nonneg num (show (n:Int)≠0 by omega);omega⟩;have hjn:j<n:=by
   have:=Int.emod_lt_of_pos num (show (0:Int)<n by omega);omega
  have hrem:num.tmod n=j:=by rw [Int.tmod_eq_emod_of_nonneg h0,hj]
  have HJ:Hid ((num%n).toNat=j):=by show _=_;rw [hj];rfl
  have hfl:(aH es).length=n*6:=by rw [et,hn]
  have q0:=aB HO.out (j*6) _ (List.getElem?_eq_getElem (by omega));have q1:=aB HO.out (j*6+1) _ (List.getElem?_eq_getElem (by omega));have q2:=aB HO.out (j*6+2) _ (List.getElem?_eq_getElem (by omega));have q3:=aB HO.out (j*6+3) _ (List.getElem?_eq_getElem (by omega));have q4:=aB HO.out (j*6+4) _ (List.getElem?_eq_getElem (by omega));have q5:=aB HO.out (j*6+5) _ (List.getElem?_eq_getElem (by omega));generalize (aH es)[j*6]'_=y0 at q0;generalize (aH es)[j*6+1]'_=y1 at q1;generalize (aH es)[j*6+2]'_=y2 at q2;generalize (aH es)[j*6+3]'_=y3 at q3;generalize (aH es)[j*6+4]'_=y4 at q4;generalize (aH es)[j*6+5]'_=y5 at q5;have s0:=aO HO.out (j*6);have s1:=aO HO.out (j*6+1);have s2:=aO HO.out (j*6+2);have s3:=aO HO.out (j*6+3);have s4:=aO HO.out (j*6+4);have s5:=aO HO.out (j*6+5);have c2':w.drew.cell? ⟨b,o+2,none⟩=some (.slice (some ⟨g,0,none⟩) n n):=c2;have hw0:¬((n:Int)=0):=by omega
  have hwn:¬(n=0):=by omega
  have hwd:IntKind.i64.wrap (j:Int)=(j:Int):=(IntKind.wrap_i64 _).trans (by omega);clear ho hn hfl hj c2;first
   | (replace mL:=mL;go_enter Tryz.func201,Tryz.ntmps201)
   | (replace mP:=mP;go_enter Tryz.func202,Tryz.ntmps202)
  refine dl 12 (by kernel_rfl) (by kernel_rfl) ?_;simp only [List.take_succ_cons,List.take_zero,List.drop_succ_cons,List.drop_zero];have D:Hid (Bw w w.drew):=(Below.refl _ _).drew;generalize w.drew=u at D HO q0 q1 q2 q3 q4 q5 s0 s1 s2 s3 s4 s5 c2' |-;repeat still_step
  refine wpStill_nil ?_;go_wp2_with fail;refine ⟨rfl,.tuple #[],by kernel_rfl,rfl,?_,dJ (fE (aq w (some g)) D.out) (ak (ak (ak (ak (ak (ak (aq u _) _ _) _ _) _ _) _ _) _ _) _ _)⟩;rw [HJ.out,ic _ _ _ (by rw [HN.out];exact hjn)];exact aF (aF (aF (aF (aF (aF HO.out _ _) _ _) _ _) _ _) _ _) _ _
theorem zw {w w1 w2 w3:World} {base gi gd gp:Nat} {k:KM} {z:Int} (h:RowsAt w base gi gd gp k)
 (h1:w1.ownsRow base 190 6 (.slice (some ⟨gi,0,none⟩) k.i.es.length k.i.es.length) k.i.es.length (aH (k.i.es.set (z%k.i.es.length).toNat cK))) (h2:w2.ownsRow base 190 6 (.slice (some ⟨gd,0,none⟩) k.d.es.length k.d.es.length) k.d.es.length (aH (k.d.es.set (z%k.d.es.length).toNat cK))) (h3:w3.ownsRow base 195 6 (.slice (some ⟨gp,0,none⟩) k.p.es.length k.p.es.length) k.p.es.length (aH (k.p.es.set (z%k.p.es.length).toNat cK)))
 (g2:w1.grownBy w2 (some gd)) (g3:w2.grownBy w3 (some gp)):RowsAt w3 base gi gd gp ⟨bf k.i z,bf k.d z,bf k.p z⟩:=by
 have n:=h.2.2.2;refine ⟨?_,?_,?_,n⟩
 ·simp only [bf,List.length_set];exact dy (dy h1 g2 n.1) g3 n.2.1
 ·simp only [bf,List.length_set];exact dy h2 g3 n.2.2
 ·simp only [bf,List.length_set];exact h3
theorem Dg (X:Nat->Prop) (b base gi gd gp:Nat) (k:KM) (z:Int) (w:World) (hS:SetM w b base gi gd gp k) (hl0:0<k.i.es.length∧0<k.d.es.length∧0<k.p.es.length) (hl:k.i.es.length<=1048576∧k.d.es.length<=1048576∧k.p.es.length<=1048576) (h0:0<=z) (h1:z<=255) (hx:X gi∧X gd∧X gp):
 Calls Tryz.prog 159 #[.pointer (some ⟨b,20,none⟩),.int .i64 z] w fun e w'=>e=.returned (.tuple #[])∧RowsAt w' base gi gd gp ⟨bf k.i z,bf k.d z,bf k.p z⟩∧Kp X w w':=by
 have HS:=hid hS;have HL:Hid _:=hl;have H0:Hid _:=hl0;have HX:Hid _:=hx;clear hS hl hl0 hx;go_enter Tryz.func159,Tryz.ntmps159;go_wp2_with fail;refine (AB.1 z b 20 gi _ base k.i.es w rfl H0.out.1 HL.out.1 h0 h1 HS.out.lt HS.out.2.2.1 HS.out.cellI.2.2 HS.out.2.1.1).mono ?_;rintro e w1 ⟨rfl,o1,g1⟩;have O1:Hid _:=o1;have G1:Hid _:=g1;have A1:=hid (HS.out.1.gb g1 HS.out.2.2.1);have L1:=hid (Nat.lt_of_lt_of_le HS.out.lt g1.size);clear o1 g1;go_wp2_with fail;refine (AB.1 z b 23 gd _ base k.d.es w1 rfl H0.out.2.1 HL.out.2.1 h0 h1 L1.out HS.out.2.2.2.1 (A1.out.cell 5 _ _ rfl rfl) (dy HS.out.2.1.2.1 G1.out HS.out.2.1.2.2.2.1.symm)).mono ?_;rintro e w2 ⟨rfl,o2,g2⟩;have O2:Hid _:=o2;have G2:Hid _:=g2;have A2:=hid (A1.out.gb g2 HS.out.2.2.2.1);have L2:=hid (Nat.lt_of_lt_of_le L1.out g2.size);clear o2 g2;go_wp2_with fail;refine (AB.2 z b 26 gp _ base k.p.es w2 rfl H0.out.2.2 HL.out.2.2 h0 h1 L2.out HS.out.2.2.2.2 (A2.out.cell 8 _ _ rfl rfl) (dy (dy HS.out.2.1.2.2.1 G1.out HS.out.2.1.2.2.2.2.1.symm) G2.out HS.out.2.1.2.2.2.2.2.symm)).mono ?_;rintro e w3 ⟨rfl,o3,g3⟩;have FIN:Hid (RowsAt w3 base gi gd gp ⟨bf k.i z,bf k.d z,bf k.p z⟩∧Kp X w w3):=⟨zw HS.out.2.1 O1.out O2.out o3 G2.out g3,((Kp.of_gb G1.out HX.out.1).trans (Kp.of_gb G2.out HX.out.2.1)).trans (Kp.of_gb g3 HX.out.2.2)⟩;clear o3 g3;go_wp2_with fail;exact ⟨rfl,.tuple #[],by kernel_rfl,rfl,FIN.out⟩
def cI (m:MP) (pb base:Nat) (k:KM) (w:World):Prop:=∃pick,cA m pb base pick k w
theorem pw {t:TlbM} {p:Bool} (h:aQ t p=true):0<t.es.length:=by
 obtain ⟨hs,h1,h4,hl⟩:=fl h;rcases hs with e | e | e | e <;> (rw [e] at hl;omega)
theorem AC (m:MP) (pb base:Nat) (pick p0:Int) (hd:CDist m pb) (h0:HartM) (w:World) (hA:cA m pb base p0 h0.k w) (hC:CellsM w m.b (gP h0.k m.gi m.gd m.gp)) (hbp:m.b≠pb) (hh:HOk h0) (hpk:0<=pick∧pick<=255):
 Calls Tryz.prog 198 #[.pointer (some ⟨pb,0,none⟩),.int .i64 pick] w fun e w'=>e=.returned (.tuple #[])∧cA m pb base pick (fW false pick h0.k) w'∧Kp (cX m pb) w w':=by
 have hk:=hh.ks;have hv:=hh.v.ks;simp only [bW,Bool.and_eq_true] at hv;have g1:=ak (aq w (some pb)) 1 (.int .i64 pick);have e1:=bB (v:=.int .i64 pick) (i:=1) hA.2;have c0:=ab hA.2 0 (v:=.pointer (some ⟨m.b,20,none⟩)) rfl;have c1:=ab hA.2 1 (v:=.int .i64 p0) rfl;have f1:=ay hA.2 1;have R1:RowsAt (w.setCell ⟨pb,1,none⟩ (.int .i64 pick)) base m.gi m.gd m.gp h0.k:=⟨dy hA.1.1 g1 hd.pi.symm,dy hA.1.2.1 g1 hd.pdd.symm,dy hA.1.2.2.1 g1 hd.pp.symm,hA.1.2.2.2⟩;have HD:=hid hd;have HR1:Hid _:=R1;have HE1:Hid _:=e1;have HG1:Hid (Kp (cX m pb) w (w.setCell ⟨pb,1,none⟩ (.int .i64 pick))):=Kp.of_gb g1 (.inr (.inr (.inr rfl)));have HDr:Hid (128<=pick->Calls Tryz.prog 159 #[.pointer (some ⟨m.b,20,none⟩),.int .i64 (pick-128)] (w.setCell ⟨pb,1,none⟩ (.int .i64 pick)) fun e w'=>e=.returned (.tuple #[])∧RowsAt w' base m.gi m.gd m.gp ⟨bf h0.k.i (pick-128),bf h0.k.d (pick-128),bf h0.k.p (pick-128)⟩∧Kp (fun i=>i=m.gi∨i=m.gd∨i=m.gp) (w.setCell ⟨pb,1,none⟩ (.int .i64 pick)) w'):=fun h=>
  Dg (fun i=>i=m.gi∨i=m.gd∨i=m.gp) m.b base m.gi m.gd m.gp h0.k (pick-128) _ ⟨hC.gb g1 hbp,R1,hd.bi,hd.bd,hd.bp⟩ ⟨pw hv.1.1,pw hv.1.2,pw hv.2⟩ ⟨hk.1.2.2.2,hk.2.1.2.2.2,hk.2.2.2.2.2⟩ (by omega) (by omega) ⟨.inl rfl,.inr (.inl rfl),.inr (.inr rfl)⟩
 obtain ⟨hp0,hp1⟩:=hpk;clear hA hC hh hk hv hd g1 e1 R1;go_enter Tryz.func198,Tryz.ntmps198;by_cases hp:128<=pick
 ·have d0:=ab HE1.out 0 rfl;go_wp2_with fail;generalize w.setCell ⟨pb,1,none⟩ (.int .i64 pick)=v1 at HR1 HE1 HG1 HDr d0 |-;refine Calls.mono (HDr.out hp) ?_;rintro e w1 ⟨rfl,o1,k1⟩;have FIN:Hid (cA m pb base pick (fW false pick h0.k) w1∧Kp (cX m pb) w w1):=⟨⟨by unfold fW;rw [if_pos ⟨hp,rfl⟩];exact o1,k1.heap HE1.out (by
   rintro (h | h | h)
   ·exact HD.out.pi h
   ·exact HD.out.pdd h
   ·exact HD.out.pp h)⟩,HG1.out.trans (k1.mono (by
   rintro i (h | h | h)
   ·exact .inl h
   ·exact .inr (.inl h)
   ·exact .inr (.inr (.inl h))))⟩
  clear o1 k1 c0 c1 f1 d0;go_wp2_with fail;exact ⟨rfl,.tuple #[],by kernel_rfl,rfl,FIN.out⟩
 ·have FIN:Hid (cA m pb base pick (fW false pick h0.k) (w.setCell ⟨pb,1,none⟩ (.int .i64 pick))∧Kp (cX m pb) w (w.setCell ⟨pb,1,none⟩ (.int .i64 pick))):=⟨⟨by unfold fW;rw [if_neg (fun h=>hp h.1)];exact HR1.out,HE1.out⟩,HG1.out⟩;go_wp2_with fail;exact ⟨rfl,.tuple #[],by kernel_rfl,rfl,FIN.out⟩
theorem vL (m:MP) (pb base:Nat) (hd:CDist m pb) (hbp:m.b≠pb) (pick:Int) (hpk:0<=pick∧pick<=255) (h0:HartM):PathOk m false pick h0 (cX m pb) (cI m pb base h0.k) (fun w r=>cA m pb base pick r.h.k w):=by
 refine ⟨fun w w' r h _ hx=>h.frame hx,fun w w' ⟨p,h⟩ _ hx=>⟨p,h.frame hx⟩,fun w r r' h e _ _ _=>by rw [e];exact h,?_,?_,?_⟩
 ·intro w r sv kind va hA hC hs hc hr hk0 hk2 hv;rw [hd.pd,hd.px];refine ⟨_,_,vQ pb w,fun args u=>xP args u,?_⟩;exact (Cn m pb base pick hd r sv kind va w hA hC hs hr hpk hk0 hk2 hv).mono fun e w' h=>h
 ·intro w r cv f hA hC hcv hr hv ha;rw [hd.pd,hd.px];refine ⟨_,_,ur pb w,fun args u=>vR args u,?_⟩;exact (AR m pb base pick hd r cv f w hA hC hcv hr hv).mono fun e w' h=>h
 ·intro w hI hC hh;obtain ⟨p0,hA⟩:=hI;rw [hd.pd,hd.px];refine ⟨_,_,us pb w,fun args u=>vS args u,?_⟩;exact (AC m pb base pick p0 hd h0 w hA hC hbp hh hpk).mono fun e w' h=>h
def nH (kind:Int):List bF->List Value
 | []=>[]
 | p::ps=>.int .i64 kind::.int .u64 p.1::.int .u64 p.2.2::.int .u64 p.2.1::nH kind ps
def Ax (plain:Bool) (pick:Int) (O X:Nat->Prop) (m:MP) (PA:World->RunM->Prop) (ov:Value) (ol:List (Nat × Int)) (T:RunM × List bF) (kind:Int) (w:World) (e:Ending) (w':World):Prop:=
 ((T.1.cause=0∧∃g,e=.returned (.slice (some ⟨g,0,none⟩) T.2.length T.2.length)∧w.heap.size<=g∧w'.heap[g]?=some (.cells (nH kind T.2).toArray 201 (0,0)))∨(T.1.cause≠0∧e=.panicked [kC T.1.cause T.1.tval]))∧
 MW w' O X m ov T.1.h ol∧PA w' T.1∧Kp X w w'
theorem yq (va size:Int) (h:size<=64-va%64):cE va size=[(va,size,0)]:=by
 unfold cE;rw [if_neg (by omega)]
theorem Cj (va size:Int) (h:64-va%64<size):cE va size=[(va,64-va%64,0),((va+(64-va%64))%18446744073709551616,size-(64-va%64),0)]:=by
 unfold cE;rw [if_pos h]
theorem gE (plain:Bool) (pick kind:Int) (r:RunM) (p:bF) (ps:List bF) (h:(br plain pick r.h kind p.1).1.1≠0):ao plain pick kind r (p::ps)=(bT (bX plain pick r kind p.1) (br plain pick r.h kind p.1).1.1 p.1,p::ps):=by
 rw [ao,if_neg h]
theorem fj (plain:Bool) (pick kind:Int) (r:RunM) (p:bF) (ps:List bF) (h:(br plain pick r.h kind p.1).1.1=0):ao plain pick kind r (p::ps)=((ao plain pick kind (bX plain pick r kind p.1) ps).1,(p.1,p.2.1,(br plain pick r.h kind p.1).1.2)::(ao plain pick kind (bX plain pick r kind p.1) ps).2):=by
 rw [ao,if_pos h]
theorem SameC.look {h0:HartM} {r:RunM} (hc:SameC r.h h0) (plain:Bool) (pick kind va:Int):SameC (bX plain pick r kind va).h h0:=⟨hc.mem,hc.mode,hc.sum,hc.mxr,hc.satp⟩
theorem qI {plain:Bool} {pick:Int} {h0:HartM} {O X:Nat->Prop} {PI:World->Prop} {PA:World->RunM->Prop} {m:MP} (hp:PathOk m plain pick h0 X PI PA) (hpk:0<=pick∧pick<=255) {ov:Value} {ol:List (Nat × Int)} (r:RunM) (kind va size:Int) (w:World)
 (k:MW w O X m ov r.h ol) (hA:PA w r) (hr:ROk r) (hc:SameC r.h h0) (h0c:r.cause=0) (hk0:0<=kind) (hk2:kind<=2) (hv:inU va) (hs:1<=size∧size<=8):
 Calls Tryz.prog 77 #[.pointer (some ⟨m.b,0,none⟩),.int .i64 kind,.int .u64 va,.int .u64 size] w fun e w'=>Ax plain pick O X m PA ov ol (ao plain pick kind r (cE va size)) kind w e w':=by
 have HK:Hid _:=k;have HA:Hid _:=hA;have HP:Hid _:=hp;have HR:Hid _:=hr;have HC:Hid _:=hc;have H0:Hid _:=h0c;obtain ⟨hv0,hv1⟩:=hv;obtain ⟨hs1,hs2⟩:=hs;clear k hA hp hr hc h0c;obtain ⟨lf,hlf⟩:∃lf:Int,64-va%64=lf:=⟨_,rfl⟩;have hl1:1<=lf:=by omega
 have hl2:lf<=64:=by omega
 have HL:Hid _:=hlf;have hw1:IntKind.u64.wrap (64-va%64)=lf:=by rw [IntKind.wrap_u64];omega
 clear hlf;by_cases hle:size<=lf
 ·rw [yq va size (by rw [HL.out];exact hle)];go_enter Tryz.func77,Tryz.ntmps77;go_wp2_with fail;refine (kn HP.out hpk r kind va size w HK.out HA.out HR.out HC.out hk0 hk2 ⟨hv0,hv1⟩).mono ?_;rintro e v1 ⟨he,k1,a1,n1⟩;by_cases hz:(br plain pick r.h kind va).1.1=0
  ·rw [if_pos hz] at he;subst he;have HZ:Hid _:=hz;have K1:Hid _:=k1;have A1:Hid _:=a1;have N1:Hid _:=n1;clear hz k1 a1 n1;have F:=bS v1 #[.int .i64 kind,.int .u64 va,.int .u64 (br plain pick r.h kind va).1.2,.int .u64 size] 201;go_wp2_with fail;obtain ⟨f1,_,f3⟩:=F;have sz:=N1.out.size;go_ret;have hT:ao plain pick kind r [(va,size,0)]=(bX plain pick r kind va,[(va,size,(br plain pick r.h kind va).1.2)]):=by
    rw [fj _ _ _ _ _ _ HZ.out];rfl
   rw [hT];exact ⟨.inl ⟨H0.out,v1.heap.size,rfl,sz,f1⟩,K1.out.low f3,HP.out.keep A1.out (fun i hi=>(K1.out.xo i hi).2) (Kp.of_below (fun _=>False) f3) (fun _ _ h=>h),N1.out.trans (Kp.of_below X f3)⟩
  ·rw [if_neg hz] at he;subst he;have HZ:Hid _:=hz;clear hz;go_wp2_with fail;refine ⟨rfl,?_⟩;rw [gE _ _ _ _ _ _ HZ.out];exact ⟨.inr ⟨HZ.out,rfl⟩,k1,HP.out.congr _ _ _ a1 rfl rfl rfl rfl,n1⟩
 ·have hlt:lf<size:=by omega
  have hw2:IntKind.u64.wrap (size-lf)=size-lf:=by rw [IntKind.wrap_u64];omega
  obtain ⟨va2,hva2⟩:∃va2:Int,(va+lf)%18446744073709551616=va2:=⟨_,rfl⟩;have hw3:IntKind.u64.wrap (va+lf)=va2:=by rw [IntKind.wrap_u64];exact hva2
  have hu2:inU va2:=by rw [<-hva2];unfold inU;omega
  have hdd:=decide_eq_false (by omega);rw [Cj va size (by rw [HL.out];exact hlt),HL.out,hva2];clear hva2 hle;go_enter Tryz.func77,Tryz.ntmps77;go_wp2_with fail;refine (kn HP.out hpk r kind va lf w HK.out HA.out HR.out HC.out hk0 hk2 ⟨hv0,hv1⟩).mono ?_;rintro e v1 ⟨he,k1,a1,n1⟩;by_cases hz:(br plain pick r.h kind va).1.1=0
  ·rw [if_pos hz] at he;subst he;have HZ:Hid _:=hz;have K1:Hid _:=k1;have A1:Hid _:=a1;have N1:Hid _:=n1;have R1:Hid (ROk (bX plain pick r kind va)):=iS HR.out plain hpk ⟨hk0,hk2⟩ ⟨hv0,hv1⟩;have C1:Hid (SameC (bX plain pick r kind va).h h0):=SameC.look HC.out plain pick kind va;have H01:Hid ((bX plain pick r kind va).cause=0):=H0;clear hz k1 a1 n1;obtain ⟨pa,hpa⟩:∃pa,(br plain pick r.h kind va).1.2=pa:=⟨_,rfl⟩;have HPa:Hid _:=hpa;rw [hpa];clear hpa;obtain ⟨R2,hR2⟩:∃R2,bX plain pick r kind va=R2:=⟨_,rfl⟩;have HR2:Hid _:=hR2;rw [hR2] at K1 A1 R1 C1 H01;clear hR2;go_upto_region 5 with fail;obtain ⟨v2,Ev2,F⟩:=ax1 v1 #[.int .i64 kind,.int .u64 va,.int .u64 pa,.int .u64 lf] 201;rw [Ev2.out];clear Ev2;obtain ⟨f1,f3,f2⟩:=F;have HF1:Hid _:=f1;have CT0:=fun (u:Has v1.heap.size (.cells #[.int .i64 kind,.int .u64 va,.int .u64 pa,.int .u64 lf] 201 (0,0)))=>ab u.h 0 rfl;have CT1:=fun (u:Has v1.heap.size (.cells #[.int .i64 kind,.int .u64 va,.int .u64 pa,.int .u64 lf] 201 (0,0)))=>ab u.h 1 rfl;have CT2:=fun (u:Has v1.heap.size (.cells #[.int .i64 kind,.int .u64 va,.int .u64 pa,.int .u64 lf] 201 (0,0)))=>ab u.h 2 rfl;have CT3:=fun (u:Has v1.heap.size (.cells #[.int .i64 kind,.int .u64 va,.int .u64 pa,.int .u64 lf] 201 (0,0)))=>ab u.h 3 rfl;have ne:Nonempty (Has v1.heap.size (.cells #[.int .i64 kind,.int .u64 va,.int .u64 pa,.int .u64 lf] 201 (0,0))):=⟨⟨v2,f1⟩⟩;have D2:=bdr v2;have n2:=bst f2 D2;clear f1;refine aN (fun w'=>∃u:Has v1.heap.size (.cells #[.int .i64 kind,.int .u64 va,.int .u64 pa,.int .u64 lf] 201 (0,0)),w'=u.w) 11 (by kernel_rfl) ?_;refine df (by kernel_rfl) (fuel:=3) ⟨⟨v2.drew,HF1.out⟩,rfl⟩ (cR fun _ _ _ _ e h=>⟨e ▸ h.1,h.2⟩) [0,1,2,3,4,5,6,7,8] _ _ (by kernel_rfl) ?_;simp only [gt,List.getElem?_toArray,List.getElem?_cons_zero,List.getElem?_cons_succ];repeat (go_big_quiet_step (fail))
   refine wpQuiet_nil ?_;refine cO 9 37 (by kernel_rfl) rfl (by kernel_rfl) (by kernel_rfl) (f:=102) (args:=#[.pointer (some ⟨m.b,0,none⟩),.int .i64 kind,.int .u64 va2,.int .u64 (size-lf)]) (by kernel_rfl) ?_;refine (kn HP.out hpk R2 kind va2 (size-lf) v2.drew (K1.out.low n2) (HP.out.keep A1.out (fun i hi=>(K1.out.xo i hi).2) (Kp.of_below (fun _=>False) n2) (fun _ _ h=>h)) R1.out C1.out hk0 hk2 hu2).mono ?_;rintro e v3 ⟨he,k3,a3,n3⟩;have nx:¬X v1.heap.size:=fun h=>by have:=(K1.out.xo _ h).2;omega
   have HF3:=Kp.hid (show Hid (v2.drew.heap[v1.heap.size]?=some (.cells #[.int .i64 kind,.int .u64 va,.int .u64 pa,.int .u64 lf] 201 (0,0))) from HF1) n3 nx;have N3:=hid ((N1.out.trans (Kp.of_below X n2)).trans n3);by_cases hz:(br plain pick R2.h kind va2).1.1=0
   ·rw [if_pos hz] at he;subst he;have HZ2:Hid _:=hz;have K3:Hid _:=k3;have A3:Hid _:=a3;clear hz k3 a3;obtain ⟨pa2,hpa⟩:∃pa2,(br plain pick R2.h kind va2).1.2=pa2:=⟨_,rfl⟩;have HPa2:Hid _:=hpa;rw [hpa];clear hpa;refine .inl ⟨_,rfl,fun _=>⟨⟨v3,HF3.out⟩,rfl⟩,?_⟩;have F:=bS v3 #[.int .i64 kind,.int .u64 va,.int .u64 pa,.int .u64 lf,.int .i64 kind,.int .u64 va2,.int .u64 pa2,.int .u64 (size-lf)] 201;obtain ⟨g1,g2,g3⟩:=F;have HF4:=ah HF3 g3;simp only [aPt,sTa,sCs,sCz];refine eM 10 38 (.slice (some ⟨v3.heap.size,0,none⟩) 2 2) (w':=v3.alloc (Obj.cells #[.int .i64 kind,.int .u64 va,.int .u64 pa,.int .u64 lf,.int .i64 kind,.int .u64 va2,.int .u64 pa2,.int .u64 (size-lf)] 201)) (by kernel_rfl) rfl (by kernel_rfl) (by kernel_rfl) (by go_simp) (fun _=>⟨⟨_,HF4.out⟩,rfl⟩) ?_;simp only [aPt,sTa,sCs,sCz];refine eM 11 8 (.slice (some ⟨v3.heap.size,0,none⟩) 2 2) (by kernel_rfl) rfl (by kernel_rfl) (by kernel_rfl) (by kernel_rfl) (fun _=>⟨⟨_,HF4.out⟩,rfl⟩) ?_;simp only [aPt,sTa,sCs,sCz];refine bJ (by kernel_rfl) ?_ _;clear CT0 CT1 CT2 CT3 ne;generalize v3.alloc (Obj.cells #[.int .i64 kind,.int .u64 va,.int .u64 pa,.int .u64 lf,.int .i64 kind,.int .u64 va2,.int .u64 pa2,.int .u64 (size-lf)] 201)=v4 at g1 g2 g3 HF4 |-;have HG1:Hid _:=g1;have HG3:Hid _:=g3;clear g1 g2 g3;go_wp2_with fail;go_ret;have hT:ao plain pick kind r [(va,lf,0),(va2,size-lf,0)]=(bX plain pick R2 kind va2,[(va,lf,pa),(va2,size-lf,pa2)]):=by
     rw [fj _ _ _ _ _ _ HZ.out,HR2.out,fj _ _ _ _ _ _ HZ2.out,HPa.out,HPa2.out];rfl
    rw [hT];have sz:=N3.out.size;exact ⟨.inl ⟨H01.out,v3.heap.size,rfl,sz,HG1.out⟩,K3.out.low HG3.out,HP.out.keep A3.out (fun i hi=>(K3.out.xo i hi).2) (Kp.of_below (fun _=>False) HG3.out) (fun _ _ h=>h),N3.out.trans (Kp.of_below X HG3.out)⟩
   ·rw [if_neg hz] at he;subst he;refine .inr ⟨_,rfl,rfl,?_⟩;rw [fj _ _ _ _ _ _ HZ.out,HR2.out,gE _ _ _ _ _ _ hz];exact ⟨.inr ⟨hz,rfl⟩,k3,HP.out.congr _ _ _ a3 rfl rfl rfl rfl,N3.out⟩
  ·rw [if_neg hz] at he;subst he;have HZ:Hid _:=hz;clear hz;go_wp2_with fail;refine ⟨rfl,?_⟩;rw [gE _ _ _ _ _ _ HZ.out];exact ⟨.inr ⟨HZ.out,rfl⟩,k1,HP.out.congr _ _ _ a1 rfl rfl rfl rfl,n1⟩
end Go.Proofs.YtpdddbobhndbjaaGreat
