import Derived.Test.YthdgiakgepmabaaGreatDk17
namespace Go.Proofs.YthdgiakgepmabaaGreat
open Go.RowKit
set_option linter.unusedVariables false
set_option maxHeartbeats 6400000
set_option maxRecDepth 20000
theorem kt {w w':World} {e:TypeId} {size base n g c:Nat} {cs:List Value} (h:w.ownsRow base e size (SL g n c) n cs) (hg:w'.heap[g]?=w.heap[g]?):w'.ownsRow base e size (SL g n c) n cs:=by
 obtain ⟨h1,h2⟩:=h;refine ⟨h1,?_⟩;rcases h2 with h2 | ⟨g',cap',cur,h2,hb,hh,r⟩
 ·exact .inl h2
 ·refine .inr ⟨g',cap',cur,h2,hb,?_,r⟩;have:g=g':=by
   simp only [Value.slice.injEq,Option.some.injEq,Addr.mk.injEq] at h2;exact h2.1.1
  subst this;rw [hg,hh]
def cX (m:MP) (pb:Nat) (i:Nat):Prop:=i=m.gi∨i=m.gd∨i=m.gp∨i=pb
def cA (m:MP) (pb base:Nat) (pick:Int) (k:KM) (w:World):Prop:=
 RowsAt w base m.gi m.gd m.gp k∧w.heap[pb]?=some (.cells #[PT m.b 20,VI pick] 182 (0,0))
theorem cA.frame {m:MP} {pb base:Nat} {pick:Int} {k:KM} {w w':World} (h:cA m pb base pick k w) (hx:∀i,cX m pb i->w'.heap[i]?=w.heap[i]?):cA m pb base pick k w':=
 ⟨⟨kt h.1.1 (hx _ (.inl rfl)),kt h.1.2.1 (hx _ (.inr (.inl rfl))),kt h.1.2.2.1 (hx _ (.inr (.inr (.inl rfl)))),h.1.2.2.2⟩,(hx _ (.inr (.inr (.inr rfl)))).trans h.2⟩
structure CDist (m:MP) (pb:Nat):Prop where
 pd:m.pd=180
 px:m.px=PT pb 0
 bi:m.b≠m.gi
 bd:m.b≠m.gd
 bp:m.b≠m.gp
 pi:pb≠m.gi
 pdd:pb≠m.gd
 pp:pb≠m.gp
theorem xP (pb:Nat) (w:World):(method 417 180 (PT pb 0) "loop.example/s0051/impl.phys").run Tryz.prog w=.ok (211,PT pb 0) w:=by kernel_rfl
theorem vk (pb:Nat) (w:World):(method 417 180 (PT pb 0) "loop.example/s0051/impl.fence").run Tryz.prog w=.ok (210,PT pb 0) w:=by kernel_rfl
theorem vl (pb:Nat) (w:World):(method 417 180 (PT pb 0) "loop.example/s0051/impl.begin").run Tryz.prog w=.ok (209,PT pb 0) w:=by kernel_rfl
theorem zC (args:Array Value) (w:World):(callFunc 211 args).run Tryz.prog w=.ok (.enter 211 args) w:=by kernel_rfl
theorem xQ (args:Array Value) (w:World):(callFunc 210 args).run Tryz.prog w=.ok (.enter 210 args) w:=by kernel_rfl
theorem xR (args:Array Value) (w:World):(callFunc 209 args).run Tryz.prog w=.ok (.enter 209 args) w:=by kernel_rfl
theorem Fg (m:MP) (pb base:Nat) (pick:Int) (hd:CDist m pb) (r:RunM) (sv:Value) (kind va:Int) (w:World) (hA:cA m pb base pick r.h.k w) (hC:CellsM w m.b (gX r.h.k m.gi m.gd m.gp)) (hs:SrcAt w sv r.h.mem) (hr:ROk r) (hpk:0<=pick∧pick<=255) (hk0:0<=kind) (hk2:kind<=2) (hv:inU va):
 Calls Tryz.prog 211 #[PT pb 0,sv,jR r.h,VI kind,VU va] w fun e w'=>∃pa code,e=.returned (.tuple #[VU pa,cu code])∧(code=1∨code=2∨code=3)∧(aT false pick r.h kind va).1=(if code=1 then 0 else if code=2 then eU kind else bO kind,pa)∧cA m pb base pick (aT false pick r.h kind va).2 w'∧Kp (cX m pb) w w':=by
 obtain ⟨v1,Ev1,F⟩:=ax1 w #[VI r.h.mode,.bool r.h.sum,.bool r.h.mxr,VU r.h.satp] 110;have HA:Hid _:=hA;have HC:Hid _:=hC;have HS:Hid _:=hs;have HR:Hid _:=hr;have HD:Hid _:=hd;have hpl:=(hpl hA.2);have hbp:=hA.2;obtain ⟨hv0,hv1⟩:=hv;clear hA hC hs hr hd;unfold jR;go_enter Tryz.func211,Tryz.ntmps211;go_upto_region 1 with fail;rw [Ev1.out];clear Ev1;obtain ⟨f1,f2,n1⟩:=F;have HP1:=hid (ae hbp n1 hpl);have HF1:Hid _:=f1;have HN1:Hid _:=n1;clear hbp f1 f2 n1;have J0:=fun (u:Has2 pb (.cells #[PT m.b 20,VI pick] 182 (0,0)) w.heap.size (.cells #[VI r.h.mode,.bool r.h.sum,.bool r.h.mxr,VU r.h.satp] 110 (0,0)))=>ab u.h 0 rfl;have J1:=fun (u:Has2 pb (.cells #[PT m.b 20,VI pick] 182 (0,0)) w.heap.size (.cells #[VI r.h.mode,.bool r.h.sum,.bool r.h.mxr,VU r.h.satp] 110 (0,0)))=>ab u.h 1 rfl;have I0:=fun (u:Has2 pb (.cells #[PT m.b 20,VI pick] 182 (0,0)) w.heap.size (.cells #[VI r.h.mode,.bool r.h.sum,.bool r.h.mxr,VU r.h.satp] 110 (0,0)))=>ab u.h' 0 rfl;have I1:=fun (u:Has2 pb (.cells #[PT m.b 20,VI pick] 182 (0,0)) w.heap.size (.cells #[VI r.h.mode,.bool r.h.sum,.bool r.h.mxr,VU r.h.satp] 110 (0,0)))=>ab u.h' 1 rfl;have I2:=fun (u:Has2 pb (.cells #[PT m.b 20,VI pick] 182 (0,0)) w.heap.size (.cells #[VI r.h.mode,.bool r.h.sum,.bool r.h.mxr,VU r.h.satp] 110 (0,0)))=>ab u.h' 2 rfl;have I3:=fun (u:Has2 pb (.cells #[PT m.b 20,VI pick] 182 (0,0)) w.heap.size (.cells #[VI r.h.mode,.bool r.h.sum,.bool r.h.mxr,VU r.h.satp] 110 (0,0)))=>ab u.h' 3 rfl;have ne:Nonempty (Has2 pb (.cells #[PT m.b 20,VI pick] 182 (0,0)) w.heap.size (.cells #[VI r.h.mode,.bool r.h.sum,.bool r.h.mxr,VU r.h.satp] 110 (0,0))):=⟨⟨v1,HP1.out,HF1.out⟩⟩;refine ax (fun w'=>∃u:Has2 pb (.cells #[PT m.b 20,VI pick] 182 (0,0)) w.heap.size (.cells #[VI r.h.mode,.bool r.h.sum,.bool r.h.mxr,VU r.h.satp] 110 (0,0)),w'=u.w) 16 ?_;refine eO (fuel:=5) ⟨⟨v1.drew,HP1.out,HF1.out⟩,rfl⟩ [0,1,2,3,4,5,6,7,8,9,10,11] ?_;simp only [gh,List.getElem?_toArray,List.getElem?_cons_zero,List.getElem?_cons_succ];repeat (go_big_quiet_step (fail))
 refine wpQuiet_nil ?_;have n2:Bw w v1.drew:=bst HN1.out (brf).drew;have hk:=HR.out.h.ks;have hg:=HR.out.h.v;have S2:SetM v1.drew m.b base m.gi m.gd m.gp r.h.k:=⟨CellsM.keep HC.out n2,HA.out.1.keep n2,HD.out.bi,HD.out.bd,HD.out.bp⟩;refine ep 12 24 rfl ((Gt m.b base m.gi m.gd m.gp r.h.k sv r.h.mem r.h.mode r.h.sum r.h.mxr r.h.satp kind va pick v1.drew S2 hg.ks hk.1.1 hk.2.1.1 hk.2.2.1 hk.1.2.2.2 hk.2.1.2.2.2 hk.2.2.2.2.2 (SrcAt.keep HS.out n2) hv0 hv1 HR.out.h.satp.1 HR.out.h.satp.2 hpk.1 hpk.2 hg.mode ⟨hk0,hk2⟩).mono ?_);rintro e v3 ⟨pa,code,rfl,hcode,hans,hset,hkp⟩;have l1:=(cQ HA.out.1.1).2.2;have l2:=(cQ HA.out.1.2.1).2.2;have l3:=(cQ HA.out.1.2.2.1).2.2;simp only at l1 l2 l3;have HP3:=hid (hkp.heap HP1.out HD.out.pi HD.out.pdd HD.out.pp);have HF3:=hid (hkp.heap HF1.out (by omega) (by omega) (by omega));have HFin:Hid ((code=1∨code=2∨code=3)∧(aT false pick r.h kind va).1=(if code=1 then 0 else if code=2 then eU kind else bO kind,pa)∧cA m pb base pick (aT false pick r.h kind va).2 v3∧Kp (cX m pb) w v3):=
  ⟨hcode,hans,⟨hset.2.1,HP3.out⟩,(Kp.of_below _ n2).trans (Kp.of_keeps hkp (.inl rfl) (.inr (.inl rfl)) (.inr (.inr (.inl rfl))))⟩
 clear hcode hans hset hkp S2 n2 hk hg l1 l2 l3;refine .inl ⟨_,rfl,fun _=>⟨⟨v3,HP3.out,HF3.out⟩,rfl⟩,?_⟩
 go_frame
 refine eO (fuel:=1) ⟨⟨v3,HP3.out,HF3.out⟩,rfl⟩ [13,14,15] ?_;simp only [gh,List.getElem?_toArray,List.getElem?_cons_zero,List.getElem?_cons_succ];repeat (go_big_quiet_step (fail))
 refine wpQuiet_nil ?_;refine iR 16 11 (cu code) rfl (fun _=>⟨⟨v3,HP3.out,HF3.out⟩,rfl⟩) ?_
 go_frame
 refine dc ?_;clear J0 J1 I0 I1 I2 I3 ne;go_wp2_with fail;exact bodyPost_ret (v:=.tuple #[VU pa,cu code]) (by simp [results,Tryz.results211,go_sem]) rfl ⟨pa,code,rfl,HFin.out⟩
theorem qH {f:FenceM} (h1:f.hasVa=true) (h2:cR f.va=false) (es:List EntM):es.map (cS f)=es:=by
 have:∀e,cS f e=e:=fun e=>by unfold cS eD;simp [h1,h2]
 rw [show cS f=id from funext this,List.map_id]
theorem dD {w w':World} {e:TypeId} {size base n g c r:Nat} {cs:List Value} (h:w.ownsRow base e size (SL g n c) n cs) (hg:w.grownBy w' (some r)) (hne:g≠r):w'.ownsRow base e size (SL g n c) n cs:=
 (Kp.of_gb (O:=fun i=>i=r) hg rfl).own h fun g' e he=>hne (by
  have:g=g':=by simpa [Value.ownBlock] using e
  exact this.trans he)
def GP (z0 z1:Nat):Prop:=∀(X:Nat->Prop) (f:FenceM) (cv:Value) (b o g n base:Nat) (es:List EntM) (w:World) (hn:es.length=n) (hn1:n<=1048576) (hbl:b<w.heap.size) (hbg:b≠g) (hv:inU f.va) (hcv:CovFree X w cv f) (hX:X g)
 (c2:w.cell? ⟨b,o+2,none⟩=some (SL g n n)) (ho:w.ownsRow base z1 6 (SL g n n) n (aC es)) (hlv:∀(j:Nat) (x:EntM),es[j]?=some x->x.valid=true->0<=x.level∧x.level<=2),
 Calls Tryz.prog z0 #[PT b o,cv] w fun x w'=>x=.returned (.tuple #[])∧w'.ownsRow base z1 6 (SL g n n) n (aC (es.map (cS f)))∧w.grownBy w' (some g)
theorem flC:GP 215 216∧GP 216 221:=by
 refine ⟨?_,?_⟩
 ·intro X f cv b o g n base es w hn hn1 hbl hbg hv hcv hX c2 ho hlv;rcases hcv with ⟨h1,h2,rfl⟩ | ⟨h1,pf,pv,rfl,xf,xv,hF,hV⟩
  ·rw [qH h1 h2];exact qu.1 f.hasVa f.va f.hasAsid f.asid 0 0 b o g n base es 0 0 w hn hn1 hbl hbg c2 ho hlv
  ·exact qr.1 f.hasVa f.va f.hasAsid f.asid pf pv b o g n base es 0 0 w hn hn1 hbl hbg hv.1 hv.2 h1 (fun e=>xf (e ▸ hX)) (fun e=>xv (e ▸ hX)) hF hV c2 ho hlv
 ·intro X f cv b o g n base es w hn hn1 hbl hbg hv hcv hX c2 ho hlv;rcases hcv with ⟨h1,h2,rfl⟩ | ⟨h1,pf,pv,rfl,xf,xv,hF,hV⟩
  ·rw [qH h1 h2];exact qu.2 f.hasVa f.va f.hasAsid f.asid 0 0 b o g n base es 0 0 w hn hn1 hbl hbg c2 ho hlv
  ·exact qr.2 f.hasVa f.va f.hasAsid f.asid pf pv b o g n base es 0 0 w hn hn1 hbl hbg hv.1 hv.2 h1 (fun e=>xf (e ▸ hX)) (fun e=>xv (e ▸ hX)) hF hV c2 ho hlv
theorem zI {w w1 w2 w3:World} {base gi gd gp:Nat} {k:KM} {f:FenceM} (hk:cz k=true) (h:RowsAt w base gi gd gp k)
 (h1:w1.ownsRow base 216 6 (SL gi k.i.es.length k.i.es.length) k.i.es.length (aC (k.i.es.map (cS f)))) (h2:w2.ownsRow base 216 6 (SL gd k.d.es.length k.d.es.length) k.d.es.length (aC (k.d.es.map (cS f)))) (h3:w3.ownsRow base 221 6 (SL gp k.p.es.length k.p.es.length) k.p.es.length (aC (k.p.es.map (cS f))))
 (g2:w1.grownBy w2 (some gd)) (g3:w2.grownBy w3 (some gp)):RowsAt w3 base gi gd gp (iT k f):=by
 have hk':=hk;simp only [cz,Bool.and_eq_true] at hk';have n:=h.2.2.2;unfold iT gW;rw [if_pos (dS hk'.1.1),if_pos (dS hk'.1.2),if_pos (dS hk'.2)];refine ⟨?_,?_,?_,n⟩
 ·show w3.ownsRow base _ 6 (SL gi (k.i.es.map (cS f)).length (k.i.es.map (cS f)).length) (k.i.es.map (cS f)).length _;rw [List.length_map];exact dD (dD h1 g2 n.1) g3 n.2.1
 ·show w3.ownsRow base _ 6 (SL gd (k.d.es.map (cS f)).length (k.d.es.map (cS f)).length) (k.d.es.map (cS f)).length _;rw [List.length_map];exact dD h2 g3 n.2.2
 ·show w3.ownsRow base _ 6 (SL gp (k.p.es.map (cS f)).length (k.p.es.map (cS f)).length) (k.p.es.map (cS f)).length _;rw [List.length_map];exact h3
theorem Ft (X:Nat->Prop) (b base gi gd gp:Nat) (k:KM) (f:FenceM) (cv:Value) (w:World) (hS:SetM w b base gi gd gp k) (hk:cz k=true) (hl:k.i.es.length<=1048576∧k.d.es.length<=1048576∧k.p.es.length<=1048576) (hv:inU f.va) (hcv:CovFree X w cv f) (hx:X gi∧X gd∧X gp):
 Calls Tryz.prog 214 #[PT b 20,cv] w fun e w'=>e=.returned (.tuple #[])∧RowsAt w' base gi gd gp (iT k f)∧Kp X w w':=by
 have hk':=hk;simp only [cz,Bool.and_eq_true] at hk';have HKg:Hid _:=hk;have HV:Hid (aY k.i false=true∧aY k.d false=true∧aY k.p true=true):=⟨hk'.1.1,hk'.1.2,hk'.2⟩;have HS:=hid hS;have HL:Hid _:=hl;have HU:=hid hv;have HCv:=hid hcv;have HX:Hid _:=hx;clear hk hk' hS hl hv hcv hx;go_enter Tryz.func214,Tryz.ntmps214;go_wp2_with fail;refine (flC.1 X f cv b 20 gi _ base k.i.es w rfl HL.out.1 HS.out.lt HS.out.2.2.1 HU.out HCv.out HX.out.1 HS.out.cellI.2.2 HS.out.2.1.1 (eZ (dS HV.out.1))).mono ?_;rintro e w1 ⟨rfl,o1,g1⟩;have O1:Hid _:=o1;have G1:Hid _:=g1;have C1:=hid (HCv.out.kp (Kp.of_gb g1 HX.out.1));have A1:=hid (HS.out.1.gb g1 HS.out.2.2.1);have L1:=hid (ltl HS.out.lt g1.size);clear o1 g1;go_wp2_with fail;refine (flC.1 X f cv b 23 gd _ base k.d.es w1 rfl HL.out.2.1 L1.out HS.out.2.2.2.1 HU.out C1.out HX.out.2.1 (A1.out.cell 5 _ _ rfl rfl) (dD HS.out.2.1.2.1 G1.out HS.out.2.1.2.2.2.1.symm) (eZ (dS HV.out.2.1))).mono ?_;rintro e w2 ⟨rfl,o2,g2⟩;have O2:Hid _:=o2;have G2:Hid _:=g2;have C2:=hid (C1.out.kp (Kp.of_gb g2 HX.out.2.1));have A2:=hid (A1.out.gb g2 HS.out.2.2.2.1);have L2:=hid (ltl L1.out g2.size);clear o2 g2;go_wp2_with fail;refine (flC.2 X f cv b 26 gp _ base k.p.es w2 rfl HL.out.2.2 L2.out HS.out.2.2.2.2 HU.out C2.out HX.out.2.2 (A2.out.cell 8 _ _ rfl rfl) (dD (dD HS.out.2.1.2.2.1 G1.out HS.out.2.1.2.2.2.2.1.symm) G2.out HS.out.2.1.2.2.2.2.2.symm) (eZ (dS HV.out.2.2))).mono ?_;rintro e w3 ⟨rfl,o3,g3⟩;have FIN:Hid (RowsAt w3 base gi gd gp (iT k f)∧Kp X w w3):=⟨zI HKg.out HS.out.2.1 O1.out O2.out o3 G2.out g3,((Kp.of_gb G1.out HX.out.1).trans (Kp.of_gb G2.out HX.out.2.1)).trans (Kp.of_gb g3 HX.out.2.2)⟩;clear o3 g3;go_wp2_with fail;exact ⟨rfl,.tuple #[],by kernel_rfl,rfl,FIN.out⟩
theorem DH (m:MP) (pb base:Nat) (pick:Int) (hd:CDist m pb) (r:RunM) (cv:Value) (f:FenceM) (w:World) (hA:cA m pb base pick r.h.k w) (hC:CellsM w m.b (gX r.h.k m.gi m.gd m.gp)) (hcv:CovFree (cX m pb) w cv f) (hr:ROk r) (hv:inU f.va):
 Calls Tryz.prog 210 #[PT pb 0,cv] w fun e w'=>e=.returned (.tuple #[])∧cA m pb base pick (iT r.h.k f) w'∧Kp (cX m pb) w w':=by
 have HA:=hid hA;have HD:=hid hd;have hk:=hr.h.ks;have HF:Hid _:=Ft (fun i=>i=m.gi∨i=m.gd∨i=m.gp) m.b base m.gi m.gd m.gp r.h.k f cv w ⟨hC,hA.1,hd.bi,hd.bd,hd.bp⟩ hr.h.v.ks ⟨hk.1.2.2.2,hk.2.1.2.2.2,hk.2.2.2.2.2⟩ hv (by
  rcases hcv with h | ⟨h1,pf,pv,rfl,xf,xv,hF,hV⟩
  ·exact .inl h
  ·refine .inr ⟨h1,pf,pv,rfl,fun h=>xf ?_,fun h=>xv ?_,hF,hV⟩;all_goals (rcases h with h | h | h <;> simp [cX,h])) ⟨.inl rfl,.inr (.inl rfl),.inr (.inr rfl)⟩
 have c0:=ab hA.2 0 (v:=PT m.b 20) rfl;clear hA hC hcv hr hv hk hd;go_enter Tryz.func210,Tryz.ntmps210;go_wp2_with fail;refine Calls.mono HF.out ?_;rintro e w1 ⟨rfl,o1,k1⟩;have FIN:Hid (cA m pb base pick (iT r.h.k f) w1∧Kp (cX m pb) w w1):=⟨⟨o1,k1.heap HA.out.2 (by
  rintro (h | h | h)
  ·exact HD.out.pi h
  ·exact HD.out.pdd h
  ·exact HD.out.pp h)⟩,k1.mono (by
  rintro i (h | h | h)
  ·exact .inl h
  ·exact .inr (.inl h)
  ·exact .inr (.inr (.inl h)))⟩
 clear o1 k1 c0;go_wp2_with fail;exact ⟨rfl,.tuple #[],by kernel_rfl,rfl,FIN.out⟩
def Ds (z0 z1:Nat):Prop:=∀(num:Int) (b o g n base:Nat) (es:List EntM) (w:World) (hn:es.length=n) (hn0:0<n) (hn1:n<=1048576) (h0:0<=num) (h1:num<=255) (hbl:b<w.heap.size) (hbg:b≠g)
 (c2:w.cell? ⟨b,o+2,none⟩=some (SL g n n)) (ho:w.ownsRow base z1 6 (SL g n n) n (aC es)),
 Calls Tryz.prog z0 #[PT b o,VI num] w fun x w'=>x=.returned (.tuple #[])∧w'.ownsRow base z1 6 (SL g n n) n (aC (es.set (num%n).toNat cM))∧w.grownBy w' (some g)
theorem Dt:Ds 212 216∧Ds 213 221:=by
 refine ⟨?_,?_⟩;have mL:=trivial
 rotate_left
 have mP:=trivial
 rotate_left
 all_goals
  intro num b o g n base es w hn hn0 hn1 h0 h1 hbl hbg c2 ho;first
   | (replace mL:=mL;have HO:Hid (w.drew.ownsRow base 216 6 (SL g n n) n (aC es)):=aq ho (brf).drew)
   | (replace mP:=mP;have HO:Hid (w.drew.ownsRow base 221 6 (SL g n n) n (aC es)):=aq ho (brf).drew)
  have HN:Hid (es.length=n):=hn;obtain ⟨j,hj⟩:∃j:Nat,num%n=j:=⟨(num%n).toNat,by have:=Int.emod_nonneg num (show (n:Int)≠0 by omega);omega⟩;have hjn:j<n:=by
   have:=Int.emod_lt_of_pos num (show (0:Int)<n by omega);omega
  have hrem:num.tmod n=j:=by rw [Int.tmod_eq_emod_of_nonneg h0,hj]
  have HJ:Hid ((num%n).toNat=j):=by show _=_;rw [hj];rfl
  have hfl:(aC es).length=n*6:=by rw [ex,hn]
  have q0:=aQ HO.out (j*6) _ (geg (by omega));have q1:=aQ HO.out (j*6+1) _ (geg (by omega));have q2:=aQ HO.out (j*6+2) _ (geg (by omega));have q3:=aQ HO.out (j*6+3) _ (geg (by omega));have q4:=aQ HO.out (j*6+4) _ (geg (by omega));have q5:=aQ HO.out (j*6+5) _ (geg (by omega));generalize (aC es)[j*6]'_=y0 at q0;generalize (aC es)[j*6+1]'_=y1 at q1;generalize (aC es)[j*6+2]'_=y2 at q2;generalize (aC es)[j*6+3]'_=y3 at q3;generalize (aC es)[j*6+4]'_=y4 at q4;generalize (aC es)[j*6+5]'_=y5 at q5;have s0:=bL HO.out (j*6);have s1:=bL HO.out (j*6+1);have s2:=bL HO.out (j*6+2);have s3:=bL HO.out (j*6+3);have s4:=bL HO.out (j*6+4);have s5:=bL HO.out (j*6+5);have c2':w.drew.cell? ⟨b,o+2,none⟩=some (SL g n n):=c2;have hw0:¬((n:Int)=0):=by omega
  have hwn:¬(n=0):=by omega
  have hwd:IntKind.i64.wrap (j:Int)=(j:Int):=(IntKind.wrap_i64 _).trans (by omega);clear ho hn hfl hj c2;first
   | (replace mL:=mL;go_enter Tryz.func212,Tryz.ntmps212)
   | (replace mP:=mP;go_enter Tryz.func213,Tryz.ntmps213)
  refine dl 12 (by kernel_rfl) (by kernel_rfl) ?_;simp only [List.take_succ_cons,List.take_zero,List.drop_succ_cons,List.drop_zero];have D:Hid (Bw w w.drew):=(brf).drew;generalize w.drew=u at D HO q0 q1 q2 q3 q4 q5 s0 s1 s2 s3 s4 s5 c2' |-;repeat still_step
  refine wpStill_nil ?_;go_wp2_with fail;refine ⟨rfl,.tuple #[],by kernel_rfl,rfl,?_,dY (lX (ao w (some g)) D.out) (au (au (au (au (au (au (ao u _) _ _) _ _) _ _) _ _) _ _) _ _)⟩;rw [HJ.out,ik _ _ _ (by rw [HN.out];exact hjn)];exact br (br (br (br (br (br HO.out _ _) _ _) _ _) _ _) _ _) _ _
theorem BD {w w1 w2 w3:World} {base gi gd gp:Nat} {k:KM} {z:Int} (h:RowsAt w base gi gd gp k)
 (h1:w1.ownsRow base 216 6 (SL gi k.i.es.length k.i.es.length) k.i.es.length (aC (k.i.es.set (z%k.i.es.length).toNat cM))) (h2:w2.ownsRow base 216 6 (SL gd k.d.es.length k.d.es.length) k.d.es.length (aC (k.d.es.set (z%k.d.es.length).toNat cM))) (h3:w3.ownsRow base 221 6 (SL gp k.p.es.length k.p.es.length) k.p.es.length (aC (k.p.es.set (z%k.p.es.length).toNat cM)))
 (g2:w1.grownBy w2 (some gd)) (g3:w2.grownBy w3 (some gp)):RowsAt w3 base gi gd gp ⟨bh k.i z,bh k.d z,bh k.p z⟩:=by
 have n:=h.2.2.2;refine ⟨?_,?_,?_,n⟩
 ·simp only [bh,List.length_set];exact dD (dD h1 g2 n.1) g3 n.2.1
 ·simp only [bh,List.length_set];exact dD h2 g3 n.2.2
 ·simp only [bh,List.length_set];exact h3
theorem Gf (X:Nat->Prop) (b base gi gd gp:Nat) (k:KM) (z:Int) (w:World) (hS:SetM w b base gi gd gp k) (hl0:0<k.i.es.length∧0<k.d.es.length∧0<k.p.es.length) (hl:k.i.es.length<=1048576∧k.d.es.length<=1048576∧k.p.es.length<=1048576) (h0:0<=z) (h1:z<=255) (hx:X gi∧X gd∧X gp):
 Calls Tryz.prog 193 #[PT b 20,VI z] w fun e w'=>e=.returned (.tuple #[])∧RowsAt w' base gi gd gp ⟨bh k.i z,bh k.d z,bh k.p z⟩∧Kp X w w':=by
 have HS:=hid hS;have HL:Hid _:=hl;have H0:Hid _:=hl0;have HX:Hid _:=hx;clear hS hl hl0 hx;go_enter Tryz.func193,Tryz.ntmps193;go_wp2_with fail;refine (Dt.1 z b 20 gi _ base k.i.es w rfl H0.out.1 HL.out.1 h0 h1 HS.out.lt HS.out.2.2.1 HS.out.cellI.2.2 HS.out.2.1.1).mono ?_;rintro e w1 ⟨rfl,o1,g1⟩;have O1:Hid _:=o1;have G1:Hid _:=g1;have A1:=hid (HS.out.1.gb g1 HS.out.2.2.1);have L1:=hid (ltl HS.out.lt g1.size);clear o1 g1;go_wp2_with fail;refine (Dt.1 z b 23 gd _ base k.d.es w1 rfl H0.out.2.1 HL.out.2.1 h0 h1 L1.out HS.out.2.2.2.1 (A1.out.cell 5 _ _ rfl rfl) (dD HS.out.2.1.2.1 G1.out HS.out.2.1.2.2.2.1.symm)).mono ?_;rintro e w2 ⟨rfl,o2,g2⟩;have O2:Hid _:=o2;have G2:Hid _:=g2;have A2:=hid (A1.out.gb g2 HS.out.2.2.2.1);have L2:=hid (ltl L1.out g2.size);clear o2 g2;go_wp2_with fail;refine (Dt.2 z b 26 gp _ base k.p.es w2 rfl H0.out.2.2 HL.out.2.2 h0 h1 L2.out HS.out.2.2.2.2 (A2.out.cell 8 _ _ rfl rfl) (dD (dD HS.out.2.1.2.2.1 G1.out HS.out.2.1.2.2.2.2.1.symm) G2.out HS.out.2.1.2.2.2.2.2.symm)).mono ?_;rintro e w3 ⟨rfl,o3,g3⟩;have FIN:Hid (RowsAt w3 base gi gd gp ⟨bh k.i z,bh k.d z,bh k.p z⟩∧Kp X w w3):=⟨BD HS.out.2.1 O1.out O2.out o3 G2.out g3,((Kp.of_gb G1.out HX.out.1).trans (Kp.of_gb G2.out HX.out.2.1)).trans (Kp.of_gb g3 HX.out.2.2)⟩;clear o3 g3;go_wp2_with fail;exact ⟨rfl,.tuple #[],by kernel_rfl,rfl,FIN.out⟩
def cI (m:MP) (pb base:Nat) (k:KM) (w:World):Prop:=∃pick,cA m pb base pick k w
theorem pY {t:TlbM} {p:Bool} (h:aY t p=true):0<t.es.length:=by
 obtain ⟨hs,h1,h4,hl⟩:=fS h;rcases hs with e | e | e | e <;> (rw [e] at hl;omega)
theorem Du (m:MP) (pb base:Nat) (pick p0:Int) (hd:CDist m pb) (h0:HartM) (w:World) (hA:cA m pb base p0 h0.k w) (hC:CellsM w m.b (gX h0.k m.gi m.gd m.gp)) (hbp:m.b≠pb) (hh:HOk h0) (hpk:0<=pick∧pick<=255):
 Calls Tryz.prog 209 #[PT pb 0,VI pick] w fun e w'=>e=.returned (.tuple #[])∧cA m pb base pick (eR false pick h0.k) w'∧Kp (cX m pb) w w':=by
 have hk:=hh.ks;have hv:=hh.v.ks;simp only [cz,Bool.and_eq_true] at hv;have g1:=au (ao w (some pb)) 1 (VI pick);have e1:=bq (v:=VI pick) (i:=1) hA.2;have c0:=ab hA.2 0 (v:=PT m.b 20) rfl;have c1:=ab hA.2 1 (v:=VI p0) rfl;have f1:=ap hA.2 1;have R1:RowsAt (w.setCell (AD pb 1) (VI pick)) base m.gi m.gd m.gp h0.k:=⟨dD hA.1.1 g1 hd.pi.symm,dD hA.1.2.1 g1 hd.pdd.symm,dD hA.1.2.2.1 g1 hd.pp.symm,hA.1.2.2.2⟩;have HD:=hid hd;have HR1:Hid _:=R1;have HE1:Hid _:=e1;have HG1:Hid (Kp (cX m pb) w (w.setCell (AD pb 1) (VI pick))):=Kp.of_gb g1 (.inr (.inr (.inr rfl)));have HDr:Hid (128<=pick->Calls Tryz.prog 193 #[PT m.b 20,VI (pick-128)] (w.setCell (AD pb 1) (VI pick)) fun e w'=>e=.returned (.tuple #[])∧RowsAt w' base m.gi m.gd m.gp ⟨bh h0.k.i (pick-128),bh h0.k.d (pick-128),bh h0.k.p (pick-128)⟩∧Kp (fun i=>i=m.gi∨i=m.gd∨i=m.gp) (w.setCell (AD pb 1) (VI pick)) w'):=fun h=>
  Gf (fun i=>i=m.gi∨i=m.gd∨i=m.gp) m.b base m.gi m.gd m.gp h0.k (pick-128) _ ⟨hC.gb g1 hbp,R1,hd.bi,hd.bd,hd.bp⟩ ⟨pY hv.1.1,pY hv.1.2,pY hv.2⟩ ⟨hk.1.2.2.2,hk.2.1.2.2.2,hk.2.2.2.2.2⟩ (by omega) (by omega) ⟨.inl rfl,.inr (.inl rfl),.inr (.inr rfl)⟩
 obtain ⟨hp0,hp1⟩:=hpk;clear hA hC hh hk hv hd g1 e1 R1;go_enter Tryz.func209,Tryz.ntmps209;by_cases hp:128<=pick
 ·have d0:=ab HE1.out 0 rfl;go_wp2_with fail;generalize w.setCell (AD pb 1) (VI pick)=v1 at HR1 HE1 HG1 HDr d0 |-;refine Calls.mono (HDr.out hp) ?_;rintro e w1 ⟨rfl,o1,k1⟩;have FIN:Hid (cA m pb base pick (eR false pick h0.k) w1∧Kp (cX m pb) w w1):=⟨⟨by unfold eR;rw [if_pos ⟨hp,rfl⟩];exact o1,k1.heap HE1.out (by
   rintro (h | h | h)
   ·exact HD.out.pi h
   ·exact HD.out.pdd h
   ·exact HD.out.pp h)⟩,HG1.out.trans (k1.mono (by
   rintro i (h | h | h)
   ·exact .inl h
   ·exact .inr (.inl h)
   ·exact .inr (.inr (.inl h))))⟩
  clear o1 k1 c0 c1 f1 d0;go_wp2_with fail;exact ⟨rfl,.tuple #[],by kernel_rfl,rfl,FIN.out⟩
 ·have FIN:Hid (cA m pb base pick (eR false pick h0.k) (w.setCell (AD pb 1) (VI pick))∧Kp (cX m pb) w (w.setCell (AD pb 1) (VI pick))):=⟨⟨by unfold eR;rw [if_neg (fun h=>hp h.1)];exact HR1.out,HE1.out⟩,HG1.out⟩;go_wp2_with fail;exact ⟨rfl,.tuple #[],by kernel_rfl,rfl,FIN.out⟩
theorem xK (m:MP) (pb base:Nat) (hd:CDist m pb) (hbp:m.b≠pb) (pick:Int) (hpk:0<=pick∧pick<=255) (h0:HartM):PathOk m false pick h0 (cX m pb) (cI m pb base h0.k) (fun w r=>cA m pb base pick r.h.k w):=by
 refine ⟨fun w w' r h _ hx=>h.frame hx,fun w w' ⟨p,h⟩ _ hx=>⟨p,h.frame hx⟩,fun w r r' h e _ _ _=>by rw [e];exact h,?_,?_,?_⟩
 ·intro w r sv kind va hA hC hs hc hr hk0 hk2 hv;rw [hd.pd,hd.px];refine ⟨_,_,xP pb w,fun args u=>zC args u,?_⟩;exact (Fg m pb base pick hd r sv kind va w hA hC (hs w (Kp.refl _ w)) hr hpk hk0 hk2 hv).mono fun e w' h=>h
 ·intro w r cv f hA hC hcv _ hr hv ha;rw [hd.pd,hd.px];refine ⟨_,_,vk pb w,fun args u=>xQ args u,?_⟩;exact (DH m pb base pick hd r cv f w hA hC hcv hr hv).mono fun e w' h=>h
 ·intro w hI hC hh;obtain ⟨p0,hA⟩:=hI;rw [hd.pd,hd.px];refine ⟨_,_,vl pb w,fun args u=>xR args u,?_⟩;exact (Du m pb base pick p0 hd h0 w hA hC hbp hh hpk).mono fun e w' h=>h
structure Path (m:MP) (plain:Bool) (base:Nat) (X:Nat->Prop) (PI:KM->World->Prop) (PA:Int->World->RunM->Prop):Prop where
 ok:∀pick h0,0<=pick∧pick<=255->PathOk m plain pick h0 X (PI h0.k) (PA pick)
 next:∀pick w r,PA pick w r->PI r.h.k w
 rows:∀k w,PI k w->RowsAt w base m.gi m.gd m.gp k
theorem Path.cached (m:MP) (pb base:Nat) (hd:CDist m pb) (hbp:m.b≠pb):Path m false base (cX m pb) (cI m pb base) (fun pick w r=>cA m pb base pick r.h.k w):=
 ⟨fun pick h0 hp=>xK m pb base hd hbp pick hp h0,fun pick w r h=>⟨pick,h⟩,fun k w h=>h.elim fun _ h=>h.1⟩
def pX (m:MP) (i:Nat):Prop:=i=m.gi∨i=m.gd∨i=m.gp
theorem pP {w w':World} {m:MP} {base:Nat} {k:KM} (h:RowsAt w base m.gi m.gd m.gp k) (hx:∀i,pX m i->w'.heap[i]?=w.heap[i]?):RowsAt w' base m.gi m.gd m.gp k:=
 ⟨kt h.1 (hx _ (.inl rfl)),kt h.2.1 (hx _ (.inr (.inl rfl))),kt h.2.2.1 (hx _ (.inr (.inr rfl))),h.2.2.2⟩
theorem jo {w w':World} {m:MP} {base:Nat} {k:KM} (h:RowsAt w base m.gi m.gd m.gp k) (n:Bw w w'):RowsAt w' base m.gi m.gd m.gp k:=h.keep n
theorem Path.plain (m:MP) (base:Nat) (hpd:m.pd=65) (hpx:m.px=.agg #[]):Path m true base (pX m) (fun k w=>RowsAt w base m.gi m.gd m.gp k) (fun _ w r=>RowsAt w base m.gi m.gd m.gp r.h.k):=by
 refine ⟨fun pick h0 hp=>⟨fun w w' r h _ hx=>pP h hx,fun w w' h _ hx=>pP h hx,fun w r r' h e _ _ _=>by rw [e];exact h,?_,?_,?_⟩,fun _ _ _ h=>h,fun _ _ h=>h⟩
 ·intro w r sv kind va hA _ hs hc hr hk0 hk2 hv;rw [hpd,hpx];refine ⟨_,_,wJ w,fun args u=>yY args u,?_⟩;refine (Ag r sv kind va w (hs w (Kp.refl _ w)) hr hv).mono ?_;rintro e w' ⟨rfl,n⟩;have h:=rI r.h.mem r.h.mode r.h.sum r.h.mxr r.h.satp kind va ⟨hk0,hk2⟩ hr.h.v.mode;refine ⟨_,_,rfl,h.2,?_,?_,Kp.of_below _ n⟩
  ·unfold aT;rw [if_pos rfl];exact h.1
  ·exact jo (m:=m) hA n
 ·intro w r cv f hA _ _ _ _ _ _;rw [hpd,hpx];refine ⟨_,_,uN w,fun args u=>wK args u,?_⟩;exact (CD cv w).mono fun e w' h=>⟨h.1,jo (m:=m) hA h.2,Kp.of_below _ h.2⟩
 ·intro w hI _ _;rw [hpd,hpx];refine ⟨_,_,uO w,fun args u=>qx args u,?_⟩;refine (wL pick w).mono fun e w' h=>⟨h.1,?_,Kp.of_below _ h.2⟩;have e:(bx true pick h0).h.k=h0.k:=by
   unfold bx eR;rw [if_neg (by simp)];rfl
  rw [e];exact jo (m:=m) hI h.2
section
open Go.RowKit Go.Maps
def wX (m:MP) (wb mb:Nat) (i:Nat):Prop:=i=m.gi∨i=m.gd∨i=m.gp∨i=wb∨i=mb
def WAt (w:World) (wb mb n:Nat) (c:Bool) (gm:List (cU × aP)):Prop:=w.heap[wb]?=some (.cells (wtA mb c) 67 (0,0))∧GMap w mb n gm
def wA (m:MP) (wb mb base:Nat) (h0:HartM) (gs0:List ay) (N:Nat) (w:World) (r:RunM):Prop:=
 RowsAt w base m.gi m.gd m.gp r.h.k∧∃c gm,WAt w wb mb (N+3*r.looks.length) c gm∧WJ h0 gs0 r c gm
def wI (m:MP) (wb mb base:Nat) (gs0:List ay) (N:Nat) (k:KM) (w:World):Prop:=
 RowsAt w base m.gi m.gd m.gp k∧∃gm,WAt w wb mb N false gm∧RelG gs0 gm
structure WDist (m:MP) (wb mb:Nat):Prop where
 pd:m.pd=61
 px:m.px=PT wb 0
 wi:wb≠m.gi
 wd:wb≠m.gd
 wp:wb≠m.gp
 mi:mb≠m.gi
 md:mb≠m.gd
 mp:mb≠m.gp
theorem WAt.same {w w':World} {wb mb n:Nat} {c:Bool} {gm:List (cU × aP)} (h:WAt w wb mb n c gm) (h1:w'.heap[wb]?=w.heap[wb]?) (h2:w'.heap[mb]?=w.heap[mb]?):WAt w' wb mb n c gm:=⟨h1.trans h.1,h.2.same h2⟩
theorem Ak {w w':World} {m:MP} {wb mb base:Nat} {k:KM} (hd:WDist m wb mb) (h:RowsAt w base m.gi m.gd m.gp k) (hk:Kp (fun i=>i=wb∨i=mb) w w'):RowsAt w' base m.gi m.gd m.gp k:=
 hk.rows h (fun e=>e.elim (fun e=>hd.wi e.symm) (fun e=>hd.mi e.symm)) (fun e=>e.elim (fun e=>hd.wd e.symm) (fun e=>hd.md e.symm)) (fun e=>e.elim (fun e=>hd.wp e.symm) (fun e=>hd.mp e.symm))
theorem Dk {m:MP} {wb mb:Nat} {w w':World} (h:Kp (fun i=>i=wb∨i=mb) w w'):Kp (wX m wb mb) w w':=h.mono fun i hi=>hi.elim (fun e=>.inr (.inr (.inr (.inl e)))) (fun e=>.inr (.inr (.inr (.inr e))))
theorem xu (wb:Nat) (w:World):(method 417 61 (PT wb 0) "loop.example/s0051/impl.phys").run Tryz.prog w=.ok (156,PT wb 0) w:=by kernel_rfl
theorem uU (wb:Nat) (w:World):(method 417 61 (PT wb 0) "loop.example/s0051/impl.fence").run Tryz.prog w=.ok (155,PT wb 0) w:=by kernel_rfl
theorem zn (args:Array Value) (w:World):(callFunc 156 args).run Tryz.prog w=.ok (.enter 156 args) w:=by kernel_rfl
theorem xx (args:Array Value) (w:World):(callFunc 155 args).run Tryz.prog w=.ok (.enter 155 args) w:=by kernel_rfl
theorem tB (b:Nat) (w:World):(method 417 61 (PT b 0) "loop.example/s0051/impl.begin").run Tryz.prog w=(do let r <-(do let p <-partAt (AD b 0) 0 0;pure ((65:TypeId),Place.var p));let v <-receiverAt r.1 r.2 false none;pure (154,v):Sem (FuncId × Value)).run Tryz.prog w:=by kernel_rfl
theorem tC (b:Nat) (w:World):(Instr.fieldAt 67 (PT b 0) 0).run Tryz.prog w=(do let a <-partAt (AD b 0) 0 0;pure (.pointer (some a)):Sem Value).run Tryz.prog w:=by kernel_rfl
theorem GA {w:World} {b:Nat} {A:Array Value} (h:w.heap[b]?=some (.cells A 67 (0,0))):(byteOf (AD b 0)).run Tryz.prog w=.ok 0 w:=by
 have e1:Tryz.prog.cellsOf 67=2:=by kernel_rfl
 have e2:byteOfCell Tryz.prog Tryz.prog.depth 67 0=some 0:=by kernel_rfl
 have hs:w.shape? b=some (67,A.size):=by simp [World.shape?,h]
 simp [byteOf,noView,viewAt,go_sem,hs,e1,e2]
theorem FP {w:World} {b:Nat} {A:Array Value} (h:w.heap[b]?=some (.cells A 67 (0,0))):(partAt (AD b 0) 0 0).run Tryz.prog w=.ok (AD b 0) w:=by
 have e:=GA h;simp [partAt,go_sem,e]
theorem EY {P:Program} {a:Act} {d:Option Tmp} {T ty:TypeId} {i:Nat} {x:Operand} {pos:String} {af:Array Edge} {g:Option (Nat × Bool)} {w:World} {b:Nat} {V:Value} (hx:a.eval x=PT b 0) (hl:(Instr.fieldAt T (PT b 0) i).run P w=.ok V w):
 (execOp a.eval { dst:=d,op:=.fieldAddr T x i,type:=ty,pos:=pos,after:=af,guard:=g }).run P w=.ok (.value V) w:=by
 unfold execOp;simp only [hx,Sem.run_bind,hl,Result.andThen_ok,Sem.run_pure]
theorem He {v:World} {b:Nat} {A:Array Value} (h:v.heap[b]?=some (.cells A 67 (0,0))):(Instr.fieldAt 67 (PT b 0) 0).run Tryz.prog v=.ok (PT b 0) v:=by
 rw [tC];simp [go_sem,FP h]
theorem Hf {v:World} {b:Nat} {A:Array Value} {T:TypeId} (h:v.heap[b]?=some (.cells A T (0,0))):(Instr.loadAt 65 (PT b 0)).run Tryz.prog v=.ok (.agg #[]) v:=
 eA (P:=Tryz.prog) (T:=65) h Tryz.underlying65 rfl (o:=0) (n:=0) [] (by kernel_rfl) (by simp) rfl
theorem Hg (b:Nat) (w:World):(receiverAt 65 (Place.var (AD b 0)) false none).run Tryz.prog w=(loadVar 65 (AD b 0)).run Tryz.prog w:=by kernel_rfl
theorem GB {v:World} {b:Nat} {x y z u:Value} (h:v.heap[b]?=some (.cells #[x,y,z,u] 110 (0,0))):(Instr.loadAt 110 (PT b 0)).run Tryz.prog v=.ok (.agg #[x,y,z,u]) v:=
 aW (P:=Tryz.prog) (T:=110) h Tryz.underlying110 rfl (by kernel_rfl)
def kf (wb mb n:Nat) (c:Bool) (gm:List (cU × aP)) (h:HartM) (kind va:Int) (v:World):Prop:=
 if (onM h.mode h.satp && cR va)=true then WAt v wb mb (n+3) (c || !fW gm (bD h.mem h.satp va).2.2.2 va (aN h.satp)) (jw va (aN h.satp) (fA h kind (bD h.mem h.satp va).2.2.2) gm) else WAt v wb mb n c gm
theorem Bo (wb mb n:Nat) (c:Bool) (gm:List (cU × aP)) (r:RunM) (sv:Value) (kind va:Int) (w:World) (hW:WAt w wb mb n c gm) (hn:n+3<1048576) (hs:SrcAt w sv r.h.mem) (hr:ROk r) (hne:wb≠mb) (hsrc:∀u,Kp (fun i=>i=wb∨i=mb) w u->SrcAt u sv r.h.mem) (hv:inU va):
 Calls Tryz.prog 156 #[PT wb 0,sv,jR r.h,VI kind,VU va] w fun e w'=>e=.returned (.tuple #[VU (gH r.h.mem r.h.mode r.h.sum r.h.mxr r.h.satp kind va).1,cu (gH r.h.mem r.h.mode r.h.sum r.h.mxr r.h.satp kind va).2])∧kf wb mb n c gm r.h kind va w'∧Kp (fun i=>i=wb∨i=mb) w w':=by
 obtain ⟨v1,Ev1,n1,H1,l1⟩:=al1 w #[VI r.h.mode,.bool r.h.sum,.bool r.h.mxr,VU r.h.satp] 110;have lW:=hpl hW.1;have HT:=hid (iu r.h.mode r.h.sum r.h.mxr r.h.satp v1 hr.h.satp.1 hr.h.satp.2);have HCn:=hid fun u=>gN va u hv.1 hv.2;have HWt:Hid (∀u,Bw w u->Calls Tryz.prog 159 #[PT wb 0,sv,jR r.h,VI kind,VU va] u fun e w'=>oG wb mb n c gm r.h kind va u e w'):=fun u hu=>AV wb mb n c gm r.h sv kind va u (ae hW.1 hu lW) (hW.2.keep hu) hn (hs.keep hu) hr.h.satp hv;have HPh:Hid (∀u,Kp (fun i=>i=wb∨i=mb) w u->Calls Tryz.prog 160 #[.agg #[],sv,jR r.h,VI kind,VU va] u fun e w'=>e=.returned (.tuple #[VU (gH r.h.mem r.h.mode r.h.sum r.h.mxr r.h.satp kind va).1,cu (gH r.h.mem r.h.mode r.h.sum r.h.mxr r.h.satp kind va).2])∧Bw u w'):=fun u hu=>Ag r sv kind va u (hsrc u hu) hr hv;have HW1:=hid hW;obtain ⟨⟨pa,fc⟩,hA⟩:∃A,gH r.h.mem r.h.mode r.h.sum r.h.mxr r.h.satp kind va=A:=⟨_,rfl⟩;rw [hA] at HPh |-;obtain ⟨fv,hfv⟩:∃fv,cu fc=fv:=⟨_,rfl⟩;simp only [hfv] at HPh |-;have FIN:Hid (∀v v':World,Hid (Kp (fun i=>i=wb∨i=mb) w v)->Hid (kf wb mb n c gm r.h kind va v)->Bw v v'->kf wb mb n c gm r.h kind va v'∧Kp (fun i=>i=wb∨i=mb) w v'):=fun v v' hk hl hb=>by
  refine ⟨?_,hk.out.trans (Kp.of_below _ hb)⟩;have:=hl.out;unfold kf at this |-;split
  ·rename_i hh;rw [if_pos hh] at this;exact ⟨ae this.1 hb (hpl this.1),this.2.keep hb⟩
  ·rename_i hh;rw [if_neg hh] at this;exact ⟨ae this.1 hb (hpl this.1),this.2.keep hb⟩
 have LK:Hid (∀v,kf wb mb n c gm r.h kind va v->∃c',v.heap[wb]?=some (.cells (wtA mb c') 67 (0,0))):=fun v hl=>by
  unfold kf at hl;split at hl
  ·exact ⟨_,hl.1⟩
  ·exact ⟨_,hl.1⟩
 clear hA hfv hW hs hr hsrc;unfold jR at HWt HPh |-;have LN:Hid (∀v,(onM r.h.mode r.h.satp && cR va)=false->WAt v wb mb n c gm->kf wb mb n c gm r.h kind va v):=fun v he hw=>by unfold kf;rw [if_neg (by rw [he];simp)];exact hw
 have LY:Hid (∀u v e,(onM r.h.mode r.h.satp && cR va)=true->oG wb mb n c gm r.h kind va u e v->kf wb mb n c gm r.h kind va v):=fun u v e he hw=>by unfold kf;rw [if_pos he];exact ⟨hw.2.1,hw.2.2.1⟩
 go_enter Tryz.func156,Tryz.ntmps156;go_upto_region 1 with fail;rw [Ev1.out];clear Ev1;obtain ⟨⟨c0,c1,c2,c3⟩,_⟩:=aO H1.out;go_wp2_with fail;refine Calls.mono HT.out ?_;rintro e v2 ⟨rfl,n2⟩;have n12:=bst n1 n2;have H2:=ah H1 n2;clear c0 c1 c2 c3 HT;obtain ⟨⟨c0,c1,c2,c3⟩,_⟩:=aO H2.out;cases hon:onM r.h.mode r.h.satp
 focus
  have KK:Hid (Kp (fun i=>i=wb∨i=mb) w v2):=Kp.of_below _ n12;have LL:Hid (kf wb mb n c gm r.h kind va v2):=LN.out v2 (by rw [hon];rfl) ⟨ae HW1.out.1 n12 lW,HW1.out.2.keep n12⟩;have HH:=H2;clear hon;go_upto_region 3 with fail;generalize v2=v3 at *
 rotate_left
 focus
  cases hcn:cR va
  focus
   have KK:Hid (Kp (fun i=>i=wb∨i=mb) w v2):=Kp.of_below _ n12;have LL:Hid (kf wb mb n c gm r.h kind va v2):=LN.out v2 (by rw [hcn,Bool.and_false]) ⟨ae HW1.out.1 n12 lW,HW1.out.2.keep n12⟩;have HH:=H2;have HC2:=hid (HCn.out v2);rw [hcn] at HC2;clear hon hcn HCn;go_wp2_with fail;refine Calls.mono HC2.out ?_;rintro e v3 ⟨rfl,rfl⟩;go_upto_region 3 with fail
  rotate_left
  focus
   have LL0:=hid fun v e hw=>LY.out v2 v e (by rw [hon,hcn];rfl) hw;have HC2:=hid (HCn.out v2);rw [hcn] at HC2;clear hon hcn HCn;go_wp2_with fail;refine Calls.mono HC2.out ?_;rintro e v3 ⟨rfl,rfl⟩;go_wp2_with fail;refine (HWt.out v3 n12).mono ?_;rintro e v4 ha;have LL:=hid (LL0.out v4 e ha);have KK:Hid (Kp (fun i=>i=wb∨i=mb) w v4):=(Kp.of_below _ n12).trans ha.2.2.2;have HH:Hid (v4.heap[w.heap.size]?=some (.cells #[VI r.h.mode,.bool r.h.sum,.bool r.h.mxr,VU r.h.satp] 110 (0,0))):=ha.2.2.2.heap H2.out (by have:=HW1.out.2.lt;omega);obtain ⟨rfl,_⟩:=ha;clear LL0 HC2 c0 c1 c2 c3 H2;go_upto_region 3 with fail;generalize v4=v3 at *
 all_goals
  obtain ⟨c',hw'⟩:=LK.out _ LL.out;have HW3:=hid hw';have HLp:=hid fun u (hu:Bw v3 u)=>Hf (ah HW3 hu).out;have HLf:=hid fun u (hu:Bw v3 u)=>He (ah HW3 hu).out;have HLc:=hid fun u (hu:Bw v3 u)=>GB (ah HH hu).out;clear hw';have hF:=bdr v3;refine ax (Bw v3) 12 ?_;refine aj 0 24 (PT wb 0) rfl hF ?_
  go_frame
  refine aj 1 25 (PT wb 0) rfl hF ?_
  go_frame
  refine aj 2 26 (PT wb 0) rfl hF ?_ (hy:=fun u hu=>EY rfl (HLf.out u hu))
  go_frame
  refine aj 3 27 _ rfl hF ?_ (hy:=fun u hu=>aD rfl (HLp.out u hu));refine aj 4 28 sv rfl hF ?_
  go_frame
  refine aj 5 29 _ rfl hF ?_ (hy:=fun u hu=>aD rfl (HLc.out u hu));refine aj 6 30 (VI kind) rfl hF ?_;refine aj 7 31 (VU va) rfl hF ?_
  go_frame
  refine du 8 32 rfl ((HPh.out _ (KK.out.trans (Kp.of_below _ hF))).mono ?_);rintro e v4 ⟨rfl,n4'⟩;have n4:=bst hF n4';refine ⟨_,rfl,fun _=>n4,?_⟩
  go_frame
  refine aj 9 33 (VU pa) rfl n4 ?_;refine aj 10 34 fv rfl n4 ?_
  go_frame
  refine aj 11 10 (VU pa) rfl n4 ?_
  go_frame
  refine kB 12 rfl ?_;have FF:=hid (FIN.out v3 v4 KK LL n4);clear HLp HLc n4 n4' hF;go_wp2_with fail;exact bodyPost_ret (v:=.tuple #[VU pa,fv]) (by simp [results,Tryz.results156,go_sem]) rfl ⟨rfl,FF.out⟩
theorem zo (X:Nat->Prop) (wb mb n:Nat) (c:Bool) (gm:List (cU × aP)) (cv:Value) (f:FenceM) (w:World) (hW:WAt w wb mb n c gm) (hX:X mb) (hxn:∀i,X i->i<w.heap.size) (hC:CovFree X w cv f) (hf:inU f.va):
 Calls Tryz.prog 155 #[PT wb 0,cv] w fun e w'=>e=.returned (.tuple #[])∧WAt w' wb mb n c (mX gm (fK f))∧w.grownBy w' (some mb):=by
 have hne:wb≠mb:=by
  obtain ⟨es,cl,h1⟩:=hW.2.blk;rintro rfl;rw [hW.1] at h1;cases h1
 have HC:=hid (zm X cv f mb n gm w hW.2 hX (fun h=>by have:=hxn _ h;omega) hC hf);have m0:=ab hW.1 0 (v:=.map (some mb)) rfl;have HW:=hid hW.1;have lW:=hpl hW.1;clear hW hC;go_enter Tryz.func155,Tryz.ntmps155;go_wp2_with fail;refine Calls.mono HC.out ?_;rintro e v2 ⟨rfl,hg,hgb⟩;have FF:Hid (WAt v2 wb mb n c (mX gm (fK f))∧w.grownBy v2 (some mb)):=⟨⟨aA HW.out hgb hne,hg⟩,hgb⟩;clear hg hgb;go_wp2_with fail;exact ⟨rfl,.tuple #[],by kernel_rfl,rfl,FF.out⟩
theorem uV (m:MP) (wb mb base:Nat) (hd:WDist m wb mb) (hne:wb≠mb) (hb:m.b≠wb∧m.b≠mb) (pick:Int) (h0:HartM) (gs0:List ay) (N:Nat) (hN:N+9<1048576):PathOk m true pick h0 (wX m wb mb) (wI m wb mb base gs0 N h0.k) (wA m wb mb base h0 gs0 N):=by
 have hsame:∀{w w':World} {k:KM},RowsAt w base m.gi m.gd m.gp k->(∀i,wX m wb mb i->w'.heap[i]?=w.heap[i]?)->RowsAt w' base m.gi m.gd m.gp k:=fun h hx=>pP (m:=m) h fun i hi=>hx i (hi.elim .inl fun h=>h.elim (fun h=>.inr (.inl h)) fun h=>.inr (.inr (.inl h)));have hwat:∀{w w':World} {n:Nat} {c:Bool} {gm:List (cU × aP)},WAt w wb mb n c gm->(∀i,wX m wb mb i->w'.heap[i]?=w.heap[i]?)->WAt w' wb mb n c gm:=fun h hx=>h.same (hx _ (.inr (.inr (.inr (.inl rfl))))) (hx _ (.inr (.inr (.inr (.inr rfl)))));refine ⟨fun w w' r ⟨h1,c,gm,h2,h3⟩ _ hx=>⟨hsame h1 hx,c,gm,hwat h2 hx,h3⟩,fun w w' ⟨h1,gm,h2,h3⟩ _ hx=>⟨hsame h1 hx,gm,hwat h2 hx,h3⟩,?_,?_,?_,?_⟩
 ·rintro w r r' ⟨h1,c,gm,h2,h3⟩ e1 e2 e3 e4;refine ⟨by rw [e1];exact h1,c,gm,by rw [e2];exact h2,?_⟩;have ea:∀gs,dX r' gs=dX r gs:=fun gs=>by unfold dX;rw [e3,e4]
  unfold WJ at h3 |-;simp only [e2,ea];exact h3
 ·rintro w r sv kind va ⟨h1,c,gm,h2,h3⟩ hC hs hc hr hk0 hk2 hv;rw [hd.pd,hd.px];refine ⟨_,_,xu wb w,fun args u=>zn args u,?_⟩;refine (Bo wb mb _ c gm r sv kind va w h2 (by have:=hc.few;omega) (hs w (Kp.refl _ w)) hr hne (fun u hu=>hs u (Dk hu)) hv).mono ?_
  ·rintro e w' ⟨rfl,hl,hk⟩;have h:=rI r.h.mem r.h.mode r.h.sum r.h.mxr r.h.satp kind va ⟨hk0,hk2⟩ hr.h.v.mode;refine ⟨_,_,rfl,h.2,?_,⟨Ak hd h1 hk,?_⟩,Dk hk⟩
   ·unfold aT;rw [if_pos rfl];exact h.1
   ·unfold kf at hl;have ln:N+3*(bf true pick r kind va).looks.length=N+3*r.looks.length+3:=by simp [bf];omega
    rw [ln];split at hl
    ·rename_i hh;simp only [Bool.and_eq_true] at hh;exact ⟨_,_,hl,WJ.look hc h3 hh.1 hh.2⟩
    ·rename_i hh;refine ⟨_,_,⟨hl.1,hl.2.mono (by omega)⟩,WJ.skip hc h3 ?_⟩;cases h1:onM r.h.mode r.h.satp
     ·exact .inl rfl
     ·cases h2:cR va
      ·exact .inr rfl
      ·simp [h1,h2] at hh
 ·rintro w r cv f ⟨h1,c,gm,h2,h3⟩ hC hcv hc hr hv ha;rw [hd.pd,hd.px];refine ⟨_,_,uU wb w,fun args u=>xx args u,?_⟩;have hx:∀i,wX m wb mb i->i<w.heap.size:=by
   rintro i (rfl | rfl | rfl | rfl | rfl)
   ·exact (cQ h1.1).2.2
   ·exact (cQ h1.2.1).2.2
   ·exact (cQ h1.2.2.1).2.2
   ·exact hpl h2.1
   ·exact h2.2.lt
  refine (zo _ wb mb _ c gm cv f w h2 (.inr (.inr (.inr (.inr rfl)))) hx hcv hv).mono ?_;rintro e w' ⟨rfl,hl,hg⟩;have hk:Kp (fun i=>i=wb∨i=mb) w w':=Kp.of_gb hg (.inr rfl);exact ⟨rfl,⟨Ak hd h1 hk,c,_,hl,WJ.fence hc h3 f⟩,Dk hk⟩
 ·rintro w ⟨h1,gm,h2,h3⟩ hC hh;rw [hd.pd,hd.px];refine ⟨_,.agg #[],(tB wb w).trans (by simp [go_sem,FP h2.1,Hg]),fun args u=>qx args u,?_⟩;refine (wL pick w).mono fun e w' h=>⟨h.1,?_,Kp.of_below _ h.2⟩;have e:(bx true pick h0).h.k=h0.k:=by
   unfold bx eR;rw [if_neg (by simp)];rfl
  refine ⟨by rw [e];exact jo (m:=m) h1 h.2,false,gm,⟨ae h2.1 h.2 (hpl h2.1),h2.2.keep h.2⟩,fun _=>⟨rfl,h3⟩,fun hj=>by cases hj⟩
end
end Go.Proofs.YthdgiakgepmabaaGreat
