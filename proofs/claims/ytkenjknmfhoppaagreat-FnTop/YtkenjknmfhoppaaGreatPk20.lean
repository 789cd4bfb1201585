import Derived.Test.YtkenjknmfhoppaaGreatPk19
namespace Go.Proofs.YtkenjknmfhoppaaGreat
open Go.RowKit
set_option linter.unusedVariables false
set_option maxHeartbeats 6400000
set_option maxRecDepth 20000
theorem kP {w w':World} {e:TypeId} {size base n g c:Nat} {cs:List Value} (h:w.ownsRow base e size (SL g n c) n cs) (hg:w'.heap[g]?=w.heap[g]?):w'.ownsRow base e size (SL g n c) n cs:=by
 obtain ⟨h1,h2⟩:=h;refine ⟨h1,?_⟩;rcases h2 with h2 | ⟨g',cap',cur,h2,hb,hh,r⟩
 ·exact .inl h2
 ·refine .inr ⟨g',cap',cur,h2,hb,?_,r⟩;have:g=g':=by
   simp only [Value.slice.injEq,Option.some.injEq,Addr.mk.injEq] at h2;exact h2.1.1
  subst this;rw [hg,hh]
def cX (m:MP) (pb:Nat) (i:Nat):Prop:=i=m.gi∨i=m.gd∨i=m.gp∨i=pb
def cA (m:MP) (pb base:Nat) (pick:Int) (k:KM) (w:World):Prop:=
 RowsAt w base m.gi m.gd m.gp k∧w.heap[pb]?=some (.cells #[PT m.b 20,VI pick] 211 (0,0))
theorem cA.frame {m:MP} {pb base:Nat} {pick:Int} {k:KM} {w w':World} (h:cA m pb base pick k w) (hx:∀i,cX m pb i->w'.heap[i]?=w.heap[i]?):cA m pb base pick k w':=
 ⟨⟨kP h.1.1 (hx _ (.inl rfl)),kP h.1.2.1 (hx _ (.inr (.inl rfl))),kP h.1.2.2.1 (hx _ (.inr (.inr (.inl rfl)))),h.1.2.2.2⟩,(hx _ (.inr (.inr (.inr rfl)))).trans h.2⟩
structure CDist (m:MP) (pb:Nat):Prop where
 pd:m.pd=209
 px:m.px=PT pb 0
 bi:m.b≠m.gi
 bd:m.b≠m.gd
 bp:m.b≠m.gp
 pi:pb≠m.gi
 pdd:pb≠m.gd
 pp:pb≠m.gp
theorem yT (pb:Nat) (w:World):(method 444 209 (PT pb 0) "loop.example/s0051/impl.phys").run Tryz.prog w=.ok (244,PT pb 0) w:=by kernel_rfl
theorem wK (pb:Nat) (w:World):(method 444 209 (PT pb 0) "loop.example/s0051/impl.fence").run Tryz.prog w=.ok (243,PT pb 0) w:=by kernel_rfl
theorem wL (pb:Nat) (w:World):(method 444 209 (PT pb 0) "loop.example/s0051/impl.begin").run Tryz.prog w=.ok (242,PT pb 0) w:=by kernel_rfl
theorem AF (args:Array Value) (w:World):(callFunc 244 args).run Tryz.prog w=.ok (.enter 244 args) w:=by kernel_rfl
theorem yU (args:Array Value) (w:World):(callFunc 243 args).run Tryz.prog w=.ok (.enter 243 args) w:=by kernel_rfl
theorem yV (args:Array Value) (w:World):(callFunc 242 args).run Tryz.prog w=.ok (.enter 242 args) w:=by kernel_rfl
theorem GU (m:MP) (pb base:Nat) (pick:Int) (hd:CDist m pb) (r:RunM) (sv:Value) (kind va:Int) (w:World) (hA:cA m pb base pick r.h.k w) (hC:CellsM w m.b (iu r.h.k m.gi m.gd m.gp)) (hs:SrcAt w sv r.h.mem) (hr:ROk r) (hpk:0<=pick∧pick<=255) (hk0:0<=kind) (hk2:kind<=2) (hv:inU va):
 Calls Tryz.prog 244 #[PT pb 0,sv,ki r.h,VI kind,VU va] w fun e w'=>∃pa code,e=.returned (.tuple #[VU pa,cK code])∧(code=1∨code=2∨code=3)∧(aV false pick r.h kind va).1=(if code=1 then 0 else if code=2 then fk kind else bY kind,pa)∧cA m pb base pick (aV false pick r.h kind va).2 w'∧Kp (cX m pb) w w':=by
 obtain ⟨v1,Ev1,F⟩:=ax1 w #[VI r.h.mode,.bool r.h.sum,.bool r.h.mxr,VU r.h.satp] 134;have HA:Hid _:=hA;have HC:Hid _:=hC;have HS:Hid _:=hs;have HR:Hid _:=hr;have HD:Hid _:=hd;have hpl:=(hpl hA.2);have hbp:=hA.2;obtain ⟨hv0,hv1⟩:=hv;clear hA hC hs hr hd;unfold ki;go_enter Tryz.func244,Tryz.ntmps244;go_upto_region 1 with fail;rw [Ev1.out];clear Ev1;obtain ⟨f1,f2,n1⟩:=F;have HP1:=hid (ae hbp n1 hpl);have HF1:Hid _:=f1;have HN1:Hid _:=n1;clear hbp f1 f2 n1;have J0:=fun (u:Has2 pb (.cells #[PT m.b 20,VI pick] 211 (0,0)) w.heap.size (.cells #[VI r.h.mode,.bool r.h.sum,.bool r.h.mxr,VU r.h.satp] 134 (0,0)))=>ab u.h 0 rfl;have J1:=fun (u:Has2 pb (.cells #[PT m.b 20,VI pick] 211 (0,0)) w.heap.size (.cells #[VI r.h.mode,.bool r.h.sum,.bool r.h.mxr,VU r.h.satp] 134 (0,0)))=>ab u.h 1 rfl;have I0:=fun (u:Has2 pb (.cells #[PT m.b 20,VI pick] 211 (0,0)) w.heap.size (.cells #[VI r.h.mode,.bool r.h.sum,.bool r.h.mxr,VU r.h.satp] 134 (0,0)))=>ab u.h' 0 rfl;have I1:=fun (u:Has2 pb (.cells #[PT m.b 20,VI pick] 211 (0,0)) w.heap.size (.cells #[VI r.h.mode,.bool r.h.sum,.bool r.h.mxr,VU r.h.satp] 134 (0,0)))=>ab u.h' 1 rfl;have I2:=fun (u:Has2 pb (.cells #[PT m.b 20,VI pick] 211 (0,0)) w.heap.size (.cells #[VI r.h.mode,.bool r.h.sum,.bool r.h.mxr,VU r.h.satp] 134 (0,0)))=>ab u.h' 2 rfl;have I3:=fun (u:Has2 pb (.cells #[PT m.b 20,VI pick] 211 (0,0)) w.heap.size (.cells #[VI r.h.mode,.bool r.h.sum,.bool r.h.mxr,VU r.h.satp] 134 (0,0)))=>ab u.h' 3 rfl;have ne:Nonempty (Has2 pb (.cells #[PT m.b 20,VI pick] 211 (0,0)) w.heap.size (.cells #[VI r.h.mode,.bool r.h.sum,.bool r.h.mxr,VU r.h.satp] 134 (0,0))):=⟨⟨v1,HP1.out,HF1.out⟩⟩;refine az (fun w'=>∃u:Has2 pb (.cells #[PT m.b 20,VI pick] 211 (0,0)) w.heap.size (.cells #[VI r.h.mode,.bool r.h.sum,.bool r.h.mxr,VU r.h.satp] 134 (0,0)),w'=u.w) 16 ?_;refine fe (fuel:=5) ⟨⟨v1.drew,HP1.out,HF1.out⟩,rfl⟩ [0,1,2,3,4,5,6,7,8,9,10,11] ?_;simp only [gM,List.getElem?_toArray,List.getElem?_cons_zero,List.getElem?_cons_succ];repeat (go_big_quiet_step (fail))
 refine wpQuiet_nil ?_;have n2:Bw w v1.drew:=bst HN1.out (brf).drew;have hk:=HR.out.h.ks;have hg:=HR.out.h.v;have S2:SetM v1.drew m.b base m.gi m.gd m.gp r.h.k:=⟨CellsM.keep HC.out n2,HA.out.1.keep n2,HD.out.bi,HD.out.bd,HD.out.bp⟩;refine eF 12 24 rfl ((IU m.b base m.gi m.gd m.gp r.h.k sv r.h.mem r.h.mode r.h.sum r.h.mxr r.h.satp kind va pick v1.drew S2 hg.ks hk.1.1 hk.2.1.1 hk.2.2.1 hk.1.2.2.2 hk.2.1.2.2.2 hk.2.2.2.2.2 (SrcAt.keep HS.out n2) hv0 hv1 HR.out.h.satp.1 HR.out.h.satp.2 hpk.1 hpk.2 hg.mode ⟨hk0,hk2⟩).mono ?_);rintro e v3 ⟨pa,code,rfl,hcode,hans,hset,hkp⟩;have l1:=(db HA.out.1.1).2.2;have l2:=(db HA.out.1.2.1).2.2;have l3:=(db HA.out.1.2.2.1).2.2;simp only at l1 l2 l3;have HP3:=hid (hkp.heap HP1.out HD.out.pi HD.out.pdd HD.out.pp);have HF3:=hid (hkp.heap HF1.out (by omega) (by omega) (by omega));have HFin:Hid ((code=1∨code=2∨code=3)∧(aV false pick r.h kind va).1=(if code=1 then 0 else if code=2 then fk kind else bY kind,pa)∧cA m pb base pick (aV false pick r.h kind va).2 v3∧Kp (cX m pb) w v3):=
  ⟨hcode,hans,⟨hset.2.1,HP3.out⟩,(Kp.of_below _ n2).trans (Kp.of_keeps hkp (.inl rfl) (.inr (.inl rfl)) (.inr (.inr (.inl rfl))))⟩
 clear hcode hans hset hkp S2 n2 hk hg l1 l2 l3;refine .inl ⟨_,rfl,fun _=>⟨⟨v3,HP3.out,HF3.out⟩,rfl⟩,?_⟩
 go_frame
 refine fe (fuel:=1) ⟨⟨v3,HP3.out,HF3.out⟩,rfl⟩ [13,14,15] ?_;simp only [gM,List.getElem?_toArray,List.getElem?_cons_zero,List.getElem?_cons_succ];repeat (go_big_quiet_step (fail))
 refine wpQuiet_nil ?_;refine ji 16 11 (cK code) rfl (fun _=>⟨⟨v3,HP3.out,HF3.out⟩,rfl⟩) ?_
 go_frame
 refine dJ ?_;clear J0 J1 I0 I1 I2 I3 ne;go_wp2_with fail;exact bodyPost_ret (v:=.tuple #[VU pa,cK code]) (by simp [results,Tryz.results244,go_sem]) rfl ⟨pa,code,rfl,HFin.out⟩
theorem rD {f:FenceM} (h1:f.hasVa=true) (h2:de f.va=false) (es:List EntM):es.map (df f)=es:=by
 have:∀e,df f e=e:=fun e=>by unfold df eS;simp [h1,h2]
 rw [show df f=id from funext this,List.map_id]
theorem dM {w w':World} {e:TypeId} {size base n g c r:Nat} {cs:List Value} (h:w.ownsRow base e size (SL g n c) n cs) (hg:w.grownBy w' (some r)) (hne:g≠r):w'.ownsRow base e size (SL g n c) n cs:=
 (Kp.of_gb (O:=fun i=>i=r) hg rfl).own h fun g' e he=>hne (by
  have:g=g':=by simpa [Value.ownBlock] using e
  exact this.trans he)
def Jm (z0 z1:Nat):Prop:=∀(X:Nat->Prop) (f:FenceM) (cv:Value) (b o g n base:Nat) (es:List EntM) (w:World) (hn:es.length=n) (hn1:n<=1048576) (hbl:b<w.heap.size) (hbg:b≠g) (hv:inU f.va) (hcv:CovFree X w cv f) (hX:X g)
 (c2:w.cell? ⟨b,o+2,none⟩=some (SL g n n)) (ho:w.ownsRow base z1 6 (SL g n n) n (aC es)) (hlv:∀(j:Nat) (x:EntM),es[j]?=some x->x.valid=true->0<=x.level∧x.level<=2),
 Calls Tryz.prog z0 #[PT b o,cv] w fun x w'=>x=.returned (.tuple #[])∧w'.ownsRow base z1 6 (SL g n n) n (aC (es.map (df f)))∧w.grownBy w' (some g)
theorem flC:Jm 248 246∧Jm 249 251:=by
 refine ⟨?_,?_⟩
 ·intro X f cv b o g n base es w hn hn1 hbl hbg hv hcv hX c2 ho hlv;rcases hcv with ⟨h1,h2,rfl⟩ | ⟨h1,pf,pv,rfl,xf,xv,hF,hV⟩
  ·rw [rD h1 h2];exact rj.1 f.hasVa f.va f.hasAsid f.asid 0 0 b o g n base es 0 0 w hn hn1 hbl hbg c2 ho hlv
  ·exact rf.1 f.hasVa f.va f.hasAsid f.asid pf pv b o g n base es 0 0 w hn hn1 hbl hbg hv.1 hv.2 h1 (fun e=>xf (e ▸ hX)) (fun e=>xv (e ▸ hX)) hF hV c2 ho hlv
 ·intro X f cv b o g n base es w hn hn1 hbl hbg hv hcv hX c2 ho hlv;rcases hcv with ⟨h1,h2,rfl⟩ | ⟨h1,pf,pv,rfl,xf,xv,hF,hV⟩
  ·rw [rD h1 h2];exact rj.2 f.hasVa f.va f.hasAsid f.asid 0 0 b o g n base es 0 0 w hn hn1 hbl hbg c2 ho hlv
  ·exact rf.2 f.hasVa f.va f.hasAsid f.asid pf pv b o g n base es 0 0 w hn hn1 hbl hbg hv.1 hv.2 h1 (fun e=>xf (e ▸ hX)) (fun e=>xv (e ▸ hX)) hF hV c2 ho hlv
theorem AO {w w1 w2 w3:World} {base gi gd gp:Nat} {k:KM} {f:FenceM} (hk:cS k=true) (h:RowsAt w base gi gd gp k)
 (h1:w1.ownsRow base 246 6 (SL gi k.i.es.length k.i.es.length) k.i.es.length (aC (k.i.es.map (df f)))) (h2:w2.ownsRow base 246 6 (SL gd k.d.es.length k.d.es.length) k.d.es.length (aC (k.d.es.map (df f)))) (h3:w3.ownsRow base 251 6 (SL gp k.p.es.length k.p.es.length) k.p.es.length (aC (k.p.es.map (df f))))
 (g2:w1.grownBy w2 (some gd)) (g3:w2.grownBy w3 (some gp)):RowsAt w3 base gi gd gp (jl k f):=by
 have hk':=hk;simp only [cS,Bool.and_eq_true] at hk';have n:=h.2.2.2;unfold jl ir;rw [if_pos (ep hk'.1.1),if_pos (ep hk'.1.2),if_pos (ep hk'.2)];refine ⟨?_,?_,?_,n⟩
 ·show w3.ownsRow base _ 6 (SL gi (k.i.es.map (df f)).length (k.i.es.map (df f)).length) (k.i.es.map (df f)).length _;rw [List.length_map];exact dM (dM h1 g2 n.1) g3 n.2.1
 ·show w3.ownsRow base _ 6 (SL gd (k.d.es.map (df f)).length (k.d.es.map (df f)).length) (k.d.es.map (df f)).length _;rw [List.length_map];exact dM h2 g3 n.2.2
 ·show w3.ownsRow base _ 6 (SL gp (k.p.es.map (df f)).length (k.p.es.map (df f)).length) (k.p.es.map (df f)).length _;rw [List.length_map];exact h3
theorem Ha (X:Nat->Prop) (b base gi gd gp:Nat) (k:KM) (f:FenceM) (cv:Value) (w:World) (hS:SetM w b base gi gd gp k) (hk:cS k=true) (hl:k.i.es.length<=1048576∧k.d.es.length<=1048576∧k.p.es.length<=1048576) (hv:inU f.va) (hcv:CovFree X w cv f) (hx:X gi∧X gd∧X gp):
 Calls Tryz.prog 247 #[PT b 20,cv] w fun e w'=>e=.returned (.tuple #[])∧RowsAt w' base gi gd gp (jl k f)∧Kp X w w':=by
 have hk':=hk;simp only [cS,Bool.and_eq_true] at hk';have HKg:Hid _:=hk;have HV:Hid (aY k.i false=true∧aY k.d false=true∧aY k.p true=true):=⟨hk'.1.1,hk'.1.2,hk'.2⟩;have HS:=hid hS;have HL:Hid _:=hl;have HU:=hid hv;have HCv:=hid hcv;have HX:Hid _:=hx;clear hk hk' hS hl hv hcv hx;go_enter Tryz.func247,Tryz.ntmps247;go_wp2_with fail;refine (flC.1 X f cv b 20 gi _ base k.i.es w rfl HL.out.1 HS.out.lt HS.out.2.2.1 HU.out HCv.out HX.out.1 HS.out.cellI.2.2 HS.out.2.1.1 (fu (ep HV.out.1))).mono ?_;rintro e w1 ⟨rfl,o1,g1⟩;have O1:Hid _:=o1;have G1:Hid _:=g1;have C1:=hid (HCv.out.kp (Kp.of_gb g1 HX.out.1));have A1:=hid (HS.out.1.gb g1 HS.out.2.2.1);have L1:=hid (ltl HS.out.lt g1.size);clear o1 g1;go_wp2_with fail;refine (flC.1 X f cv b 23 gd _ base k.d.es w1 rfl HL.out.2.1 L1.out HS.out.2.2.2.1 HU.out C1.out HX.out.2.1 (A1.out.cell 5 _ _ rfl rfl) (dM HS.out.2.1.2.1 G1.out HS.out.2.1.2.2.2.1.symm) (fu (ep HV.out.2.1))).mono ?_;rintro e w2 ⟨rfl,o2,g2⟩;have O2:Hid _:=o2;have G2:Hid _:=g2;have C2:=hid (C1.out.kp (Kp.of_gb g2 HX.out.2.1));have A2:=hid (A1.out.gb g2 HS.out.2.2.2.1);have L2:=hid (ltl L1.out g2.size);clear o2 g2;go_wp2_with fail;refine (flC.2 X f cv b 26 gp _ base k.p.es w2 rfl HL.out.2.2 L2.out HS.out.2.2.2.2 HU.out C2.out HX.out.2.2 (A2.out.cell 8 _ _ rfl rfl) (dM (dM HS.out.2.1.2.2.1 G1.out HS.out.2.1.2.2.2.2.1.symm) G2.out HS.out.2.1.2.2.2.2.2.symm) (fu (ep HV.out.2.2))).mono ?_;rintro e w3 ⟨rfl,o3,g3⟩;have FIN:Hid (RowsAt w3 base gi gd gp (jl k f)∧Kp X w w3):=⟨AO HKg.out HS.out.2.1 O1.out O2.out o3 G2.out g3,((Kp.of_gb G1.out HX.out.1).trans (Kp.of_gb G2.out HX.out.2.1)).trans (Kp.of_gb g3 HX.out.2.2)⟩;clear o3 g3;go_wp2_with fail;exact ⟨rfl,.tuple #[],by kernel_rfl,rfl,FIN.out⟩
theorem Fo (m:MP) (pb base:Nat) (pick:Int) (hd:CDist m pb) (r:RunM) (cv:Value) (f:FenceM) (w:World) (hA:cA m pb base pick r.h.k w) (hC:CellsM w m.b (iu r.h.k m.gi m.gd m.gp)) (hcv:CovFree (cX m pb) w cv f) (hr:ROk r) (hv:inU f.va):
 Calls Tryz.prog 243 #[PT pb 0,cv] w fun e w'=>e=.returned (.tuple #[])∧cA m pb base pick (jl r.h.k f) w'∧Kp (cX m pb) w w':=by
 have HA:=hid hA;have HD:=hid hd;have hk:=hr.h.ks;have HF:Hid _:=Ha (fun i=>i=m.gi∨i=m.gd∨i=m.gp) m.b base m.gi m.gd m.gp r.h.k f cv w ⟨hC,hA.1,hd.bi,hd.bd,hd.bp⟩ hr.h.v.ks ⟨hk.1.2.2.2,hk.2.1.2.2.2,hk.2.2.2.2.2⟩ hv (by
  rcases hcv with h | ⟨h1,pf,pv,rfl,xf,xv,hF,hV⟩
  ·exact .inl h
  ·refine .inr ⟨h1,pf,pv,rfl,fun h=>xf ?_,fun h=>xv ?_,hF,hV⟩;all_goals (rcases h with h | h | h <;> simp [cX,h])) ⟨.inl rfl,.inr (.inl rfl),.inr (.inr rfl)⟩
 have c0:=ab hA.2 0 (v:=PT m.b 20) rfl;clear hA hC hcv hr hv hk hd;go_enter Tryz.func243,Tryz.ntmps243;go_wp2_with fail;refine Calls.mono HF.out ?_;rintro e w1 ⟨rfl,o1,k1⟩;have FIN:Hid (cA m pb base pick (jl r.h.k f) w1∧Kp (cX m pb) w w1):=⟨⟨o1,k1.heap HA.out.2 (by
  rintro (h | h | h)
  ·exact HD.out.pi h
  ·exact HD.out.pdd h
  ·exact HD.out.pp h)⟩,k1.mono (by
  rintro i (h | h | h)
  ·exact .inl h
  ·exact .inr (.inl h)
  ·exact .inr (.inr (.inl h)))⟩
 clear o1 k1 c0;go_wp2_with fail;exact ⟨rfl,.tuple #[],by kernel_rfl,rfl,FIN.out⟩
def EY (z0 z1:Nat):Prop:=∀(num:Int) (b o g n base:Nat) (es:List EntM) (w:World) (hn:es.length=n) (hn0:0<n) (hn1:n<=1048576) (h0:0<=num) (h1:num<=255) (hbl:b<w.heap.size) (hbg:b≠g)
 (c2:w.cell? ⟨b,o+2,none⟩=some (SL g n n)) (ho:w.ownsRow base z1 6 (SL g n n) n (aC es)),
 Calls Tryz.prog z0 #[PT b o,VI num] w fun x w'=>x=.returned (.tuple #[])∧w'.ownsRow base z1 6 (SL g n n) n (aC (es.set (num%n).toNat cZ))∧w.grownBy w' (some g)
theorem EZ:EY 245 246∧EY 246 251:=by
 refine ⟨?_,?_⟩;have mL:=trivial
 rotate_left
 have mP:=trivial
 rotate_left
 all_goals
  intro num b o g n base es w hn hn0 hn1 h0 h1 hbl hbg c2 ho;first
   | (replace mL:=mL;have HO:Hid (w.drew.ownsRow base 246 6 (SL g n n) n (aC es)):=aq ho (brf).drew)
   | (replace mP:=mP;have HO:Hid (w.drew.ownsRow base 251 6 (SL g n n) n (aC es)):=aq ho (brf).drew)
  have HN:Hid (es.length=n):=hn;obtain ⟨j,hj⟩:∃j:Nat,num%n=j:=⟨(num%n).toNat,by have:=Int.emod_nonneg num (show (n:Int)≠0 by omega);omega⟩;have hjn:j<n:=by
   have:=Int.emod_lt_of_pos num (show (0:Int)<n by omega);omega
  have hrem:num.tmod n=j:=by rw [Int.tmod_eq_emod_of_nonneg h0,hj]
  have HJ:Hid ((num%n).toNat=j):=by show _=_;rw [hj];rfl
  have hfl:(aC es).length=n*6:=by rw [eN,hn]
  have q0:=aM HO.out (j*6) _ (geg (by omega));have q1:=aM HO.out (j*6+1) _ (geg (by omega));have q2:=aM HO.out (j*6+2) _ (geg (by omega));have q3:=aM HO.out (j*6+3) _ (geg (by omega));have q4:=aM HO.out (j*6+4) _ (geg (by omega));have q5:=aM HO.out (j*6+5) _ (geg (by omega));generalize (aC es)[j*6]'_=y0 at q0;generalize (aC es)[j*6+1]'_=y1 at q1;generalize (aC es)[j*6+2]'_=y2 at q2;generalize (aC es)[j*6+3]'_=y3 at q3;generalize (aC es)[j*6+4]'_=y4 at q4;generalize (aC es)[j*6+5]'_=y5 at q5;have s0:=bQ HO.out (j*6);have s1:=bQ HO.out (j*6+1);have s2:=bQ HO.out (j*6+2);have s3:=bQ HO.out (j*6+3);have s4:=bQ HO.out (j*6+4);have s5:=bQ HO.out (j*6+5);have c2':w.drew.cell? ⟨b,o+2,none⟩=some (SL g n n):=c2;have hw0:¬((n:Int)=0):=by omega
  have hwn:¬(n=0):=by omega
  have hwd:IntKind.i64.wrap (j:Int)=(j:Int):=(IntKind.wrap_i64 _).trans (by omega);clear ho hn hfl hj c2;first
   | (replace mL:=mL;go_enter Tryz.func245,Tryz.ntmps245)
   | (replace mP:=mP;go_enter Tryz.func246,Tryz.ntmps246)
  refine dz 12 (by kernel_rfl) (by kernel_rfl) ?_;simp only [List.take_succ_cons,List.take_zero,List.drop_succ_cons,List.drop_zero];have D:Hid (Bw w w.drew):=(brf).drew;generalize w.drew=u at D HO q0 q1 q2 q3 q4 q5 s0 s1 s2 s3 s4 s5 c2' |-;repeat still_step
  refine wpStill_nil ?_;go_wp2_with fail;refine ⟨rfl,.tuple #[],by kernel_rfl,rfl,?_,ex (mH (ak w (some g)) D.out) (au (au (au (au (au (au (ak u _) _ _) _ _) _ _) _ _) _ _) _ _)⟩;rw [HJ.out,iG _ _ _ (by rw [HN.out];exact hjn)];exact bu (bu (bu (bu (bu (bu HO.out _ _) _ _) _ _) _ _) _ _) _ _
theorem Dn {w w1 w2 w3:World} {base gi gd gp:Nat} {k:KM} {z:Int} (h:RowsAt w base gi gd gp k)
 (h1:w1.ownsRow base 246 6 (SL gi k.i.es.length k.i.es.length) k.i.es.length (aC (k.i.es.set (z%k.i.es.length).toNat cZ))) (h2:w2.ownsRow base 246 6 (SL gd k.d.es.length k.d.es.length) k.d.es.length (aC (k.d.es.set (z%k.d.es.length).toNat cZ))) (h3:w3.ownsRow base 251 6 (SL gp k.p.es.length k.p.es.length) k.p.es.length (aC (k.p.es.set (z%k.p.es.length).toNat cZ)))
 (g2:w1.grownBy w2 (some gd)) (g3:w2.grownBy w3 (some gp)):RowsAt w3 base gi gd gp ⟨bj k.i z,bj k.d z,bj k.p z⟩:=by
 have n:=h.2.2.2;refine ⟨?_,?_,?_,n⟩
 ·simp only [bj,List.length_set];exact dM (dM h1 g2 n.1) g3 n.2.1
 ·simp only [bj,List.length_set];exact dM h2 g3 n.2.2
 ·simp only [bj,List.length_set];exact h3
theorem Iz (X:Nat->Prop) (b base gi gd gp:Nat) (k:KM) (z:Int) (w:World) (hS:SetM w b base gi gd gp k) (hl0:0<k.i.es.length∧0<k.d.es.length∧0<k.p.es.length) (hl:k.i.es.length<=1048576∧k.d.es.length<=1048576∧k.p.es.length<=1048576) (h0:0<=z) (h1:z<=255) (hx:X gi∧X gd∧X gp):
 Calls Tryz.prog 226 #[PT b 20,VI z] w fun e w'=>e=.returned (.tuple #[])∧RowsAt w' base gi gd gp ⟨bj k.i z,bj k.d z,bj k.p z⟩∧Kp X w w':=by
 have HS:=hid hS;have HL:Hid _:=hl;have H0:Hid _:=hl0;have HX:Hid _:=hx;clear hS hl hl0 hx;go_enter Tryz.func226,Tryz.ntmps226;go_wp2_with fail;refine (EZ.1 z b 20 gi _ base k.i.es w rfl H0.out.1 HL.out.1 h0 h1 HS.out.lt HS.out.2.2.1 HS.out.cellI.2.2 HS.out.2.1.1).mono ?_;rintro e w1 ⟨rfl,o1,g1⟩;have O1:Hid _:=o1;have G1:Hid _:=g1;have A1:=hid (HS.out.1.gb g1 HS.out.2.2.1);have L1:=hid (ltl HS.out.lt g1.size);clear o1 g1;go_wp2_with fail;refine (EZ.1 z b 23 gd _ base k.d.es w1 rfl H0.out.2.1 HL.out.2.1 h0 h1 L1.out HS.out.2.2.2.1 (A1.out.cell 5 _ _ rfl rfl) (dM HS.out.2.1.2.1 G1.out HS.out.2.1.2.2.2.1.symm)).mono ?_;rintro e w2 ⟨rfl,o2,g2⟩;have O2:Hid _:=o2;have G2:Hid _:=g2;have A2:=hid (A1.out.gb g2 HS.out.2.2.2.1);have L2:=hid (ltl L1.out g2.size);clear o2 g2;go_wp2_with fail;refine (EZ.2 z b 26 gp _ base k.p.es w2 rfl H0.out.2.2 HL.out.2.2 h0 h1 L2.out HS.out.2.2.2.2 (A2.out.cell 8 _ _ rfl rfl) (dM (dM HS.out.2.1.2.2.1 G1.out HS.out.2.1.2.2.2.2.1.symm) G2.out HS.out.2.1.2.2.2.2.2.symm)).mono ?_;rintro e w3 ⟨rfl,o3,g3⟩;have FIN:Hid (RowsAt w3 base gi gd gp ⟨bj k.i z,bj k.d z,bj k.p z⟩∧Kp X w w3):=⟨Dn HS.out.2.1 O1.out O2.out o3 G2.out g3,((Kp.of_gb G1.out HX.out.1).trans (Kp.of_gb G2.out HX.out.2.1)).trans (Kp.of_gb g3 HX.out.2.2)⟩;clear o3 g3;go_wp2_with fail;exact ⟨rfl,.tuple #[],by kernel_rfl,rfl,FIN.out⟩
def cI (m:MP) (pb base:Nat) (k:KM) (w:World):Prop:=∃pick,cA m pb base pick k w
theorem qO {t:TlbM} {p:Bool} (h:aY t p=true):0<t.es.length:=by
 obtain ⟨hs,h1,h4,hl⟩:=JM h;rcases hs with e | e | e | e <;> (rw [e] at hl;omega)
theorem Fa (m:MP) (pb base:Nat) (pick p0:Int) (hd:CDist m pb) (h0:HartM) (w:World) (hA:cA m pb base p0 h0.k w) (hC:CellsM w m.b (iu h0.k m.gi m.gd m.gp)) (hbp:m.b≠pb) (hh:HOk h0) (hpk:0<=pick∧pick<=255):
 Calls Tryz.prog 242 #[PT pb 0,VI pick] w fun e w'=>e=.returned (.tuple #[])∧cA m pb base pick (fi false pick h0.k) w'∧Kp (cX m pb) w w':=by
 have hk:=hh.ks;have hv:=hh.v.ks;simp only [cS,Bool.and_eq_true] at hv;have g1:=au (ak w (some pb)) 1 (VI pick);have e1:=bB (v:=VI pick) (i:=1) hA.2;have c0:=ab hA.2 0 (v:=PT m.b 20) rfl;have c1:=ab hA.2 1 (v:=VI p0) rfl;have f1:=ap hA.2 1;have R1:RowsAt (w.setCell (AD pb 1) (VI pick)) base m.gi m.gd m.gp h0.k:=⟨dM hA.1.1 g1 hd.pi.symm,dM hA.1.2.1 g1 hd.pdd.symm,dM hA.1.2.2.1 g1 hd.pp.symm,hA.1.2.2.2⟩;have HD:=hid hd;have HR1:Hid _:=R1;have HE1:Hid _:=e1;have HG1:Hid (Kp (cX m pb) w (w.setCell (AD pb 1) (VI pick))):=Kp.of_gb g1 (.inr (.inr (.inr rfl)));have HDr:Hid (128<=pick->Calls Tryz.prog 226 #[PT m.b 20,VI (pick-128)] (w.setCell (AD pb 1) (VI pick)) fun e w'=>e=.returned (.tuple #[])∧RowsAt w' base m.gi m.gd m.gp ⟨bj h0.k.i (pick-128),bj h0.k.d (pick-128),bj h0.k.p (pick-128)⟩∧Kp (fun i=>i=m.gi∨i=m.gd∨i=m.gp) (w.setCell (AD pb 1) (VI pick)) w'):=fun h=>
  Iz (fun i=>i=m.gi∨i=m.gd∨i=m.gp) m.b base m.gi m.gd m.gp h0.k (pick-128) _ ⟨hC.gb g1 hbp,R1,hd.bi,hd.bd,hd.bp⟩ ⟨qO hv.1.1,qO hv.1.2,qO hv.2⟩ ⟨hk.1.2.2.2,hk.2.1.2.2.2,hk.2.2.2.2.2⟩ (by omega) (by omega) ⟨.inl rfl,.inr (.inl rfl),.inr (.inr rfl)⟩
 obtain ⟨hp0,hp1⟩:=hpk;clear hA hC hh hk hv hd g1 e1 R1;go_enter Tryz.func242,Tryz.ntmps242;by_cases hp:128<=pick
 ·have d0:=ab HE1.out 0 rfl;go_wp2_with fail;generalize w.setCell (AD pb 1) (VI pick)=v1 at HR1 HE1 HG1 HDr d0 |-;refine Calls.mono (HDr.out hp) ?_;rintro e w1 ⟨rfl,o1,k1⟩;have FIN:Hid (cA m pb base pick (fi false pick h0.k) w1∧Kp (cX m pb) w w1):=⟨⟨by unfold fi;rw [if_pos ⟨hp,rfl⟩];exact o1,k1.heap HE1.out (by
   rintro (h | h | h)
   ·exact HD.out.pi h
   ·exact HD.out.pdd h
   ·exact HD.out.pp h)⟩,HG1.out.trans (k1.mono (by
   rintro i (h | h | h)
   ·exact .inl h
   ·exact .inr (.inl h)
   ·exact .inr (.inr (.inl h))))⟩
  clear o1 k1 c0 c1 f1 d0;go_wp2_with fail;exact ⟨rfl,.tuple #[],by kernel_rfl,rfl,FIN.out⟩
 ·have FIN:Hid (cA m pb base pick (fi false pick h0.k) (w.setCell (AD pb 1) (VI pick))∧Kp (cX m pb) w (w.setCell (AD pb 1) (VI pick))):=⟨⟨by unfold fi;rw [if_neg (fun h=>hp h.1)];exact HR1.out,HE1.out⟩,HG1.out⟩;go_wp2_with fail;exact ⟨rfl,.tuple #[],by kernel_rfl,rfl,FIN.out⟩
theorem yO (m:MP) (pb base:Nat) (hd:CDist m pb) (hbp:m.b≠pb) (pick:Int) (hpk:0<=pick∧pick<=255) (h0:HartM):PathOk m false pick h0 (cX m pb) (cI m pb base h0.k) (fun w r=>cA m pb base pick r.h.k w):=by
 refine ⟨fun w w' r h _ hx=>h.frame hx,fun w w' ⟨p,h⟩ _ hx=>⟨p,h.frame hx⟩,fun w r r' h e _ _ _=>by rw [e];exact h,?_,?_,?_⟩
 ·intro w r sv kind va hA hC hs hc hr hk0 hk2 hv;rw [hd.pd,hd.px];refine ⟨_,_,yT pb w,fun args u=>AF args u,?_⟩;exact (GU m pb base pick hd r sv kind va w hA hC (hs w (Kp.refl _ w)) hr hpk hk0 hk2 hv).mono fun e w' h=>h
 ·intro w r cv f hA hC hcv _ hr hv ha;rw [hd.pd,hd.px];refine ⟨_,_,wK pb w,fun args u=>yU args u,?_⟩;exact (Fo m pb base pick hd r cv f w hA hC hcv hr hv).mono fun e w' h=>h
 ·intro w hI hC hh;obtain ⟨p0,hA⟩:=hI;rw [hd.pd,hd.px];refine ⟨_,_,wL pb w,fun args u=>yV args u,?_⟩;exact (Fa m pb base pick p0 hd h0 w hA hC hbp hh hpk).mono fun e w' h=>h
def pU (kind:Int):List bH->List Value
 | []=>[]
 | p::ps=>.int .i64 kind::.int .u64 p.1::.int .u64 p.2.2::.int .u64 p.2.1::pU kind ps
def EQ (plain:Bool) (pick:Int) (O X:Nat->Prop) (m:MP) (PA:World->RunM->Prop) (ov:Value) (ol:List (Nat × Int)) (T:RunM × List bH) (kind:Int) (w:World) (e:Ending) (w':World):Prop:=
 ((T.1.cause=0∧∃g,e=.returned (SL g T.2.length T.2.length)∧w.heap.size<=g∧w'.heap[g]?=some (.cells (pU kind T.2).toArray 257 (0,0)))∨(T.1.cause≠0∧e=.panicked [me T.1.cause T.1.tval]))∧
 MW w' O X m ov T.1.h ol∧PA w' T.1∧Kp X w w'
theorem BE (va size:Int) (h:size<=64-va%64):cM va size=[(va,size,0)]:=by
 unfold cM;rw [if_neg (by omega)]
theorem GM (va size:Int) (h:64-va%64<size):cM va size=[(va,64-va%64,0),((va+(64-va%64))%18446744073709551616,size-(64-va%64),0)]:=by
 unfold cM;rw [if_pos h]
theorem ie (plain:Bool) (pick kind:Int) (r:RunM) (p:bH) (ps:List bH) (h:(aV plain pick r.h kind p.1).1.1≠0):ag plain pick kind r (p::ps)=(bS (bf plain pick r kind p.1) (aV plain pick r.h kind p.1).1.1 p.1,p::ps):=by
 rw [ag,if_neg h]
theorem fD (plain:Bool) (pick kind:Int) (r:RunM) (p:bH) (ps:List bH) (h:(aV plain pick r.h kind p.1).1.1=0):ag plain pick kind r (p::ps)=((ag plain pick kind (bf plain pick r kind p.1) ps).1,(p.1,p.2.1,(aV plain pick r.h kind p.1).1.2)::(ag plain pick kind (bf plain pick r kind p.1) ps).2):=by
 rw [ag,if_pos h]
theorem SameC.look {c:Nat} {h0:HartM} {r:RunM} (hc:SameC c r h0) (plain:Bool) (pick kind va:Int):SameC (c+1) (bf plain pick r kind va) h0:=⟨hc.mem,hc.mode,hc.sum,hc.mxr,hc.satp,hc.nf,by simp [bf];exact hc.few⟩
theorem rW {plain:Bool} {pick:Int} {h0:HartM} {O X:Nat->Prop} {PI:World->Prop} {PA:World->RunM->Prop} {m:MP} (hp:PathOk m plain pick h0 X PI PA) (hpk:0<=pick∧pick<=255) {ov:Value} {ol:List (Nat × Int)} (r:RunM) (kind va size:Int) (w:World)
 (k:MW w O X m ov r.h ol) (hA:PA w r) (hr:ROk r) (hc:SameC 1 r h0) (h0c:r.cause=0) (hk0:0<=kind) (hk2:kind<=2) (hv:inU va) (hs:1<=size∧size<=8):
 Calls Tryz.prog 114 #[PT m.b 0,VI kind,VU va,VU size] w fun e w'=>EQ plain pick O X m PA ov ol (ag plain pick kind r (cM va size)) kind w e w':=by
 have HK:Hid _:=k;have HA:Hid _:=hA;have HP:Hid _:=hp;have HR:Hid _:=hr;have HC:Hid _:=hc;have H0:Hid _:=h0c;obtain ⟨hv0,hv1⟩:=hv;obtain ⟨hs1,hs2⟩:=hs;clear k hA hp hr hc h0c;obtain ⟨lf,hlf⟩:∃lf:Int,64-va%64=lf:=⟨_,rfl⟩;have hl1:1<=lf:=by omega
 have hl2:lf<=64:=by omega
 have HL:Hid _:=hlf;have hw1:IntKind.u64.wrap (64-va%64)=lf:=by rw [IntKind.wrap_u64];omega
 clear hlf;by_cases hle:size<=lf
 ·rw [BE va size (by rw [HL.out];exact hle)];go_enter Tryz.func114,Tryz.ntmps114;go_wp2_with fail;refine (lS HP.out hpk r kind va size w HK.out HA.out HR.out HC.out.up hk0 hk2 ⟨hv0,hv1⟩).mono ?_;rintro e v1 ⟨he,k1,a1,n1⟩;by_cases hz:(aV plain pick r.h kind va).1.1=0
  ·rw [if_pos hz] at he;subst he;have HZ:Hid _:=hz;have K1:Hid _:=k1;have A1:Hid _:=a1;have N1:Hid _:=n1;clear hz k1 a1 n1;have F:=bX v1 #[VI kind,VU va,VU (aV plain pick r.h kind va).1.2,VU size] 257;go_wp2_with fail;obtain ⟨f1,_,f3⟩:=F;have sz:=N1.out.size;go_ret;have hT:ag plain pick kind r [(va,size,0)]=(bf plain pick r kind va,[(va,size,(aV plain pick r.h kind va).1.2)]):=by
    rw [fD _ _ _ _ _ _ HZ.out];rfl
   rw [hT];exact ⟨.inl ⟨H0.out,v1.heap.size,rfl,sz,f1⟩,K1.out.low f3,HP.out.keep A1.out (fun i hi=>(K1.out.xo i hi).2) (Kp.of_below (fun _=>False) f3) (fun _ _ h=>h),N1.out.trans (Kp.of_below X f3)⟩
  ·rw [if_neg hz] at he;subst he;have HZ:Hid _:=hz;clear hz;go_wp2_with fail;refine ⟨rfl,?_⟩;rw [ie _ _ _ _ _ _ HZ.out];exact ⟨.inr ⟨HZ.out,rfl⟩,k1,HP.out.congr _ _ _ a1 rfl rfl rfl rfl,n1⟩
 ·have hlt:lf<size:=by omega
  have hw2:IntKind.u64.wrap (size-lf)=size-lf:=by rw [IntKind.wrap_u64];omega
  obtain ⟨va2,hva2⟩:∃va2:Int,(va+lf)%18446744073709551616=va2:=⟨_,rfl⟩;have hw3:IntKind.u64.wrap (va+lf)=va2:=by rw [IntKind.wrap_u64];exact hva2
  have hu2:inU va2:=by rw [<-hva2];unfold inU;omega
  have hdd:=decide_eq_false (by omega);rw [GM va size (by rw [HL.out];exact hlt),HL.out,hva2];clear hva2 hle;go_enter Tryz.func114,Tryz.ntmps114;go_wp2_with fail;refine (lS HP.out hpk r kind va lf w HK.out HA.out HR.out HC.out.up hk0 hk2 ⟨hv0,hv1⟩).mono ?_;rintro e v1 ⟨he,k1,a1,n1⟩;by_cases hz:(aV plain pick r.h kind va).1.1=0
  ·rw [if_pos hz] at he;subst he;have HZ:Hid _:=hz;have K1:Hid _:=k1;have A1:Hid _:=a1;have N1:Hid _:=n1;have R1:Hid (ROk (bf plain pick r kind va)):=jD HR.out plain hpk ⟨hk0,hk2⟩ ⟨hv0,hv1⟩;have C1:Hid (SameC 2 (bf plain pick r kind va) h0):=SameC.look HC.out plain pick kind va;have H01:Hid ((bf plain pick r kind va).cause=0):=H0;clear hz k1 a1 n1;obtain ⟨pa,hpa⟩:∃pa,(aV plain pick r.h kind va).1.2=pa:=⟨_,rfl⟩;have HPa:Hid _:=hpa;rw [hpa];clear hpa;obtain ⟨R2,hR2⟩:∃R2,bf plain pick r kind va=R2:=⟨_,rfl⟩;have HR2:Hid _:=hR2;rw [hR2] at K1 A1 R1 C1 H01;clear hR2;go_upto_region 5 with fail;obtain ⟨v2,Ev2,F⟩:=ax1 v1 #[VI kind,VU va,VU pa,VU lf] 257;rw [Ev2.out];clear Ev2;obtain ⟨f1,f3,f2⟩:=F;have HF1:Hid _:=f1;have CT0:=fun (u:Has v1.heap.size (.cells #[VI kind,VU va,VU pa,VU lf] 257 (0,0)))=>ab u.h 0 rfl;have CT1:=fun (u:Has v1.heap.size (.cells #[VI kind,VU va,VU pa,VU lf] 257 (0,0)))=>ab u.h 1 rfl;have CT2:=fun (u:Has v1.heap.size (.cells #[VI kind,VU va,VU pa,VU lf] 257 (0,0)))=>ab u.h 2 rfl;have CT3:=fun (u:Has v1.heap.size (.cells #[VI kind,VU va,VU pa,VU lf] 257 (0,0)))=>ab u.h 3 rfl;have ne:Nonempty (Has v1.heap.size (.cells #[VI kind,VU va,VU pa,VU lf] 257 (0,0))):=⟨⟨v2,f1⟩⟩;have D2:=bdr v2;have n2:=bst f2 D2;clear f1;refine az (fun w'=>∃u:Has v1.heap.size (.cells #[VI kind,VU va,VU pa,VU lf] 257 (0,0)),w'=u.w) 11 ?_;refine fe (fuel:=3) ⟨⟨v2.drew,HF1.out⟩,rfl⟩ [0,1,2,3,4,5,6,7,8] ?_;simp only [gM,List.getElem?_toArray,List.getElem?_cons_zero,List.getElem?_cons_succ];repeat (go_big_quiet_step (fail))
   refine wpQuiet_nil ?_;refine eF 9 37 rfl ((lS HP.out hpk R2 kind va2 (size-lf) v2.drew (K1.out.low n2) (HP.out.keep A1.out (fun i hi=>(K1.out.xo i hi).2) (Kp.of_below (fun _=>False) n2) (fun _ _ h=>h)) R1.out C1.out hk0 hk2 hu2).mono ?_);rintro e v3 ⟨he,k3,a3,n3⟩;have nx:¬X v1.heap.size:=fun h=>by have:=(K1.out.xo _ h).2;omega
   have HF3:=Kp.hid (show Hid (v2.drew.heap[v1.heap.size]?=some (.cells #[VI kind,VU va,VU pa,VU lf] 257 (0,0))) from HF1) n3 nx;have N3:=hid ((N1.out.trans (Kp.of_below X n2)).trans n3);by_cases hz:(aV plain pick R2.h kind va2).1.1=0
   ·rw [if_pos hz] at he;subst he;have HZ2:Hid _:=hz;have K3:Hid _:=k3;have A3:Hid _:=a3;clear hz k3 a3;obtain ⟨pa2,hpa⟩:∃pa2,(aV plain pick R2.h kind va2).1.2=pa2:=⟨_,rfl⟩;have HPa2:Hid _:=hpa;rw [hpa];clear hpa;refine .inl ⟨_,rfl,fun _=>⟨⟨v3,HF3.out⟩,rfl⟩,?_⟩;have F:=bX v3 #[VI kind,VU va,VU pa,VU lf,VI kind,VU va2,VU pa2,VU (size-lf)] 257;obtain ⟨g1,g2,g3⟩:=F;have HF4:=ah HF3 g3
    go_frame
    refine ji 10 38 (SL v3.heap.size 2 2) (w':=v3.alloc (Obj.cells #[VI kind,VU va,VU pa,VU lf,VI kind,VU va2,VU pa2,VU (size-lf)] 257)) rfl (fun _=>⟨⟨_,HF4.out⟩,rfl⟩) ?_ (he:=by go_simp)
    go_frame
    refine ji 11 8 (SL v3.heap.size 2 2) rfl (fun _=>⟨⟨_,HF4.out⟩,rfl⟩) ?_
    go_frame
    refine dJ ?_;clear CT0 CT1 CT2 CT3 ne;generalize v3.alloc (Obj.cells #[VI kind,VU va,VU pa,VU lf,VI kind,VU va2,VU pa2,VU (size-lf)] 257)=v4 at g1 g2 g3 HF4 |-;have HG1:Hid _:=g1;have HG3:Hid _:=g3;clear g1 g2 g3;go_wp2;go_ret;have hT:ag plain pick kind r [(va,lf,0),(va2,size-lf,0)]=(bf plain pick R2 kind va2,[(va,lf,pa),(va2,size-lf,pa2)]):=by
     rw [fD _ _ _ _ _ _ HZ.out,HR2.out,fD _ _ _ _ _ _ HZ2.out,HPa.out,HPa2.out];rfl
    rw [hT];have sz:=N3.out.size;exact ⟨.inl ⟨H01.out,v3.heap.size,rfl,sz,HG1.out⟩,K3.out.low HG3.out,HP.out.keep A3.out (fun i hi=>(K3.out.xo i hi).2) (Kp.of_below (fun _=>False) HG3.out) (fun _ _ h=>h),N3.out.trans (Kp.of_below X HG3.out)⟩
   ·rw [if_neg hz] at he;subst he;refine .inr ⟨_,rfl,rfl,?_⟩;rw [fD _ _ _ _ _ _ HZ.out,HR2.out,ie _ _ _ _ _ _ hz];exact ⟨.inr ⟨hz,rfl⟩,k3,HP.out.congr _ _ _ a3 rfl rfl rfl rfl,N3.out⟩
  ·rw [if_neg hz] at he;subst he;have HZ:Hid _:=hz;clear hz;go_wp2_with fail;refine ⟨rfl,?_⟩;rw [ie _ _ _ _ _ _ HZ.out];exact ⟨.inr ⟨HZ.out,rfl⟩,k1,HP.out.congr _ _ _ a1 rfl rfl rfl rfl,n1⟩
theorem tE {O X:Nat->Prop} {m:MP} {ov:Value} {h:HartM} {ol:List (Nat × Int)} (kind va pa size:Int) (w:World) (k:MW w O X m ov h ol) (hp:inU pa) (hs:inU size):
 Calls Tryz.prog 141 #[PT m.b 0,.agg #[VI kind,VU va,VU pa,VU size]] w fun e w'=>
  e=(if fN h.mem.length pa size=true then .returned (.tuple #[]) else .panicked [me (bY kind) va])∧Bw w w':=by
 obtain ⟨v1,Ev1,F⟩:=ax1 w #[VI kind,VU va,VU pa,VU size] 257;have hb:=k.lt;have c18:=ab k.blk 18 (v:=SL m.gm h.mem.length h.mem.length) rfl;have HL:Hid (h.mem.length<=1048576):=by have:=k.len;show _<=_;omega
 obtain ⟨hp0,hp1⟩:=hp;obtain ⟨hs0,hs1⟩:=hs;clear k;generalize m.b=b at *;generalize m.gm=gm at *;generalize h.mem.length=n at *;obtain ⟨tb,htb⟩:∃tb,fN n pa size=tb:=⟨_,rfl⟩;have HTb:Hid _:=htb;rw [htb];clear htb;go_enter Tryz.func141,Tryz.ntmps141;go_upto_region 1 with fail;rw [Ev1.out];clear Ev1;obtain ⟨h1,hz,n1⟩:=F;have H1:Hid _:=h1;have hb1:b<v1.heap.size:=by omega
 have hw1:w.heap.size<v1.heap.size:=by omega
 have C18:=aN (Below.cell2 n1 c18 hb) hb1;have C2:=aN (ab h1 2 (v:=VU pa) rfl) hw1;have C3:=aN (ab h1 3 (v:=VU size) rfl) hw1;have HH:Hid (∀u:Lies v1,Calls Tryz.prog 82 #[SL gm n n,VU pa,VU size] u.w fun e w'=>e=.returned (.bool tb)∧w'=u.w):=fun u=>by
  have:=rT (some (AD gm 0)) n n pa size u.w HL.out hp0 hp1 hs0 hs1;rw [HTb.out] at this;exact this
 have ne:=eU v1;clear h1 hz c18;refine da (by kernel_rfl) (by kernel_rfl) ?_;repeat (go_big_quiet_step ((go_at_call 82;exact kD _ (HH.out _))))
 refine wpQuiet_nil ?_;rintro _ ⟨u,rfl⟩;have n2:=u.h;generalize u.w=v2 at n2 |-;have A2:=bst n1 n2;have H2:=ah H1 n2;clear C18 C2 C3 HH ne n2;cases tb
 ·go_upto_region 2 with fail;have hw2:=(hpl H2.out);have C0:=aN (ab H2.out 0 (v:=VI kind) rfl) hw2;have C1:=aN (ab H2.out 1 (v:=VU va) rfl) hw2;have HH:=hid fun (u:Lies v2)=>mD kind u.w;have ne:=eU v2;refine mf 7 (by kernel_rfl) (by kernel_rfl) ?_;simp only [List.take_succ_cons,List.take_zero,List.drop_succ_cons,List.drop_zero];repeat (go_big_quiet_step ((go_at_call 165;exact kD _ (HH.out _))))
  refine wpQuiet_nil ?_;rintro _ ⟨u,rfl⟩;have n3:=u.h;generalize u.w=v3 at n3 |-;have A3:=bst A2 n3;go_wp2_with fail;exact ⟨rfl,rfl,A3⟩
 ·go_wp2;go_end0;exact ⟨rfl,A2⟩
theorem Hc (x s:Int) (h:0<=s) (h1:s<=64) (w:World):(binOp .shl 29 (VU x) (VI s)).run Tryz.prog w=.ok (VU (x*2^s.toNat%18446744073709551616)) w:=by
 simp [binOp,go_sem,IntKind.wrap_u64];try omega
theorem tF (kind:Int):∀(ps:List bH) (j:Nat) (p:bH),ps[j]?=some p->(pU kind ps)[j*4]?=some (VI kind)∧(pU kind ps)[j*4+1]?=some (VU p.1)∧(pU kind ps)[j*4+2]?=some (VU p.2.2)∧(pU kind ps)[j*4+3]?=some (VU p.2.1)
 | [],j,p,h=>by simp at h
 | q::ps,0,p,h=>by
  simp only [List.getElem?_cons_zero,Option.some.injEq] at h;subst h;exact ⟨rfl,rfl,rfl,rfl⟩
 | q::ps,j+1,p,h=>by
  have ih:=tF kind ps j p (by simpa using h);rw [show (j+1)*4=j*4+1+1+1+1 by omega];simp only [pU];rw [show j*4+1+1+1+1+1=(j*4+1)+1+1+1+1 by omega,show j*4+1+1+1+1+2=(j*4+2)+1+1+1+1 by omega,show j*4+1+1+1+1+3=(j*4+3)+1+1+1+1 by omega];simpa only [List.getElem?_cons_succ] using ih
theorem eH:∀(a b:List bH),cw (a++b)=cw a+cw b
 | [],b=>by simp [cw]
 | p::a,b=>by simp [cw,eH a b];omega
theorem jN {ps:List bH} {j:Nat} {p:bH} (h:ps[j]?=some p):ps.take (j+1)=ps.take j++[p]:=by
 obtain ⟨hj,rfl⟩:=List.getElem?_eq_some_iff.1 h;exact List.take_succ_eq_append_getElem hj
theorem tG {ps:List bH} (j:Nat):cw (ps.take j)<=cw ps:=by
 have:=eH (ps.take j) (ps.drop j);rw [List.take_append_drop] at this;omega
theorem oO {mem:List Int}:∀{ps:List bH},ua mem ps->eA ps->(cN mem ps).length=cw ps
 | [],_,_=>rfl
 | p::ps,hi,hk=>by
  have h1:=hi p (by simp);have h2:=hk p (by simp);simp only [fN,decide_eq_true_eq] at h1;have h3:=h2.2.2;unfold inU at h3;simp only [cN,cw,List.length_append];rw [oO (fun q hq=>hi q (by simp [hq])) (fun q hq=>hk q (by simp [hq]))];simp;omega
theorem Cel.of_blk {e:TypeId} {w:World} {g:Nat} {zs:List Int} (h:Blk e w g zs) (hz:BytM zs):Cel w g 0 zs.length zs:=Cel.of_byt (Blk.byt h hz)
theorem GL (xs:List Int) (y:Int) (T:Nat) (hx:∀z∈xs,0<=z∧z<=255) (hl:xs.length=T) (hT:T<=7) (hy0:0<=y) (hy1:y<=255):
 bits .or .u64 (num xs) (IntKind.u64.wrap (y*2^(8*T)))=num (xs++[y]):=by
 have hb:=my xs T hx (by omega);rw [FC,hl];have e:((2:Int)^(8*T))=256^T:=by
  rw [Int.pow_mul];rfl
 rw [IntKind.wrap_u64,e];have hP:(256:Int)^T<=72057594037927936∧1<=(256:Int)^T:=by
  rcases (show T=0∨T=1∨T=2∨T=3∨T=4∨T=5∨T=6∨T=7 by omega) with rfl | rfl | rfl | rfl | rfl | rfl | rfl | rfl <;> decide
 have hm:0<=y*256^T∧y*256^T<=255*72057594037927936:=⟨Int.mul_nonneg hy0 (by omega),Int.mul_le_mul hy1 hP.1 (by omega) (by omega)⟩;rw [Int.emod_eq_of_lt hm.1 (by omega)];exact fo (8*T) (256^T) (num xs) y (by rw [Int.pow_mul];rfl) hb.1 hb.2 hy0 (by omega) (by omega)
def oI (mem:List Int) (ps:List bH) (kind:Int):Ending:=
 match fY mem ps with
 | none=>.returned (.int .u64 (jk mem ps))
 | some v=>.panicked [me (bY kind) v]
theorem Ay {O X:Nat->Prop} {m:MP} {ov:Value} {h:HartM} {ol:List (Nat × Int)} (kind:Int) (ps:List bH) (g n:Nat) (w:World) (k:MW w O X m ov h ol) (hn:ps.length=n) (hg:w.heap[g]?=some (.cells (pU kind ps).toArray 257 (0,0))) (hok:eA ps) (hsz:cw ps<=8) (hn2:n<=2):
 Calls Tryz.prog 113 #[PT m.b 0,SL g n n] w fun e w'=>e=oI h.mem ps kind∧Bw w w':=by
 have HK:Hid _:=k;have HG:Hid _:=hg;have HN:Hid _:=hn;have HOk:Hid _:=hok;have HSz:Hid _:=hsz;clear k hg hn hok hsz;go_enter Tryz.func113,Tryz.ntmps113;go_wp2;go_loopw [5,6,12] (fun vv sv iv wr=>∃j:Nat,j<=n∧vv=VU (num (cN h.mem (ps.take j)))∧sv=VI (8*(cw (ps.take j):Int))∧iv=VI j∧ua h.mem (ps.take j)∧Bw w wr) (fun _ _ iv _=>n-(intOf iv).toNat)
 case atStart=>exact ⟨0,Nat.zero_le _,rfl,rfl,rfl,fun p hp=>by simp at hp,brf⟩
 case round=>
  rename World=>wa;obtain ⟨j,hj,rfl,rfl,rfl,hi,hb⟩:=hrel;have HI:Hid _:=hi;have HB:Hid _:=hb;clear hi hb;by_cases hjn:j<n
  ·obtain ⟨p,hp⟩:∃p,ps[j]?=some p:=⟨ps[j]'(by rw [HN.out];exact hjn),geg _⟩;have HPj:Hid _:=hp;obtain ⟨c0,c1,c2,c3⟩:=tF kind ps j p hp;have HGr:=hid (ae HG.out HB.out (hpl HG.out));have d0:=ab HGr.out (j*4) (v:=VI kind) (by simpa using c0);have d1:=ab HGr.out (j*4+1) (v:=VU p.1) (by simpa using c1);have d2:=ab HGr.out (j*4+2) (v:=VU p.2.2) (by simpa using c2);have d3:=ab HGr.out (j*4+3) (v:=VU p.2.1) (by simpa using c3);have hpk:=HOk.out p (List.mem_of_getElem? hp);have HSj:Hid (cw (ps.take j)+p.2.1.toNat<=8):=by
    have:=tG (ps:=ps) (j+1);rw [jN hp,eH] at this;simp only [cw] at this;have:=HSz.out;show _<=_;omega
   have HKr:=hid (HK.out.low HB.out);clear c0 c1 c2 c3 hp;obtain ⟨va,size,pa⟩:=p;obtain ⟨hva,⟨hs1,hs2⟩,hpa0,hpa1⟩:=hpk;simp only at d0 d1 d2 d3 hs1 hs2 hpa0 hpa1 hva HSj;obtain ⟨v1,Ev1,F⟩:=ax1 wa #[VI kind,VU va,VU pa,VU size] 257;go_wp2_with fail;rw [Ev1.out];clear Ev1;obtain ⟨f1,f2,n1⟩:=F;have HF1:Hid _:=f1;clear f1 d0 d1 d2 d3;refine (tE kind va pa size v1 (HKr.out.low n1) ⟨hpa0,hpa1⟩ ⟨by omega,by omega⟩).mono ?_;rintro e v2 ⟨he,n2⟩;have B2:=hid (bst (bst HB.out n1) n2);have HF2:=ah HF1 n2;have K2:Hid (MW v2 O X m ov h ol):=(HKr.out.low n1).low n2;cases hins:fN h.mem.length pa size
   ·rw [hins] at he;simp only [Bool.false_eq_true,if_false] at he;subst he;have HIn:Hid _:=hins;clear hins;go_wp2_with fail;refine ⟨rfl,?_,B2.out⟩;have e:ps=ps.take j++(va,size,pa)::ps.drop (j+1):=by
     obtain ⟨hjl,hjp⟩:=List.getElem?_eq_some_iff.1 HPj.out;rw [<-hjp,<-List.drop_eq_getElem_cons hjl,List.take_append_drop]
    unfold oI;rw [e,JZ HI.out HIn.out]
   ·rw [hins] at he;simp only [if_true] at he;subst he;have HIn:Hid _:=hins;clear hins;obtain ⟨sn,hsn⟩:∃sn:Nat,size=sn:=⟨size.toNat,by omega⟩;obtain ⟨pn,hpn⟩:∃pn:Nat,pa=pn:=⟨pa.toNat,by omega⟩;subst hsn hpn;have hin2:=HIn.out;simp only [fN,decide_eq_true_eq] at hin2;have hml:=HK.out.len;rw [Int.toNat_natCast] at HSj;obtain ⟨S,hS⟩:∃S,cw (ps.take j)=S:=⟨_,rfl⟩;have HS:Hid _:=hS;rw [hS] at HSj |-;clear hS;obtain ⟨bs,hbs⟩:∃bs,cN h.mem (ps.take j)=bs:=⟨_,rfl⟩;have Hbs:Hid _:=hbs;have HbL:Hid (bs.length=S):=by
     show _=_;rw [<-hbs,oO HI.out (fun q hq=>HOk.out q (List.mem_of_mem_take hq)),HS.out]
    rw [hbs];clear hbs;have b3:=ab HF2.out 3 (v:=VU sn) rfl;have hSj:=HSj.out;go_wp2;go_loopw [5,6,21] (fun vv sv iv wr=>∃i:Nat,i<=sn∧vv=VU (num (bs++uz h.mem pn i))∧sv=VI (8*((S+i:Nat):Int))∧iv=VU i∧Bw v2 wr) (fun _ _ iv _=>sn-(intOf iv).toNat)
    case atStart=>exact ⟨0,Nat.zero_le _,by simp [uz],by simp,rfl,brf⟩
    case round=>
     obtain ⟨i,hi,rfl,rfl,rfl,hb⟩:=hrel;have HBi:Hid _:=hb;by_cases hil:i<sn
     ·have K3:Hid (MW wr O X m ov h ol):=K2.out.low HBi.out;have HF3:=ah HF2 HBi.out;obtain ⟨b,hbm⟩:∃b,m.b=b:=⟨_,rfl⟩;have hbl:=K3.out.lt;have c18:wr.cell? (AD m.b 18)=some (SL m.gm h.mem.length h.mem.length):=ab K3.out.blk 18 rfl;have hfl:=(hpl HF3.out);obtain ⟨y,hy⟩:∃y,h.mem[pn+i]?.getD 0=y:=⟨_,rfl⟩;have hyb:=HK.out.byt (pn+i);rw [hy] at hyb;have HY:Hid _:=hy;have hlt:pn+i<h.mem.length:=by omega
      have HPs:Hid _:=DN h.mem pn i hlt;have HRd:Hid (∀u:Lies wr,Calls Tryz.prog 142 #[SL m.gm h.mem.length h.mem.length,VU ((pn+i:Nat):Int)] u.w fun e w'=>e=.returned (VU y)∧w'=u.w):=fun u=>by
       have:=nl m.gm 0 h.mem.length h.mem.length (pn+i) h.mem u.w (Cel.of_blk (K3.out.low u.h).mem HK.out.byt) hlt (by omega);rw [HY.out] at this;exact this
      have C18:=aN c18 hbl;have CP:=aN (ab HF3.out 2 (v:=VU pn) rfl) hfl;have hsh:=Hc y (8*((S+i:Nat):Int)) (by omega) (by omega);have hxs:∀z∈bs++uz h.mem pn i,0<=z∧z<=255:=by
       intro z hz;rcases List.mem_append.1 hz with hz | hz
       ·rw [<-Hbs.out] at hz;exact jo HK.out.byt _ z hz
       ·exact dW HK.out.byt z (List.mem_of_mem_drop (List.mem_of_mem_take hz))
      have HOr:Hid _:=GL (bs++uz h.mem pn i) y (S+i) hxs (by rw [List.length_append,HbL.out,FB _ _ _ (by omega)]) (by omega) hyb.1 hyb.2;have hwr:IntKind.u64.wrap ((pn:Int)+(i:Int))=((pn+i:Nat):Int):=by rw [IntKind.wrap_u64];omega
      have ne:=eU wr;clear hxs c18 hbm hy hyb;generalize h.mem.length=ln at *;go_upto_region 9 with fail;refine da (by kernel_rfl) (by kernel_rfl) ?_;repeat (go_big_quiet_step ((go_at_call 142;exact kD _ (HRd.out _))))
      rw [HOr.out];refine wpQuiet_nil ?_;rintro _ ⟨u,rfl⟩;have n3:=u.h;generalize u.w=v3 at n3 |-;have B3:Hid _:=bst HBi.out n3;clear C18 CP HRd ne hsh HOr;go_wp2;go_roundw
      case rel=>
       refine ⟨i+1,by omega,?_,?_,by go_num,B3.out⟩
       ·rw [HPs.out,HY.out,List.append_assoc]
       ·congr 1
      case measure=>simp [intOf];omega
     ·have hie:i=sn:=by omega
      subst hie;have B3:Hid _:=bst B2.out HBi.out;go_wp2;go_roundw
      case rel=>
       have e1:=jN HPj.out;refine ⟨j+1,by omega,?_,?_,by go_num,?_,B3.out⟩
       ·rw [e1,kW,Hbs.out];simp [cN,uz]
       ·rw [e1,eH,HS.out];simp [cw]
       ·rw [e1];intro q hq;rcases List.mem_append.1 hq with hq | hq
        ·exact HI.out q hq
        ·rw [List.mem_singleton] at hq;subst hq;exact HIn.out
      case measure=>simp [intOf];omega
  ·have hje:j=n:=by omega
   subst hje;go_wp2;go_ret;refine ⟨?_,HB.out⟩;have e:=List.take_of_length_le (by rw [HN.out];exact nle);have hI:=HI.out;rw [e] at hI |-;unfold oI;rw [qj hI];rfl
end Go.Proofs.YtkenjknmfhoppaaGreat
