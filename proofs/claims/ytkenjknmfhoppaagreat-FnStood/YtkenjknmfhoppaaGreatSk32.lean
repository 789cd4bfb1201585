import Derived.Test.YtkenjknmfhoppaaGreatSk31
import Derived.Deep.AppendLies
namespace Go.Proofs.YtkenjknmfhoppaaGreat
open Go.RowKit
set_option linter.unusedVariables false
set_option maxHeartbeats 6400000
set_option maxRecDepth 20000
def CI (z0 z1:Nat):Prop:=∀(num:Int) (b o g n base:Nat) (es:List EntM) (w:World) (hn:es.length=n) (hn0:0<n) (hn1:n<=1048576) (h0:0<=num) (h1:num<=255) (hbl:b<w.heap.size) (hbg:b≠g)
 (c2:w.cell? ⟨b,o+2,none⟩=some (SL g n n)) (ho:w.ownsRow base z1 6 (SL g n n) n (aI es)),
 Calls Tryz.prog z0 #[PT b o,VI num] w fun x w'=>x=.returned (.tuple #[])∧w'.ownsRow base z1 6 (SL g n n) n (aI (es.set (num%n).toNat cH))∧w.grownBy w' (some g)
theorem CJ:CI 245 246∧CI 246 251:=by
 refine ⟨?_,?_⟩;have mL:=trivial
 rotate_left
 have mP:=trivial
 rotate_left
 all_goals
  intro num b o g n base es w hn hn0 hn1 h0 h1 hbl hbg c2 ho;first
   | (replace mL:=mL;have HO:Hid (w.drew.ownsRow base 246 6 (SL g n n) n (aI es)):=aj ho (brf).drew)
   | (replace mP:=mP;have HO:Hid (w.drew.ownsRow base 251 6 (SL g n n) n (aI es)):=aj ho (brf).drew)
  have HN:Hid (es.length=n):=hn;obtain ⟨j,hj⟩:∃j:Nat,num%n=j:=⟨(num%n).toNat,by have:=Int.emod_nonneg num (show (n:Int)≠0 by omega);omega⟩;have hjn:j<n:=by
   have:=Int.emod_lt_of_pos num (show (0:Int)<n by omega);omega
  have hrem:num.tmod n=j:=by rw [Int.tmod_eq_emod_of_nonneg h0,hj]
  have HJ:Hid ((num%n).toNat=j):=by show _=_;rw [hj];rfl
  have hfl:(aI es).length=n*6:=by rw [eN,hn]
  have q0:=aE HO.out (j*6) _ (geg (by omega));have q1:=aE HO.out (j*6+1) _ (geg (by omega));have q2:=aE HO.out (j*6+2) _ (geg (by omega));have q3:=aE HO.out (j*6+3) _ (geg (by omega));have q4:=aE HO.out (j*6+4) _ (geg (by omega));have q5:=aE HO.out (j*6+5) _ (geg (by omega));generalize (aI es)[j*6]'_=y0 at q0;generalize (aI es)[j*6+1]'_=y1 at q1;generalize (aI es)[j*6+2]'_=y2 at q2;generalize (aI es)[j*6+3]'_=y3 at q3;generalize (aI es)[j*6+4]'_=y4 at q4;generalize (aI es)[j*6+5]'_=y5 at q5;have s0:=aQ HO.out (j*6);have s1:=aQ HO.out (j*6+1);have s2:=aQ HO.out (j*6+2);have s3:=aQ HO.out (j*6+3);have s4:=aQ HO.out (j*6+4);have s5:=aQ HO.out (j*6+5);have c2':w.drew.cell? ⟨b,o+2,none⟩=some (SL g n n):=c2;have hw0:¬((n:Int)=0):=by omega
  have hwn:¬(n=0):=by omega
  have hwd:IntKind.i64.wrap (j:Int)=(j:Int):=(IntKind.wrap_i64 _).trans (by omega);clear ho hn hfl hj c2;first
   | (replace mL:=mL;go_enter Tryz.func245,Tryz.ntmps245)
   | (replace mP:=mP;go_enter Tryz.func246,Tryz.ntmps246)
  refine dq 12 (by kernel_rfl) (by kernel_rfl) ?_;simp only [List.take_succ_cons,List.take_zero,List.drop_succ_cons,List.drop_zero];have D:Hid (Bw w w.drew):=(brf).drew;generalize w.drew=u at D HO q0 q1 q2 q3 q4 q5 s0 s1 s2 s3 s4 s5 c2' |-;repeat still_step
  refine wpStill_nil ?_;go_wp2_with fail;refine ⟨rfl,.tuple #[],by kernel_rfl,rfl,?_,dY (fY (aw w (some g)) D.out) (aq (aq (aq (aq (aq (aq (aw u _) _ _) _ _) _ _) _ _) _ _) _ _)⟩;rw [HJ.out,iG _ _ _ (by rw [HN.out];exact hjn)];exact aF (aF (aF (aF (aF (aF HO.out _ _) _ _) _ _) _ _) _ _) _ _
theorem Bg {w w1 w2 w3:World} {base gi gd gp:Nat} {k:KM} {z:Int} (h:RowsAt w base gi gd gp k)
 (h1:w1.ownsRow base 246 6 (SL gi k.i.es.length k.i.es.length) k.i.es.length (aI (k.i.es.set (z%k.i.es.length).toNat cH))) (h2:w2.ownsRow base 246 6 (SL gd k.d.es.length k.d.es.length) k.d.es.length (aI (k.d.es.set (z%k.d.es.length).toNat cH))) (h3:w3.ownsRow base 251 6 (SL gp k.p.es.length k.p.es.length) k.p.es.length (aI (k.p.es.set (z%k.p.es.length).toNat cH)))
 (g2:w1.grownBy w2 (some gd)) (g3:w2.grownBy w3 (some gp)):RowsAt w3 base gi gd gp ⟨be k.i z,be k.d z,be k.p z⟩:=by
 have n:=h.2.2.2;refine ⟨?_,?_,?_,n⟩
 ·simp only [be,List.length_set];exact dH (dH h1 g2 n.1) g3 n.2.1
 ·simp only [be,List.length_set];exact dH h2 g3 n.2.2
 ·simp only [be,List.length_set];exact h3
theorem Fp (X:Nat->Prop) (b base gi gd gp:Nat) (k:KM) (z:Int) (w:World) (hS:SetM w b base gi gd gp k) (hl0:0<k.i.es.length∧0<k.d.es.length∧0<k.p.es.length) (hl:k.i.es.length<=1048576∧k.d.es.length<=1048576∧k.p.es.length<=1048576) (h0:0<=z) (h1:z<=255) (hx:X gi∧X gd∧X gp):
 Calls Tryz.prog 226 #[PT b 20,VI z] w fun e w'=>e=.returned (.tuple #[])∧RowsAt w' base gi gd gp ⟨be k.i z,be k.d z,be k.p z⟩∧Kp X w w':=by
 have HS:=hid hS;have HL:Hid _:=hl;have H0:Hid _:=hl0;have HX:Hid _:=hx;clear hS hl hl0 hx;go_enter Tryz.func226,Tryz.ntmps226;go_wp2_with fail;refine (CJ.1 z b 20 gi _ base k.i.es w rfl H0.out.1 HL.out.1 h0 h1 HS.out.lt HS.out.2.2.1 HS.out.cellI.2.2 HS.out.2.1.1).mono ?_;rintro e w1 ⟨rfl,o1,g1⟩;have O1:Hid _:=o1;have G1:Hid _:=g1;have A1:=hid (HS.out.1.gb g1 HS.out.2.2.1);have L1:=hid (ltl HS.out.lt g1.size);clear o1 g1;go_wp2_with fail;refine (CJ.1 z b 23 gd _ base k.d.es w1 rfl H0.out.2.1 HL.out.2.1 h0 h1 L1.out HS.out.2.2.2.1 (A1.out.cell 5 _ _ rfl rfl) (dH HS.out.2.1.2.1 G1.out HS.out.2.1.2.2.2.1.symm)).mono ?_;rintro e w2 ⟨rfl,o2,g2⟩;have O2:Hid _:=o2;have G2:Hid _:=g2;have A2:=hid (A1.out.gb g2 HS.out.2.2.2.1);have L2:=hid (ltl L1.out g2.size);clear o2 g2;go_wp2_with fail;refine (CJ.2 z b 26 gp _ base k.p.es w2 rfl H0.out.2.2 HL.out.2.2 h0 h1 L2.out HS.out.2.2.2.2 (A2.out.cell 8 _ _ rfl rfl) (dH (dH HS.out.2.1.2.2.1 G1.out HS.out.2.1.2.2.2.2.1.symm) G2.out HS.out.2.1.2.2.2.2.2.symm)).mono ?_;rintro e w3 ⟨rfl,o3,g3⟩;have FIN:Hid (RowsAt w3 base gi gd gp ⟨be k.i z,be k.d z,be k.p z⟩∧Kp X w w3):=⟨Bg HS.out.2.1 O1.out O2.out o3 G2.out g3,((Kp.of_gb G1.out HX.out.1).trans (Kp.of_gb G2.out HX.out.2.1)).trans (Kp.of_gb g3 HX.out.2.2)⟩;clear o3 g3;go_wp2_with fail;exact ⟨rfl,.tuple #[],by kernel_rfl,rfl,FIN.out⟩
def cI (m:MP) (pb base:Nat) (k:KM) (w:World):Prop:=∃pick,cA m pb base pick k w
theorem qz {t:TlbM} {p:Bool} (h:aR t p=true):0<t.es.length:=by
 obtain ⟨hs,h1,h4,hl⟩:=fI h;rcases hs with e | e | e | e <;> (rw [e] at hl;omega)
theorem CO (m:MP) (pb base:Nat) (pick p0:Int) (hd:CDist m pb) (h0:HartM) (w:World) (hA:cA m pb base p0 h0.k w) (hC:CellsM w m.b (iw h0.k m.gi m.gd m.gp)) (hbp:m.b≠pb) (hh:HOk h0) (hpk:0<=pick∧pick<=255):
 Calls Tryz.prog 242 #[PT pb 0,VI pick] w fun e w'=>e=.returned (.tuple #[])∧cA m pb base pick (fB false pick h0.k) w'∧Kp (cX m pb) w w':=by
 have hk:=hh.ks;have hv:=hh.v.ks;simp only [bJ,Bool.and_eq_true] at hv;have g1:=aq (aw w (some pb)) 1 (VI pick);have e1:=bD (v:=VI pick) (i:=1) hA.2;have c0:=ab hA.2 0 (v:=PT m.b 20) rfl;have c1:=ab hA.2 1 (v:=VI p0) rfl;have f1:=az hA.2 1;have R1:RowsAt (w.setCell (AD pb 1) (VI pick)) base m.gi m.gd m.gp h0.k:=⟨dH hA.1.1 g1 hd.pi.symm,dH hA.1.2.1 g1 hd.pdd.symm,dH hA.1.2.2.1 g1 hd.pp.symm,hA.1.2.2.2⟩;have HD:=hid hd;have HR1:Hid _:=R1;have HE1:Hid _:=e1;have HG1:Hid (Kp (cX m pb) w (w.setCell (AD pb 1) (VI pick))):=Kp.of_gb g1 (.inr (.inr (.inr rfl)));have HDr:Hid (128<=pick->Calls Tryz.prog 226 #[PT m.b 20,VI (pick-128)] (w.setCell (AD pb 1) (VI pick)) fun e w'=>e=.returned (.tuple #[])∧RowsAt w' base m.gi m.gd m.gp ⟨be h0.k.i (pick-128),be h0.k.d (pick-128),be h0.k.p (pick-128)⟩∧Kp (fun i=>i=m.gi∨i=m.gd∨i=m.gp) (w.setCell (AD pb 1) (VI pick)) w'):=fun h=>
  Fp (fun i=>i=m.gi∨i=m.gd∨i=m.gp) m.b base m.gi m.gd m.gp h0.k (pick-128) _ ⟨hC.gb g1 hbp,R1,hd.bi,hd.bd,hd.bp⟩ ⟨qz hv.1.1,qz hv.1.2,qz hv.2⟩ ⟨hk.1.2.2.2,hk.2.1.2.2.2,hk.2.2.2.2.2⟩ (by omega) (by omega) ⟨.inl rfl,.inr (.inl rfl),.inr (.inr rfl)⟩
 obtain ⟨hp0,hp1⟩:=hpk;clear hA hC hh hk hv hd g1 e1 R1;go_enter Tryz.func242,Tryz.ntmps242;by_cases hp:128<=pick
 ·have d0:=ab HE1.out 0 rfl;go_wp2_with fail;generalize w.setCell (AD pb 1) (VI pick)=v1 at HR1 HE1 HG1 HDr d0 |-;refine Calls.mono (HDr.out hp) ?_;rintro e w1 ⟨rfl,o1,k1⟩;have FIN:Hid (cA m pb base pick (fB false pick h0.k) w1∧Kp (cX m pb) w w1):=⟨⟨by unfold fB;rw [if_pos ⟨hp,rfl⟩];exact o1,k1.heap HE1.out (by
   rintro (h | h | h)
   ·exact HD.out.pi h
   ·exact HD.out.pdd h
   ·exact HD.out.pp h)⟩,HG1.out.trans (k1.mono (by
   rintro i (h | h | h)
   ·exact .inl h
   ·exact .inr (.inl h)
   ·exact .inr (.inr (.inl h))))⟩
  clear o1 k1 c0 c1 f1 d0;go_wp2_with fail;exact ⟨rfl,.tuple #[],by kernel_rfl,rfl,FIN.out⟩
 ·have FIN:Hid (cA m pb base pick (fB false pick h0.k) (w.setCell (AD pb 1) (VI pick))∧Kp (cX m pb) w (w.setCell (AD pb 1) (VI pick))):=⟨⟨by unfold fB;rw [if_neg (fun h=>hp h.1)];exact HR1.out,HE1.out⟩,HG1.out⟩;go_wp2_with fail;exact ⟨rfl,.tuple #[],by kernel_rfl,rfl,FIN.out⟩
theorem xJ (m:MP) (pb base:Nat) (hd:CDist m pb) (hbp:m.b≠pb) (pick:Int) (hpk:0<=pick∧pick<=255) (h0:HartM):PathOk m false pick h0 (cX m pb) (cI m pb base h0.k) (fun w r=>cA m pb base pick r.h.k w):=by
 refine ⟨fun w w' r h _ hx=>h.frame hx,fun w w' ⟨p,h⟩ _ hx=>⟨p,h.frame hx⟩,fun w r r' h e _ _ _=>by rw [e];exact h,?_,?_,?_⟩
 ·intro w r sv kind va hA hC hs hc hr hk0 hk2 hv;rw [hd.pd,hd.px];refine ⟨_,_,xO pb w,fun args u=>zu args u,?_⟩;exact (Eo m pb base pick hd r sv kind va w hA hC (hs w (Kp.refl _ w)) hr hpk hk0 hk2 hv).mono fun e w' h=>h
 ·intro w r cv f hA hC hcv _ hr hv ha;rw [hd.pd,hd.px];refine ⟨_,_,vK pb w,fun args u=>xP args u,?_⟩;exact (De m pb base pick hd r cv f w hA hC hcv hr hv).mono fun e w' h=>h
 ·intro w hI hC hh;obtain ⟨p0,hA⟩:=hI;rw [hd.pd,hd.px];refine ⟨_,_,vL pb w,fun args u=>xQ args u,?_⟩;exact (CO m pb base pick p0 hd h0 w hA hC hbp hh hpk).mono fun e w' h=>h
def pI (kind:Int):List bM->List Value
 | []=>[]
 | p::ps=>.int .i64 kind::.int .u64 p.1::.int .u64 p.2.2::.int .u64 p.2.1::pI kind ps
def Cz (plain:Bool) (pick:Int) (O X:Nat->Prop) (m:MP) (PA:World->RunM->Prop) (ov:Value) (ol:List (Nat × Int)) (T:RunM × List bM) (kind:Int) (w:World) (e:Ending) (w':World):Prop:=
 ((T.1.cause=0∧∃g,e=.returned (SL g T.2.length T.2.length)∧w.heap.size<=g∧w'.heap[g]?=some (.cells (pI kind T.2).toArray 257 (0,0)))∨(T.1.cause≠0∧e=.panicked [lK T.1.cause T.1.tval]))∧
 MW w' O X m ov T.1.h ol∧PA w' T.1∧Kp X w w'
theorem Ae (va size:Int) (h:size<=64-va%64):cJ va size=[(va,size,0)]:=by
 unfold cJ;rw [if_neg (by omega)]
theorem Ei (va size:Int) (h:64-va%64<size):cJ va size=[(va,64-va%64,0),((va+(64-va%64))%18446744073709551616,size-(64-va%64),0)]:=by
 unfold cJ;rw [if_pos h]
theorem ig (plain:Bool) (pick kind:Int) (r:RunM) (p:bM) (ps:List bM) (h:(bu plain pick r.h kind p.1).1.1≠0):ao plain pick kind r (p::ps)=(bY (bR plain pick r kind p.1) (bu plain pick r.h kind p.1).1.1 p.1,p::ps):=by
 rw [ao,if_neg h]
theorem fF (plain:Bool) (pick kind:Int) (r:RunM) (p:bM) (ps:List bM) (h:(bu plain pick r.h kind p.1).1.1=0):ao plain pick kind r (p::ps)=((ao plain pick kind (bR plain pick r kind p.1) ps).1,(p.1,p.2.1,(bu plain pick r.h kind p.1).1.2)::(ao plain pick kind (bR plain pick r kind p.1) ps).2):=by
 rw [ao,if_pos h]
theorem SameC.look {c:Nat} {h0:HartM} {r:RunM} (hc:SameC c r h0) (plain:Bool) (pick kind va:Int):SameC (c+1) (bR plain pick r kind va) h0:=⟨hc.mem,hc.mode,hc.sum,hc.mxr,hc.satp,hc.nf,by simp [bR];exact hc.few⟩
theorem rI {plain:Bool} {pick:Int} {h0:HartM} {O X:Nat->Prop} {PI:World->Prop} {PA:World->RunM->Prop} {m:MP} (hp:PathOk m plain pick h0 X PI PA) (hpk:0<=pick∧pick<=255) {ov:Value} {ol:List (Nat × Int)} (r:RunM) (kind va size:Int) (w:World)
 (k:MW w O X m ov r.h ol) (hA:PA w r) (hr:ROk r) (hc:SameC 1 r h0) (h0c:r.cause=0) (hk0:0<=kind) (hk2:kind<=2) (hv:inU va) (hs:1<=size∧size<=8):
 Calls Tryz.prog 114 #[PT m.b 0,VI kind,VU va,VU size] w fun e w'=>Cz plain pick O X m PA ov ol (ao plain pick kind r (cJ va size)) kind w e w':=by
 have HK:Hid _:=k;have HA:Hid _:=hA;have HP:Hid _:=hp;have HR:Hid _:=hr;have HC:Hid _:=hc;have H0:Hid _:=h0c;obtain ⟨hv0,hv1⟩:=hv;obtain ⟨hs1,hs2⟩:=hs;clear k hA hp hr hc h0c;obtain ⟨lf,hlf⟩:∃lf:Int,64-va%64=lf:=⟨_,rfl⟩;have hl1:1<=lf:=by omega
 have hl2:lf<=64:=by omega
 have HL:Hid _:=hlf;have hw1:IntKind.u64.wrap (64-va%64)=lf:=by rw [IntKind.wrap_u64];omega
 clear hlf;by_cases hle:size<=lf
 ·rw [Ae va size (by rw [HL.out];exact hle)];go_enter Tryz.func114,Tryz.ntmps114;go_wp2_with fail;refine (lj HP.out hpk r kind va size w HK.out HA.out HR.out HC.out.up hk0 hk2 ⟨hv0,hv1⟩).mono ?_;rintro e v1 ⟨he,k1,a1,n1⟩;by_cases hz:(bu plain pick r.h kind va).1.1=0
  ·rw [if_pos hz] at he;subst he;have HZ:Hid _:=hz;have K1:Hid _:=k1;have A1:Hid _:=a1;have N1:Hid _:=n1;clear hz k1 a1 n1;have F:=cw v1 #[VI kind,VU va,VU (bu plain pick r.h kind va).1.2,VU size] 257;go_wp2_with fail;obtain ⟨f1,_,f3⟩:=F;have sz:=N1.out.size;go_ret;have hT:ao plain pick kind r [(va,size,0)]=(bR plain pick r kind va,[(va,size,(bu plain pick r.h kind va).1.2)]):=by
    rw [fF _ _ _ _ _ _ HZ.out];rfl
   rw [hT];exact ⟨.inl ⟨H0.out,v1.heap.size,rfl,sz,f1⟩,K1.out.low f3,HP.out.keep A1.out (fun i hi=>(K1.out.xo i hi).2) (Kp.of_below (fun _=>False) f3) (fun _ _ h=>h),N1.out.trans (Kp.of_below X f3)⟩
  ·rw [if_neg hz] at he;subst he;have HZ:Hid _:=hz;clear hz;go_wp2_with fail;refine ⟨rfl,?_⟩;rw [ig _ _ _ _ _ _ HZ.out];exact ⟨.inr ⟨HZ.out,rfl⟩,k1,HP.out.congr _ _ _ a1 rfl rfl rfl rfl,n1⟩
 ·have hlt:lf<size:=by omega
  have hw2:IntKind.u64.wrap (size-lf)=size-lf:=by rw [IntKind.wrap_u64];omega
  obtain ⟨va2,hva2⟩:∃va2:Int,(va+lf)%18446744073709551616=va2:=⟨_,rfl⟩;have hw3:IntKind.u64.wrap (va+lf)=va2:=by rw [IntKind.wrap_u64];exact hva2
  have hu2:inU va2:=by rw [<-hva2];unfold inU;omega
  have hdd:=decide_eq_false (by omega);rw [Ei va size (by rw [HL.out];exact hlt),HL.out,hva2];clear hva2 hle;go_enter Tryz.func114,Tryz.ntmps114;go_wp2_with fail;refine (lj HP.out hpk r kind va lf w HK.out HA.out HR.out HC.out.up hk0 hk2 ⟨hv0,hv1⟩).mono ?_;rintro e v1 ⟨he,k1,a1,n1⟩;by_cases hz:(bu plain pick r.h kind va).1.1=0
  ·rw [if_pos hz] at he;subst he;have HZ:Hid _:=hz;have K1:Hid _:=k1;have A1:Hid _:=a1;have N1:Hid _:=n1;have R1:Hid (ROk (bR plain pick r kind va)):=kf HR.out plain hpk ⟨hk0,hk2⟩ ⟨hv0,hv1⟩;have C1:Hid (SameC 2 (bR plain pick r kind va) h0):=SameC.look HC.out plain pick kind va;have H01:Hid ((bR plain pick r kind va).cause=0):=H0;clear hz k1 a1 n1;obtain ⟨pa,hpa⟩:∃pa,(bu plain pick r.h kind va).1.2=pa:=⟨_,rfl⟩;have HPa:Hid _:=hpa;rw [hpa];clear hpa;obtain ⟨R2,hR2⟩:∃R2,bR plain pick r kind va=R2:=⟨_,rfl⟩;have HR2:Hid _:=hR2;rw [hR2] at K1 A1 R1 C1 H01;clear hR2;go_upto_region 5 with fail;obtain ⟨v2,Ev2,F⟩:=ax1 v1 #[VI kind,VU va,VU pa,VU lf] 257;rw [Ev2.out];clear Ev2;obtain ⟨f1,f3,f2⟩:=F;have HF1:Hid _:=f1;have CT0:=fun (u:Has v1.heap.size (.cells #[VI kind,VU va,VU pa,VU lf] 257 (0,0)))=>ab u.h 0 rfl;have CT1:=fun (u:Has v1.heap.size (.cells #[VI kind,VU va,VU pa,VU lf] 257 (0,0)))=>ab u.h 1 rfl;have CT2:=fun (u:Has v1.heap.size (.cells #[VI kind,VU va,VU pa,VU lf] 257 (0,0)))=>ab u.h 2 rfl;have CT3:=fun (u:Has v1.heap.size (.cells #[VI kind,VU va,VU pa,VU lf] 257 (0,0)))=>ab u.h 3 rfl;have ne:Nonempty (Has v1.heap.size (.cells #[VI kind,VU va,VU pa,VU lf] 257 (0,0))):=⟨⟨v2,f1⟩⟩;have D2:=bdr v2;have n2:=bst f2 D2;clear f1;refine aN (fun w'=>∃u:Has v1.heap.size (.cells #[VI kind,VU va,VU pa,VU lf] 257 (0,0)),w'=u.w) 11 ?_;refine eZ (fuel:=3) ⟨⟨v2.drew,HF1.out⟩,rfl⟩ [0,1,2,3,4,5,6,7,8] ?_;simp only [gX,List.getElem?_toArray,List.getElem?_cons_zero,List.getElem?_cons_succ];repeat (go_big_quiet_step (fail))
   refine wpQuiet_nil ?_;refine eh 9 37 rfl ((lj HP.out hpk R2 kind va2 (size-lf) v2.drew (K1.out.low n2) (HP.out.keep A1.out (fun i hi=>(K1.out.xo i hi).2) (Kp.of_below (fun _=>False) n2) (fun _ _ h=>h)) R1.out C1.out hk0 hk2 hu2).mono ?_);rintro e v3 ⟨he,k3,a3,n3⟩;have nx:¬X v1.heap.size:=fun h=>by have:=(K1.out.xo _ h).2;omega
   have HF3:=Kp.hid (show Hid (v2.drew.heap[v1.heap.size]?=some (.cells #[VI kind,VU va,VU pa,VU lf] 257 (0,0))) from HF1) n3 nx;have N3:=hid ((N1.out.trans (Kp.of_below X n2)).trans n3);by_cases hz:(bu plain pick R2.h kind va2).1.1=0
   ·rw [if_pos hz] at he;subst he;have HZ2:Hid _:=hz;have K3:Hid _:=k3;have A3:Hid _:=a3;clear hz k3 a3;obtain ⟨pa2,hpa⟩:∃pa2,(bu plain pick R2.h kind va2).1.2=pa2:=⟨_,rfl⟩;have HPa2:Hid _:=hpa;rw [hpa];clear hpa;refine .inl ⟨_,rfl,fun _=>⟨⟨v3,HF3.out⟩,rfl⟩,?_⟩;have F:=cw v3 #[VI kind,VU va,VU pa,VU lf,VI kind,VU va2,VU pa2,VU (size-lf)] 257;obtain ⟨g1,g2,g3⟩:=F;have HF4:=ah HF3 g3
    go_frame
    refine ik 10 38 (SL v3.heap.size 2 2) (w':=v3.alloc (Obj.cells #[VI kind,VU va,VU pa,VU lf,VI kind,VU va2,VU pa2,VU (size-lf)] 257)) rfl (fun _=>⟨⟨_,HF4.out⟩,rfl⟩) ?_ (he:=by go_simp)
    go_frame
    refine ik 11 8 (SL v3.heap.size 2 2) rfl (fun _=>⟨⟨_,HF4.out⟩,rfl⟩) ?_
    go_frame
    refine dt ?_;clear CT0 CT1 CT2 CT3 ne;generalize v3.alloc (Obj.cells #[VI kind,VU va,VU pa,VU lf,VI kind,VU va2,VU pa2,VU (size-lf)] 257)=v4 at g1 g2 g3 HF4 |-;have HG1:Hid _:=g1;have HG3:Hid _:=g3;clear g1 g2 g3;go_wp2;go_ret;have hT:ao plain pick kind r [(va,lf,0),(va2,size-lf,0)]=(bR plain pick R2 kind va2,[(va,lf,pa),(va2,size-lf,pa2)]):=by
     rw [fF _ _ _ _ _ _ HZ.out,HR2.out,fF _ _ _ _ _ _ HZ2.out,HPa.out,HPa2.out];rfl
    rw [hT];have sz:=N3.out.size;exact ⟨.inl ⟨H01.out,v3.heap.size,rfl,sz,HG1.out⟩,K3.out.low HG3.out,HP.out.keep A3.out (fun i hi=>(K3.out.xo i hi).2) (Kp.of_below (fun _=>False) HG3.out) (fun _ _ h=>h),N3.out.trans (Kp.of_below X HG3.out)⟩
   ·rw [if_neg hz] at he;subst he;refine .inr ⟨_,rfl,rfl,?_⟩;rw [fF _ _ _ _ _ _ HZ.out,HR2.out,ig _ _ _ _ _ _ hz];exact ⟨.inr ⟨hz,rfl⟩,k3,HP.out.congr _ _ _ a3 rfl rfl rfl rfl,N3.out⟩
  ·rw [if_neg hz] at he;subst he;have HZ:Hid _:=hz;clear hz;go_wp2_with fail;refine ⟨rfl,?_⟩;rw [ig _ _ _ _ _ _ HZ.out];exact ⟨.inr ⟨HZ.out,rfl⟩,k1,HP.out.congr _ _ _ a1 rfl rfl rfl rfl,n1⟩
theorem sU {O X:Nat->Prop} {m:MP} {ov:Value} {h:HartM} {ol:List (Nat × Int)} (kind va pa size:Int) (w:World) (k:MW w O X m ov h ol) (hp:inU pa) (hs:inU size):
 Calls Tryz.prog 141 #[PT m.b 0,.agg #[VI kind,VU va,VU pa,VU size]] w fun e w'=>
  e=(if fR h.mem.length pa size=true then .returned (.tuple #[]) else .panicked [lK (bP kind) va])∧Bw w w':=by
 obtain ⟨v1,Ev1,F⟩:=ax1 w #[VI kind,VU va,VU pa,VU size] 257;have hb:=k.lt;have c18:=ab k.blk 18 (v:=SL m.gm h.mem.length h.mem.length) rfl;have HL:Hid (h.mem.length<=1048576):=by have:=k.len;show _<=_;omega
 obtain ⟨hp0,hp1⟩:=hp;obtain ⟨hs0,hs1⟩:=hs;clear k;generalize m.b=b at *;generalize m.gm=gm at *;generalize h.mem.length=n at *;obtain ⟨tb,htb⟩:∃tb,fR n pa size=tb:=⟨_,rfl⟩;have HTb:Hid _:=htb;rw [htb];clear htb;go_enter Tryz.func141,Tryz.ntmps141;go_upto_region 1 with fail;rw [Ev1.out];clear Ev1;obtain ⟨h1,hz,n1⟩:=F;have H1:Hid _:=h1;have hb1:b<v1.heap.size:=by omega
 have hw1:w.heap.size<v1.heap.size:=by omega
 have C18:=aC (Below.cell2 n1 c18 hb) hb1;have C2:=aC (ab h1 2 (v:=VU pa) rfl) hw1;have C3:=aC (ab h1 3 (v:=VU size) rfl) hw1;have HH:Hid (∀u:Lies v1,Calls Tryz.prog 82 #[SL gm n n,VU pa,VU size] u.w fun e w'=>e=.returned (.bool tb)∧w'=u.w):=fun u=>by
  have:=rD (some (AD gm 0)) n n pa size u.w HL.out hp0 hp1 hs0 hs1;rw [HTb.out] at this;exact this
 have ne:=dp v1;clear h1 hz c18;refine bS (by kernel_rfl) (by kernel_rfl) ?_;repeat (go_big_quiet_step ((go_at_call 82;exact ke _ (HH.out _))))
 refine wpQuiet_nil ?_;rintro _ ⟨u,rfl⟩;have n2:=u.h;generalize u.w=v2 at n2 |-;have A2:=bst n1 n2;have H2:=ah H1 n2;clear C18 C2 C3 HH ne n2;cases tb
 ·go_upto_region 2 with fail;have hw2:=(hpl H2.out);have C0:=aC (ab H2.out 0 (v:=VI kind) rfl) hw2;have C1:=aC (ab H2.out 1 (v:=VU va) rfl) hw2;have HH:=hid fun (u:Lies v2)=>mp kind u.w;have ne:=dp v2;refine lL 7 (by kernel_rfl) (by kernel_rfl) ?_;simp only [List.take_succ_cons,List.take_zero,List.drop_succ_cons,List.drop_zero];repeat (go_big_quiet_step ((go_at_call 165;exact ke _ (HH.out _))))
  refine wpQuiet_nil ?_;rintro _ ⟨u,rfl⟩;have n3:=u.h;generalize u.w=v3 at n3 |-;have A3:=bst A2 n3;go_wp2_with fail;exact ⟨rfl,rfl,A3⟩
 ·go_wp2;go_end0;exact ⟨rfl,A2⟩
theorem Ew (x s:Int) (h:0<=s) (h1:s<=64) (w:World):(binOp .shl 29 (VU x) (VI s)).run Tryz.prog w=.ok (VU (x*2^s.toNat%18446744073709551616)) w:=by
 simp [binOp,go_sem,IntKind.wrap_u64];try omega
theorem sV (kind:Int):∀(ps:List bM) (j:Nat) (p:bM),ps[j]?=some p->(pI kind ps)[j*4]?=some (VI kind)∧(pI kind ps)[j*4+1]?=some (VU p.1)∧(pI kind ps)[j*4+2]?=some (VU p.2.2)∧(pI kind ps)[j*4+3]?=some (VU p.2.1)
 | [],j,p,h=>by simp at h
 | q::ps,0,p,h=>by
  simp only [List.getElem?_cons_zero,Option.some.injEq] at h;subst h;exact ⟨rfl,rfl,rfl,rfl⟩
 | q::ps,j+1,p,h=>by
  have ih:=sV kind ps j p (by simpa using h);rw [show (j+1)*4=j*4+1+1+1+1 by omega];simp only [pI];rw [show j*4+1+1+1+1+1=(j*4+1)+1+1+1+1 by omega,show j*4+1+1+1+1+2=(j*4+2)+1+1+1+1 by omega,show j*4+1+1+1+1+3=(j*4+3)+1+1+1+1 by omega];simpa only [List.getElem?_cons_succ] using ih
theorem ez:∀(a b:List bM),bV (a++b)=bV a+bV b
 | [],b=>by simp [bV]
 | p::a,b=>by simp [bV,ez a b];omega
theorem jD {ps:List bM} {j:Nat} {p:bM} (h:ps[j]?=some p):ps.take (j+1)=ps.take j++[p]:=by
 obtain ⟨hj,rfl⟩:=List.getElem?_eq_some_iff.1 h;exact List.take_succ_eq_append_getElem hj
theorem sW {ps:List bM} (j:Nat):bV (ps.take j)<=bV ps:=by
 have:=ez (ps.take j) (ps.drop j);rw [List.take_append_drop] at this;omega
theorem oy {mem:List Int}:∀{ps:List bM},tk mem ps->ep ps->(cE mem ps).length=bV ps
 | [],_,_=>rfl
 | p::ps,hi,hk=>by
  have h1:=hi p (by simp);have h2:=hk p (by simp);simp only [fR,decide_eq_true_eq] at h1;have h3:=h2.2.2;unfold inU at h3;simp only [cE,bV,List.length_append];rw [oy (fun q hq=>hi q (by simp [hq])) (fun q hq=>hk q (by simp [hq]))];simp;omega
theorem Cel.of_blk {e:TypeId} {w:World} {g:Nat} {zs:List Int} (h:Blk e w g zs) (hz:BytM zs):Cel w g 0 zs.length zs:=Cel.of_byt (Blk.byt h hz)
theorem Eh (xs:List Int) (y:Int) (T:Nat) (hx:∀z∈xs,0<=z∧z<=255) (hl:xs.length=T) (hT:T<=7) (hy0:0<=y) (hy1:y<=255):
 bits .or .u64 (num xs) (IntKind.u64.wrap (y*2^(8*T)))=num (xs++[y]):=by
 have hb:=lX xs T hx (by omega);rw [Dq,hl];have e:((2:Int)^(8*T))=256^T:=by
  rw [Int.pow_mul];rfl
 rw [IntKind.wrap_u64,e];have hP:(256:Int)^T<=72057594037927936∧1<=(256:Int)^T:=by
  rcases (show T=0∨T=1∨T=2∨T=3∨T=4∨T=5∨T=6∨T=7 by omega) with rfl | rfl | rfl | rfl | rfl | rfl | rfl | rfl <;> decide
 have hm:0<=y*256^T∧y*256^T<=255*72057594037927936:=⟨Int.mul_nonneg hy0 (by omega),Int.mul_le_mul hy1 hP.1 (by omega) (by omega)⟩;rw [Int.emod_eq_of_lt hm.1 (by omega)];exact fm (8*T) (256^T) (num xs) y (by rw [Int.pow_mul];rfl) hb.1 hb.2 hy0 (by omega) (by omega)
def ou (mem:List Int) (ps:List bM) (kind:Int):Ending:=
 match gJ mem ps with
 | none=>.returned (.int .u64 (iZ mem ps))
 | some v=>.panicked [lK (bP kind) v]
theorem zk {O X:Nat->Prop} {m:MP} {ov:Value} {h:HartM} {ol:List (Nat × Int)} (kind:Int) (ps:List bM) (g n:Nat) (w:World) (k:MW w O X m ov h ol) (hn:ps.length=n) (hg:w.heap[g]?=some (.cells (pI kind ps).toArray 257 (0,0))) (hok:ep ps) (hsz:bV ps<=8) (hn2:n<=2):
 Calls Tryz.prog 113 #[PT m.b 0,SL g n n] w fun e w'=>e=ou h.mem ps kind∧Bw w w':=by
 have HK:Hid _:=k;have HG:Hid _:=hg;have HN:Hid _:=hn;have HOk:Hid _:=hok;have HSz:Hid _:=hsz;clear k hg hn hok hsz;go_enter Tryz.func113,Tryz.ntmps113;go_wp2;go_loopw [5,6,12] (fun vv sv iv wr=>∃j:Nat,j<=n∧vv=VU (num (cE h.mem (ps.take j)))∧sv=VI (8*(bV (ps.take j):Int))∧iv=VI j∧tk h.mem (ps.take j)∧Bw w wr) (fun _ _ iv _=>n-(intOf iv).toNat)
 case atStart=>exact ⟨0,Nat.zero_le _,rfl,rfl,rfl,fun p hp=>by simp at hp,brf⟩
 case round=>
  rename World=>wa;obtain ⟨j,hj,rfl,rfl,rfl,hi,hb⟩:=hrel;have HI:Hid _:=hi;have HB:Hid _:=hb;clear hi hb;by_cases hjn:j<n
  ·obtain ⟨p,hp⟩:∃p,ps[j]?=some p:=⟨ps[j]'(by rw [HN.out];exact hjn),geg _⟩;have HPj:Hid _:=hp;obtain ⟨c0,c1,c2,c3⟩:=sV kind ps j p hp;have HGr:=hid (ag HG.out HB.out (hpl HG.out));have d0:=ab HGr.out (j*4) (v:=VI kind) (by simpa using c0);have d1:=ab HGr.out (j*4+1) (v:=VU p.1) (by simpa using c1);have d2:=ab HGr.out (j*4+2) (v:=VU p.2.2) (by simpa using c2);have d3:=ab HGr.out (j*4+3) (v:=VU p.2.1) (by simpa using c3);have hpk:=HOk.out p (List.mem_of_getElem? hp);have HSj:Hid (bV (ps.take j)+p.2.1.toNat<=8):=by
    have:=sW (ps:=ps) (j+1);rw [jD hp,ez] at this;simp only [bV] at this;have:=HSz.out;show _<=_;omega
   have HKr:=hid (HK.out.low HB.out);clear c0 c1 c2 c3 hp;obtain ⟨va,size,pa⟩:=p;obtain ⟨hva,⟨hs1,hs2⟩,hpa0,hpa1⟩:=hpk;simp only at d0 d1 d2 d3 hs1 hs2 hpa0 hpa1 hva HSj;obtain ⟨v1,Ev1,F⟩:=ax1 wa #[VI kind,VU va,VU pa,VU size] 257;go_wp2_with fail;rw [Ev1.out];clear Ev1;obtain ⟨f1,f2,n1⟩:=F;have HF1:Hid _:=f1;clear f1 d0 d1 d2 d3;refine (sU kind va pa size v1 (HKr.out.low n1) ⟨hpa0,hpa1⟩ ⟨by omega,by omega⟩).mono ?_;rintro e v2 ⟨he,n2⟩;have B2:=hid (bst (bst HB.out n1) n2);have HF2:=ah HF1 n2;have K2:Hid (MW v2 O X m ov h ol):=(HKr.out.low n1).low n2;cases hins:fR h.mem.length pa size
   ·rw [hins] at he;simp only [Bool.false_eq_true,if_false] at he;subst he;have HIn:Hid _:=hins;clear hins;go_wp2_with fail;refine ⟨rfl,?_,B2.out⟩;have e:ps=ps.take j++(va,size,pa)::ps.drop (j+1):=by
     obtain ⟨hjl,hjp⟩:=List.getElem?_eq_some_iff.1 HPj.out;rw [<-hjp,<-List.drop_eq_getElem_cons hjl,List.take_append_drop]
    unfold ou;rw [e,rK HI.out HIn.out]
   ·rw [hins] at he;simp only [if_true] at he;subst he;have HIn:Hid _:=hins;clear hins;obtain ⟨sn,hsn⟩:∃sn:Nat,size=sn:=⟨size.toNat,by omega⟩;obtain ⟨pn,hpn⟩:∃pn:Nat,pa=pn:=⟨pa.toNat,by omega⟩;subst hsn hpn;have hin2:=HIn.out;simp only [fR,decide_eq_true_eq] at hin2;have hml:=HK.out.len;rw [Int.toNat_natCast] at HSj;obtain ⟨S,hS⟩:∃S,bV (ps.take j)=S:=⟨_,rfl⟩;have HS:Hid _:=hS;rw [hS] at HSj |-;clear hS;obtain ⟨bs,hbs⟩:∃bs,cE h.mem (ps.take j)=bs:=⟨_,rfl⟩;have Hbs:Hid _:=hbs;have HbL:Hid (bs.length=S):=by
     show _=_;rw [<-hbs,oy HI.out (fun q hq=>HOk.out q (List.mem_of_mem_take hq)),HS.out]
    rw [hbs];clear hbs;have b3:=ab HF2.out 3 (v:=VU sn) rfl;have hSj:=HSj.out;go_wp2;go_loopw [5,6,21] (fun vv sv iv wr=>∃i:Nat,i<=sn∧vv=VU (num (bs++tY h.mem pn i))∧sv=VI (8*((S+i:Nat):Int))∧iv=VU i∧Bw v2 wr) (fun _ _ iv _=>sn-(intOf iv).toNat)
    case atStart=>exact ⟨0,Nat.zero_le _,by simp [tY],by simp,rfl,brf⟩
    case round=>
     obtain ⟨i,hi,rfl,rfl,rfl,hb⟩:=hrel;have HBi:Hid _:=hb;by_cases hil:i<sn
     ·have K3:Hid (MW wr O X m ov h ol):=K2.out.low HBi.out;have HF3:=ah HF2 HBi.out;obtain ⟨b,hbm⟩:∃b,m.b=b:=⟨_,rfl⟩;have hbl:=K3.out.lt;have c18:wr.cell? (AD m.b 18)=some (SL m.gm h.mem.length h.mem.length):=ab K3.out.blk 18 rfl;have hfl:=(hpl HF3.out);obtain ⟨y,hy⟩:∃y,h.mem[pn+i]?.getD 0=y:=⟨_,rfl⟩;have hyb:=HK.out.byt (pn+i);rw [hy] at hyb;have HY:Hid _:=hy;have hlt:pn+i<h.mem.length:=by omega
      have HPs:Hid _:=BK h.mem pn i hlt;have HRd:Hid (∀u:Lies wr,Calls Tryz.prog 142 #[SL m.gm h.mem.length h.mem.length,VU ((pn+i:Nat):Int)] u.w fun e w'=>e=.returned (VU y)∧w'=u.w):=fun u=>by
       have:=mN m.gm 0 h.mem.length h.mem.length (pn+i) h.mem u.w (Cel.of_blk (K3.out.low u.h).mem HK.out.byt) hlt (by omega);rw [HY.out] at this;exact this
      have C18:=aC c18 hbl;have CP:=aC (ab HF3.out 2 (v:=VU pn) rfl) hfl;have hsh:=Ew y (8*((S+i:Nat):Int)) (by omega) (by omega);have hxs:∀z∈bs++tY h.mem pn i,0<=z∧z<=255:=by
       intro z hz;rcases List.mem_append.1 hz with hz | hz
       ·rw [<-Hbs.out] at hz;exact jd HK.out.byt _ z hz
       ·exact dP HK.out.byt z (List.mem_of_mem_drop (List.mem_of_mem_take hz))
      have HOr:Hid _:=Eh (bs++tY h.mem pn i) y (S+i) hxs (by rw [List.length_append,HbL.out,Dp _ _ _ (by omega)]) (by omega) hyb.1 hyb.2;have hwr:IntKind.u64.wrap ((pn:Int)+(i:Int))=((pn+i:Nat):Int):=by rw [IntKind.wrap_u64];omega
      have ne:=dp wr;clear hxs c18 hbm hy hyb;generalize h.mem.length=ln at *;go_upto_region 9 with fail;refine bS (by kernel_rfl) (by kernel_rfl) ?_;repeat (go_big_quiet_step ((go_at_call 142;exact ke _ (HRd.out _))))
      rw [HOr.out];refine wpQuiet_nil ?_;rintro _ ⟨u,rfl⟩;have n3:=u.h;generalize u.w=v3 at n3 |-;have B3:Hid _:=bst HBi.out n3;clear C18 CP HRd ne hsh HOr;go_wp2;go_roundw
      case rel=>
       refine ⟨i+1,by omega,?_,?_,by go_num,B3.out⟩
       ·rw [HPs.out,HY.out,List.append_assoc]
       ·congr 1
      case measure=>simp [intOf];omega
     ·have hie:i=sn:=by omega
      subst hie;have B3:Hid _:=bst B2.out HBi.out;go_wp2;go_roundw
      case rel=>
       have e1:=jD HPj.out;refine ⟨j+1,by omega,?_,?_,by go_num,?_,B3.out⟩
       ·rw [e1,kE,Hbs.out];simp [cE,tY]
       ·rw [e1,ez,HS.out];simp [bV]
       ·rw [e1];intro q hq;rcases List.mem_append.1 hq with hq | hq
        ·exact HI.out q hq
        ·rw [List.mem_singleton] at hq;subst hq;exact HIn.out
      case measure=>simp [intOf];omega
  ·have hje:j=n:=by omega
   subst hje;go_wp2;go_ret;refine ⟨?_,HB.out⟩;have e:=List.take_of_length_le (by rw [HN.out];exact nle);have hI:=HI.out;rw [e] at hI |-;unfold ou;rw [pV hI];rfl
theorem oO (g len cap k:Nat) (zs:List Int) (val:Int) (w:World) (h:Blk 5 w g zs) (hz:zs.length=len) (hk:k<len) (hl:len<=1048576) (hv0:0<=val) (hv1:val<=18446744073709551615):
 Calls Tryz.prog 83 #[SL g len cap,VU k,VU val] w fun e w'=>e=.returned (.tuple #[])∧Blk 5 w' g (zs.set k (val%256))∧w.grownBy w' (some g):=by
 have g2:=h.cell k (by omega);have g3:=h.free k;have hb:Hid _:=h.store k (val%256);have hgb:Hid _:=aq (aw w (some g)) k (.int .u8 (val%256));clear h;go_enter Tryz.func83,Tryz.ntmps83;go_wp2;go_end0;exact ⟨rfl,hb.out,hgb.out⟩
def MNext (w:World) (O X:Nat->Prop) (m:MP) (h':HartM) (ol':List (Nat × Int)) (w':World):Prop:=
 ∃O' ov',MW w' O' X m ov' h' ol'∧Kp O w w'∧(∀i,i<w.heap.size->O' i->O i)∧∀i,X i->w'.heap[i]?=w.heap[i]?
theorem MNext.refl {w:World} {O X:Nat->Prop} {m:MP} {ov:Value} {h:HartM} {ol:List (Nat × Int)} (k:MW w O X m ov h ol):MNext w O X m h ol w:=
 ⟨O,ov,k,Kp.refl O w,fun _ _ h=>h,fun _ _=>rfl⟩
theorem MNext.trans {w w1 w2:World} {O O1 X:Nat->Prop} {m:MP} {h2:HartM} {ol2:List (Nat × Int)} (hk:Kp O w w1) (ho:∀i,i<w.heap.size->O1 i->O i) (hx:∀i,X i->w1.heap[i]?=w.heap[i]?) (k:MNext w1 O1 X m h2 ol2 w2):MNext w O X m h2 ol2 w2:=by
 obtain ⟨O2,ov2,k1,k2,k3,k4⟩:=k;exact ⟨O2,ov2,k1,hk.trans' k2 ho,fun i hi h=>ho i hi (k3 i (ltl hi hk.size) h),fun i hi=>(k4 i hi).trans (hx i hi)⟩
theorem xG {P:Program} {a:Act} {o:Oper} {s x:Operand} {t ty:TypeId} {v y r:Value} {w w':World} (ho:o.op=.call { callee:=.builtin .append,args:=#[s,x],argTypes:=#[t,t] }) (hty:o.type=ty) (hs:a.eval s=v) (hx:a.eval x=y) (hr:(Builtin.append_ #[t,t] ty #[v,y]).run P w=.ok r w'):(execOp a.eval o).run P w=.ok (.value r) w':=by
 subst hty;unfold execOp;simp only [ho,resolve,invoke,builtin,Sem.run_bind,Sem.run_pure,Result.andThen_ok,List.map_toArray,List.map_cons,List.map_nil,hs,hx,hr]
theorem El:(Tryz.prog.info? 217).map (fun i=>(i.zero,i.size,i.bytes))=some (some (.agg #[VU 0,VU 0]),2,16):=by kernel_rfl
theorem Bd {O X:Nat->Prop} {m:MP} {ov:Value} {h:HartM} {ol:List (Nat × Int)} (addr:Nat) (val:Int) (w:World) (k:MW w O X m ov h ol) (ha:addr<h.mem.length) (hl:ol.length<16) (hv:inU val):
 Calls Tryz.prog 144 #[PT m.b 18,VU addr,VU val] w fun e w'=>e=.returned (.tuple #[])∧MNext w O X m (eD h (h.mem.set addr (val%256))) (ol++[(addr,h.mem[addr]?.getD 0)]) w':=by
 have HK:Hid _:=k;have hb:=k.lt;have hbk:=k.blk;obtain ⟨hv0,hv1⟩:=hv;have hml:=k.len;obtain ⟨y,hy⟩:∃y,h.mem[addr]?.getD 0=y:=⟨_,rfl⟩;have HY:Hid _:=hy;have hyb:=k.byt addr;rw [hy] at hyb |-;obtain ⟨on,oc,oa,hov⟩:=k.sh;have HOv:Hid _:=hov;have HRd:Hid (∀u,Bw w u->Calls Tryz.prog 142 #[SL m.gm h.mem.length h.mem.length,VU addr] u fun e w'=>e=.returned (VU y)∧w'=u):=fun u hu=>by
  have:=mN m.gm 0 h.mem.length h.mem.length addr h.mem u (Cel.of_blk (HK.out.low hu).mem HK.out.byt) ha (by omega);rw [HY.out] at this;exact this
 clear k hy hov;obtain ⟨b,hbm⟩:∃b,m.b=b:=⟨_,rfl⟩;have HBm:Hid _:=hbm;rw [hbm] at hb hbk |-;clear hbm;have HBk:Hid _:=hbk;have C18:∀u:Has b (.cells (cN h m.gm ov m.gi m.gd m.gp m.pv) 97 (0,0)),u.w.cell? (AD b 18)=some (SL m.gm h.mem.length h.mem.length):=fun u=>ab u.h 18 rfl;have C19:∀u:Has b (.cells (cN h m.gm ov m.gi m.gd m.gp m.pv) 97 (0,0)),u.w.cell? (AD b 19)=some ov:=fun u=>ab u.h 19 rfl;have ne:Nonempty (Has b (.cells (cN h m.gm ov m.gi m.gd m.gp m.pv) 97 (0,0))):=⟨⟨w,hbk⟩⟩;clear hbk;obtain ⟨A,hAe⟩:∃A,cN h m.gm ov m.gi m.gd m.gp m.pv=A:=⟨_,rfl⟩;have HAe:Hid _:=hAe;rw [hAe] at C18 C19 ne HBk;clear hAe;have D1:=bdr w;rw [HOv.out] at C19;generalize hln:h.mem.length=ln at *;have HLn:Hid _:=hln;clear hln;go_enter Tryz.func144,Tryz.ntmps144;go_upto_region 0 with fail;refine aN (fun w'=>∃u:Has b (.cells A 97 (0,0)),w'=u.w) 17 ?_;refine eZ (fuel:=7) ⟨⟨w.drew,HBk.out⟩,rfl⟩ [0,1,2,3,4,5,6,7,8,9,10] ?_;simp only [gX,List.getElem?_toArray,List.getElem?_cons_zero,List.getElem?_cons_succ];repeat (go_big_quiet_step (fail))
 refine wpQuiet_nil ?_;refine eh 11 17 rfl (Calls.mono (HRd.out w.drew D1) ?_);rintro e v1 ⟨rfl,hv1'⟩;rw [hv1'];clear hv1' v1;refine .inl ⟨_,rfl,fun _=>⟨⟨w.drew,HBk.out⟩,rfl⟩,?_⟩
 go_frame
 refine eZ (fuel:=5) ⟨⟨w.drew,HBk.out⟩,rfl⟩ [12] ?_;simp only [gX,List.getElem?_toArray,List.getElem?_cons_zero,List.getElem?_cons_succ];repeat (go_big_quiet_step (fail))
 refine wpQuiet_nil ?_;have F:=cw w.drew #[VU addr,VU y] 217;obtain ⟨f1,f2,f3⟩:=F;have n2:=bst D1 f3;have HB2:=hid (ah HBk n2);refine ik 13 19 (SL w.drew.heap.size 1 1) (w':=w.drew.alloc (Obj.cells #[VU addr,VU y] 217)) rfl (fun _=>⟨⟨_,HB2.out⟩,rfl⟩) ?_ (he:=by go_simp)
 go_frame
 have HF1:Hid _:=f1;have n2':=hid n2;have hsz2:w.heap.size<(w.drew.alloc (Obj.cells #[VU addr,VU y] 217)).heap.size:=by rw [f2];exact Nat.lt_succ_self _
 rw [show w.drew.heap.size=w.heap.size from rfl] at HF1 |-;clear f1 f2 f3 n2;generalize w.drew.alloc (Obj.cells #[VU addr,VU y] 217)=v2 at HF1 n2' HB2 hsz2 |-;obtain ⟨i0,hi0,hz0,hz1,hz2⟩:=info_parts El;have K2:=hid (HK.out.low n2'.out);have hoe:=K2.out.old;rw [HOv.out] at hoe;obtain ⟨g',cap',v3,hr,ho3,hg3,hat,hlt3⟩:=run_append_lies (P:=Tryz.prog) v2 83 83 0 217 i0 (.agg #[VU 0,VU 0]) 2 16 Tryz.underlying83 hi0 hz0 hz1 hz2 rfl (by decide) (.slice oa on oc) ol.length (nQ ol) hoe (AD w.heap.size 0) 1 1 [VU addr,VU y] rfl (by
  intro j u hu;have:=ab HF1.out j (v:=u) (by simpa using hu);cases j with
  | zero=>simpa [Addr.add] using this
  | succ j=>simpa [Addr.add] using this) (by simp [Value.oneCell']) (by omega) (by unfold maxLen;omega) (by omega) (by omega) v2.heap.size rfl
 have hbo:∀g,(Value.slice oa on oc).ownBlock=some g->g≠b:=fun g e=>by
  have:=(HK.out.oo g (by rw [HOv.out];exact e)).2.1;rw [HBm.out] at this;exact this
 have HB3:Hid (v3.heap[b]?=some (.cells A 97 (0,0))):=(hg3.block b (hpl HB2.out) (fun e=>hbo b e.symm rfl)).trans HB2.out;have HO3:Hid _:=ho3;have HG3:Hid _:=hg3;have HAt:Hid _:=hat;clear ho3 hg3 hat hoe hbo;refine ik 14 20 (SL g' (ol.length+1) cap') (w':=v3) rfl (fun _=>⟨⟨_,HB3.out⟩,rfl⟩) ?_ (he:=xG (s:=.tmp 10) (x:=.tmp 19) (t:=83) (by kernel_rfl) (by kernel_rfl) (by kernel_rfl) (by kernel_rfl) hr)
 go_frame
 refine eZ (fuel:=1) ⟨⟨v3,HB3.out⟩,rfl⟩ [15,16] ?_;simp only [gX,List.getElem?_toArray,List.getElem?_cons_zero,List.getElem?_cons_succ];repeat (go_big_quiet_step (fail))
 refine wpQuiet_nil ?_;have c19:=ab HB3.out 19 (v:=.slice oa on oc) (by rw [<-HAe.out,<-HOv.out];rfl);have f19:=az HB3.out 19;refine dO 17 22 20 (T:=83) (b:=b) (off:=19) (V:=SL g' (ol.length+1) cap') (w':=v3.setCell (AD b 19) (SL g' (ol.length+1) cap')) rfl (by go_simp) ?_;refine dt ?_;have hpv:Hid (∀V,A.setIfInBounds 19 V=cN h m.gm V m.gi m.gd m.gp m.pv):=fun V=>by
  rw [<-HAe.out];rfl
 have g4:=aq (aw v3 (some b)) 19 (SL g' (ol.length+1) cap');have HB4:Hid ((v3.setCell (AD b 19) (SL g' (ol.length+1) cap')).heap[b]?=some (.cells (cN h m.gm (SL g' (ol.length+1) cap') m.gi m.gd m.gp m.pv) 97 (0,0))):=by
  show _=_;rw [<-hpv.out];exact bD HB3.out
 have HG4:Hid _:=g4;clear hr c19 f19 C18 C19 ne g4 hpv;generalize v3.setCell (AD b 19) (SL g' (ol.length+1) cap')=v4 at HG4 HB4 |-;have hbg:∀g,(Value.slice oa on oc).ownBlock=some g->g≠m.gm∧¬X g∧O g∧g<w.heap.size∧g≠m.b:=fun g e=>by
  have:=HK.out.oo g (by rw [HOv.out];exact e);have hl:=(HK.out.old.lt g (by rw [HOv.out];exact e)).2;exact ⟨this.2.2.1,this.2.2.2,this.1,hl,this.2.1⟩
 have k23:Kp (fun i=>(Value.slice oa on oc).ownBlock=some i) v2 v3:=⟨HG3.out.os,HG3.out.tape,HG3.out.output,HG3.out.size,fun i hi hn=>HG3.out.block i hi fun e=>hn e.symm⟩;have k34:Kp (fun i=>i=m.b) v3 v4:=by rw [HBm.out];exact Kp.of_gb HG4.out rfl
 have M4:Hid (Blk 5 v4 m.gm h.mem):=k34.blk (k23.blk K2.out.mem fun e=>(hbg _ e).1 rfl) (Ne.symm HK.out.bm);have hgb':g'≠m.b:=fun e=>by
  rcases HAt.out with h1 | h1
  ·exact (hbg _ h1).2.2.2.2 e
  ·have:=K2.out.lt;omega
 have O4:Hid (v4.ownsRow 0 217 2 (SL g' (ol.length+1) cap') (ol.length+1) (nQ ol++[VU addr,VU y])):=k34.own HO3.out fun g e=>by
  have:g'=g:=by simpa [Value.ownBlock] using e
  rw [<-this];exact hgb'
 have c18:=ab HB4.out 18 (v:=SL m.gm ln ln) (by rw [<-HLn.out];rfl);go_wp2_with fail;refine (oO m.gm ln ln addr h.mem val v4 M4.out HLn.out ha (by omega) hv0 hv1).mono ?_;rintro e v5 ⟨rfl,hm5,hg5⟩;have HM5:Hid _:=hm5;have HG5:Hid _:=hg5;clear hm5 hg5 c18;go_wp2;go_end0;refine ⟨rfl,fun i=>O i∨i=g',SL g' (ol.length+1) cap',?_,?_,?_,?_⟩
 ·have hgm:g'≠m.gm:=fun e=>by
   rcases HAt.out with h1 | h1
   ·exact (hbg _ h1).1 e
   ·have:=K2.out.mem.lt;omega
  have hgx:¬X g':=fun e=>by
   rcases HAt.out with h1 | h1
   ·exact (hbg _ h1).2.1 e
   ·have:=(K2.out.xo _ e).2;omega
  have k45:Kp (fun i=>i=m.gm) v4 v5:=Kp.of_gb HG5.out rfl;have hs2:=n2'.out.size;have hs3:=k23.size;have hs4:=k34.size;have hs5:=k45.size;refine ⟨?_,HM5.out,?_,.inl HK.out.ob,.inl HK.out.om,?_,HK.out.bm,HK.out.xb,HK.out.xm,?_,HK.out.byt.set _ _ (by omega) (by omega),by simpa [eD] using HK.out.len,HK.out.regs,by simp;omega,⟨_,_,_,rfl⟩,?_,?_⟩
  ·have e:cN (eD h (h.mem.set addr (val%256))) m.gm (SL g' (ol.length+1) cap') m.gi m.gd m.gp m.pv=cN h m.gm (SL g' (ol.length+1) cap') m.gi m.gd m.gp m.pv:=by
    simp only [cN,eD,List.length_set]
   rw [e];refine k45.heap ?_ HK.out.bm;rw [HBm.out];exact HB4.out
  ·have:=k45.own O4.out fun g e=>by
    have:g'=g:=by simpa [Value.ownBlock] using e
    rw [<-this];exact hgm
   rw [qT,List.length_append];exact this
  ·intro g e;have e':g'=g:=by simpa [Value.ownBlock] using e
   subst e';exact ⟨.inr rfl,hgb',hgm,hgx⟩
  ·intro i hi;have:=HK.out.xo i hi;exact ⟨.inl this.1,by omega⟩
  ·rintro i (hi | hi)
   ·have:=HK.out.obd i hi;omega
   ·omega
  ·intro o ho;show o.1<(h.mem.set addr (val%256)).length∧_;rw [List.length_set];rcases List.mem_append.1 ho with ho | ho
   ·exact HK.out.oln o ho
   ·rw [List.mem_singleton] at ho;subst ho;exact ⟨by rw [HLn.out];exact ha,hyb.1,hyb.2⟩
 ·refine (((Kp.of_below O n2'.out).trans (k23.mono fun i e=>(hbg i e).2.2.1)).trans (k34.mono fun i e=>?_)).trans ((Kp.of_gb (O:=fun i=>i=m.gm) HG5.out rfl).mono fun i e=>?_)
  ·rw [e];exact HK.out.ob
  ·rw [e];exact HK.out.om
 ·rintro i hi (h1 | h1)
  ·exact h1
  ·rcases HAt.out with h2 | h2
   ·rw [h1];exact (hbg _ h2).2.2.1
   ·have:=n2'.out.size;omega
 ·intro i hi;have hl:=(HK.out.xo i hi).2;have hs2:=n2'.out.size;have hs3:=k23.size;have hs4:=k34.size;rw [(Kp.of_gb (O:=fun i=>i=m.gm) HG5.out rfl).block i (by omega) (fun e=>HK.out.xm (e ▸ hi)),k34.block i (by omega) (fun e=>HK.out.xb (e ▸ hi)),k23.block i (by omega) (fun e=>(hbg _ e).2.1 hi),n2'.out.block i hl]
end Go.Proofs.YtkenjknmfhoppaaGreat
