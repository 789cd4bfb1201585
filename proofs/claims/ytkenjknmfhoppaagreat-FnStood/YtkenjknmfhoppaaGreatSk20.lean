import Derived.Test.YtkenjknmfhoppaaGreatSk11
import Derived.Test.YtkenjknmfhoppaaGreatSk19
namespace Go.Proofs.YtkenjknmfhoppaaGreat
open Go.RowKit
set_option linter.unusedVariables false
set_option maxHeartbeats 6400000
set_option maxRecDepth 20000
section
attribute [local go_sem ↓] Go.wp_at_zero Go.wp_at_succ
theorem xZ {v:World} {p:Nat} {T:TypeId} {a b c d e f g h i j k x y:Value} (hh:v.heap[p]?=some (.cells #[a,b,c,d,e,f,g,h,i,j,k] T (0,0))):((v.setCell (AD p 0) x).setCell (AD p 1) y).heap[p]?=some (.cells #[x,y,c,d,e,f,g,h,i,j,k] T (0,0)):=by
 simp [World.setCell,Array.getElem?_modify,hh]
theorem ya {v:World} {p:Nat} {T:TypeId} {a b c d e f g h i j k x y z:Value} (hh:v.heap[p]?=some (.cells #[a,b,c,d,e,f,g,h,i,j,k] T (0,0))):(((v.setCell (AD p 8) x).setCell (AD p 9) y).setCell (AD p 10) z).heap[p]?=some (.cells #[a,b,c,d,e,f,g,h,x,y,z] T (0,0)):=by
 simp [World.setCell,Array.getElem?_modify,hh]
theorem qE {v:World} {p:Nat} {T:TypeId} {a b c d x y z u:Value} (h:v.heap[p]?=some (.cells #[a,b,c,d] T (0,0))):((((v.setCell (AD p 0) x).setCell (AD p 1) y).setCell (AD p 2) z).setCell (AD p 3) u).heap[p]?=some (.cells #[x,y,z,u] T (0,0)):=by
 simp [World.setCell,Array.getElem?_modify,h]
def jE (zs:List Int) (mode:Int) (sum mxr:Bool) (satp:Int) (k:KM) (kind va pick:Int):(Int × Int) × KM:=
 (db (aW zs satp va (aY k.p va (aK satp))) mode sum mxr kind va,
  if (db (aW zs satp va (aY k.p va (aK satp))) mode sum mxr kind va).1=0 then
    th ⟨k.i,k.d,cG va satp pick (aW zs satp va (aY k.p va (aK satp))).2.2.2 k.p⟩ kind (dg (eV k kind) (eU (aW zs satp va (aY k.p va (aK satp))).2.1 va satp (aW zs satp va (aY k.p va (aK satp))).2.2.1) pick)
  else ⟨k.i,k.d,cG va satp pick (aW zs satp va (aY k.p va (aK satp))).2.2.2 k.p⟩)
theorem lJ:(∀(a:Option Addr) (len cap:Nat) (mode:Int) (sum mxr:Bool) (satp:Int) (v:Value) (k:KM) (kind va pick:Int) (w:World) (h:KAt w v k) (hgood:bJ k=true) (h0:0<=kind) (h1:kind<=2) (h2:0<=mode) (h3:mode<=2) (h4:0<=pick) (h5:pick<=255) (hs0:0<=satp) (hs1:satp<=18446744073709551615) (hon:onM mode satp=true) (hk:¬kind=0) (zs:List Int) (hB:Byt w a len zs) (hlen:len<=1048576) (hcap:len<=cap) (hcm:cap<=9223372036854775807) (hv0:0<=va) (hv1:va<=18446744073709551615) (hcan:dC va=true) (hf:(aY k.d va (aK satp)).1=false),Calls Tryz.prog 125 #[.slice a len cap,et mode sum mxr satp,v,VI kind,VU va,VI pick] w fun e w'=>(∃x,e=.returned x∧TransOwn w.heap.size w' x (jE zs mode sum mxr satp k kind va pick))∧Bw w w')∧
 (∀(a:Option Addr) (len cap:Nat) (mode:Int) (sum mxr:Bool) (satp:Int) (v:Value) (k:KM) (kind va pick:Int) (w:World) (h:KAt w v k) (hgood:bJ k=true) (h0:0<=kind) (h1:kind<=2) (h2:0<=mode) (h3:mode<=2) (h4:0<=pick) (h5:pick<=255) (hs0:0<=satp) (hs1:satp<=18446744073709551615) (hon:onM mode satp=true) (hk:kind=0) (zs:List Int) (hB:Byt w a len zs) (hlen:len<=1048576) (hcap:len<=cap) (hcm:cap<=9223372036854775807) (hv0:0<=va) (hv1:va<=18446744073709551615) (hcan:dC va=true) (hf:(aY k.i va (aK satp)).1=false),Calls Tryz.prog 125 #[.slice a len cap,et mode sum mxr satp,v,VI kind,VU va,VI pick] w fun e w'=>(∃x,e=.returned x∧TransOwn w.heap.size w' x (jE zs mode sum mxr satp k kind va pick))∧Bw w w'):=by
 refine ⟨?_,?_⟩;have mL:Hid True:=trivial
 rotate_left
 have mP:Hid True:=trivial
 rotate_left
 all_goals
  intro a len cap mode sum mxr satp v k kind va pick w h hgood h0 h1 h2 h3 h4 h5 hs0 hs1 hon hk zs hB hlen hcap hcm hv0 hv1 hcan hf;have HK:Hid (∀u,Bw w u->Calls Tryz.prog 88 #[v] u fun e w'=>e=.returned (.bool (bJ k))∧Bw u w'):=fun u hu=>ed v k u (h.keep hu);have HL:Hid (∀u,Bw w u->Calls Tryz.prog 89 #[v] u fun e w'=>(∃x,e=.returned x∧KOwn u.heap.size w' x k)∧Bw u w'):=fun u hu=>ip v k u (h.keep hu);have HO:Hid (∀u,Calls Tryz.prog 53 #[et mode sum mxr satp] u fun e w'=>e=.returned (.bool true)∧Bw u w'):=fun u=>by have:=mX mode sum mxr satp u hs0 hs1;rw [hon] at this;exact this
  have HC:Hid (∀u:World,Calls Tryz.prog 55 #[VU va] u fun e w'=>e=.returned (.bool true)∧Bw u w'):=fun u=>by
   have:=eL va u hv0 hv1;rw [hcan] at this;refine this.mono ?_;rintro e w' ⟨rfl,n,rfl⟩;exact ⟨rfl,below_drewN brf n⟩
  have HKeep:Hid (KAt w v k):=h;have hpv:aR k.p true=true:=by
   have:=hgood;simp only [bJ,Bool.and_eq_true] at this;exact this.2
  have HPV:Hid (aR k.p true=true):=hpv;obtain ⟨a1,c1,a2,c2,a3,c3,rfl,T1,T2,T3⟩:=h;first
   | (replace mL:=mL;have HTt:Hid (∀u,Bw w u->TlbAt u (.agg #[VI k.d.sets,VI k.d.ways,.slice a2 k.d.es.length c2]) k.d):=fun u hu=>T2.keep hu)
   | (replace mP:=mP;have HTt:Hid (∀u,Bw w u->TlbAt u (.agg #[VI k.i.sets,VI k.i.ways,.slice a1 k.i.es.length c1]) k.i):=fun u hu=>T1.keep hu)
  have HOp:Hid (fP k.p):=TlbAt.ok T3;first
   | (replace mL:=mL;have HLk:Hid (∀u,Bw w u->Calls Tryz.prog 154 #[.agg #[VI k.d.sets,VI k.d.ways,.slice a2 k.d.es.length c2],VU va,VU (aK satp)] u fun e w'=>e=.returned (.agg #[.bool false,VI 0,VI 0,VU 0])∧Bw u w'):=fun u hu=>by
        have:=fU _ k.d va (aK satp) u (T2.keep hu) hv0 hv1
        obtain ⟨⟨f1,f2,f3,f4⟩,hX⟩:∃X,aY k.d va (aK satp)=X:=⟨_,rfl⟩
        rw [hX] at this hf
        simp only at hf
        subst hf
        have hz:=ym hX
        simp only [Prod.mk.injEq] at hz
        obtain ⟨rfl,rfl,rfl⟩:=hz
        exact this)
   | (replace mP:=mP;have HLk:Hid (∀u,Bw w u->Calls Tryz.prog 154 #[.agg #[VI k.i.sets,VI k.i.ways,.slice a1 k.i.es.length c1],VU va,VU (aK satp)] u fun e w'=>e=.returned (.agg #[.bool false,VI 0,VI 0,VU 0])∧Bw u w'):=fun u hu=>by
        have:=fU _ k.i va (aK satp) u (T1.keep hu) hv0 hv1
        obtain ⟨⟨f1,f2,f3,f4⟩,hX⟩:∃X,aY k.i va (aK satp)=X:=⟨_,rfl⟩
        rw [hX] at this hf
        simp only at hf
        subst hf
        have hz:=ym hX
        simp only [Prod.mk.injEq] at hz
        obtain ⟨rfl,rfl,rfl⟩:=hz
        exact this)
  have HA:Hid (∀u:World,Calls Tryz.prog 57 #[VU satp] u fun e w'=>e=.returned (VU (aK satp))∧Bw u w'):=fun u=>by
   refine (qC satp u hs0 hs1).mono ?_;rintro e w' ⟨rfl,n,rfl⟩;exact ⟨rfl,below_drewN brf n⟩
  have HW:Hid (∀u,Bw w u->Calls Tryz.prog 56 #[.slice a len cap,VU satp,VU va] u fun e w'=>me u.heap.size w' e (dn zs satp va)∧Bw u w'):=fun u hu=>pS a len cap zs satp va u hlen hcap hcm hs0 hs1 hv0 hv1 (hB.keep hu);have HLp:Hid (∀u,Bw w u->Calls Tryz.prog 154 #[.agg #[VI k.p.sets,VI k.p.ways,.slice a3 k.p.es.length c3],VU va,VU (aK satp)] u fun e w'=>e=.returned (.agg #[.bool (aY k.p va (aK satp)).1,VI (aY k.p va (aK satp)).2.1,VI (aY k.p va (aK satp)).2.2.1,VU (aY k.p va (aK satp)).2.2.2])∧Bw u w'):=fun u hu=>fU _ k.p va (aK satp) u (T3.keep hu) hv0 hv1;obtain ⟨X,hX⟩:∃X,jE zs mode sum mxr satp k kind va pick=X:=⟨_,rfl⟩;have HXX:Hid (jE zs mode sum mxr satp k kind va pick=X):=hX;have HRF:Hid _:=pP zs satp va k.p (aK satp) hpv HOp.out.1 hB.2.1;have hWB:=uH zs satp va;have HWB:Hid _:=hWB;rw [hX];clear hX hWB;unfold jE at HXX;obtain ⟨⟨u1,ix,lv,pt⟩,hup⟩:∃Y,aY k.p va (aK satp)=Y:=⟨_,rfl⟩;rw [hup] at HXX HRF HLp;simp only at HLp;obtain ⟨⟨r1,r2,r3,rs⟩,hr⟩:∃Y,aW zs satp va (u1,ix,lv,pt)=Y:=⟨_,rfl⟩;rw [hr] at HXX HRF;simp only at HRF;clear hr hup hcan hf hpv T1 T2 T3 HKeep;generalize aK satp=asd at HLk HA HLp;rw [hgood] at HK;clear hgood hon;first
   | (replace mL:=mL)
   | (replace mP:=mP;subst hk)
  obtain ⟨v1,Ev1,n1,H1,H2,H3,l1⟩:=al3 w #[VI mode,.bool sum,.bool mxr,VU satp] #[VI k.i.sets,VI k.i.ways,.slice a1 k.i.es.length c1,VI k.d.sets,VI k.d.ways,.slice a2 k.d.es.length c2,VI k.p.sets,VI k.p.ways,.slice a3 k.p.es.length c3] #[VI 0,VU 0,VI 0,VI 0,SN,VI 0,VI 0,SN,VI 0,VI 0,SN] 134 41 232;unfold et at HO |-;go_enter Tryz.func125,Tryz.ntmps125;go_upto_region 1 with fail;rw [Ev1.out];clear Ev1;obtain ⟨⟨d0,d1,d2,d3⟩,_⟩:=ay H1.out;obtain ⟨b0,b1,b2,b3,b4,b5,b6,b7,b8⟩:=da H2.out;go_cut [49] (fun s49 wx=>s49=.bool false∧Bw v1 wx)
  case first=>
   go_wp2_with fail;refine (HK.out v1 n1).mono ?_;rintro e v2 ⟨rfl,n2⟩;obtain ⟨⟨d0,d1,d2,d3⟩,_⟩:=ay (ah H1 n2).out;go_wp2;go_meet;refine ⟨?_,n2⟩;simp;first
    | (replace mL:=mL;omega)
    | (replace mP:=mP;try omega)
  obtain ⟨rfl,n2⟩:=hcut;generalize wc=v2 at n2 |-;have l2:=n2.size;have n12:=bst n1 n2;have K1:=ah H1 n2;have K2:=ah H2 n2;have K3:=ah H3 n2;clear d0 d1 d2 d3 b0 b1 b2 b3 b4 b5 b6 b7 b8;obtain ⟨⟨d0,d1,d2,d3⟩,_⟩:=ay K1.out;obtain ⟨b0,b1,b2,b3,b4,b5,b6,b7,b8⟩:=da K2.out;have s0:w.heap.size+1+1<v2.heap.size:=by omega
  clear n1 n2 H1 H2 H3;go_wp2_with fail;refine (HL.out v2 n12).mono ?_;rintro e v3 ⟨⟨x,rfl,g1,e1,g2,e2,g3,e3,rfl,o1,o2,o3⟩,n3⟩;have l3:=n3.size;have n13:=bst n12 n3;have P1:=ah K1 n3;have P2:=ah K2 n3;have P3:=ah K3 n3;have O1:Hid _:=o1;have O2:Hid _:=o2;have O3:Hid _:=o3;clear o1 o2 o3 n12 n3 K1 K2 K3 d0 d1 d2 d3 b0 b1 b2 b3 b4 b5 b6 b7 b8;obtain ⟨⟨d0,d1,d2,d3⟩,_⟩:=ay P1.out;have t0:w.heap.size<v3.heap.size:=by omega
  have t1:w.heap.size+1<v3.heap.size:=by omega
  have t2:w.heap.size+1+1<v3.heap.size:=by omega
  go_wp2_with fail;obtain ⟨v4,Ev4,n4,H4,l4⟩:=al1 v3 #[VI 0,VU 0,VI k.i.sets,VI k.i.ways,SL g1 k.i.es.length e1,VI k.d.sets,VI k.d.ways,SL g2 k.d.es.length e2,VI k.p.sets,VI k.p.ways,SL g3 k.p.es.length e3] 232;rw [Ev4.out];clear Ev4;refine (HO.out v4).mono ?_;rintro e v5 ⟨rfl,n5⟩;have l5:=n5.size;have n45:=bst n4 n5;have n15:=bst n13 n45;have Q1:=ah P1 n45;have Q2:=ah P2 n45;have Q3:=ah P3 n45;have Q4:=ah H4 n5;have U1:=aj O1.out n45;have U2:=aj O2.out n45;have U3:=aj O3.out n45;have a1':=bI O1.out;have a2':=bI O2.out;have a3':=bI O3.out;have V1:Hid _:=U1;have V2:Hid _:=U2;have V3:Hid _:=U3;have A1:Hid _:=a1';have A2:Hid _:=a2';have A3:Hid _:=a3';have LL:Hid (v2.heap.size<=v3.heap.size):=l3;clear U1 U2 U3 a1' a2' a3' O1 O2 O3 n4 n5 P1 P2 P3 H4 d0 d1 d2 d3;go_wp2_with fail;refine (HC.out v5).mono ?_;rintro e v6 ⟨rfl,n6⟩;have l6:=n6.size;have n16:=bst n15 n6;have R1:=ah Q1 n6;have R2:=ah Q2 n6;have R3:=ah Q3 n6;have R4:=ah Q4 n6;have W1:Hid _:=aj V1.out n6;have W2:Hid _:=aj V2.out n6;have W3:Hid _:=aj V3.out n6;clear n6 n15 V1 V2 V3 Q1 Q2 Q3 Q4;obtain ⟨⟨d0,d1,d2,d3⟩,_⟩:=ay R1.out;obtain ⟨b0,b1,b2,b3,b4,b5,b6,b7,b8⟩:=da R2.out;have s6:w.heap.size<v6.heap.size:=by omega
  have s7:w.heap.size+1<v6.heap.size:=by omega
  have nk1:v6.heap.size≠w.heap.size:=by omega
  have nk2:w.heap.size≠v6.heap.size:=by omega
  have nk3:w.heap.size+1≠v6.heap.size:=by omega
  have nk4:v6.heap.size≠w.heap.size+1:=by omega
  go_wp2_with fail;first
   | (replace mL:=mL;obtain ⟨v7,Ev7,n7,H7,l7⟩:=al1 v6 #[VI k.d.sets,VI k.d.ways,.slice a2 k.d.es.length c2] 39)
   | (replace mP:=mP;obtain ⟨v7,Ev7,n7,H7,l7⟩:=al1 v6 #[VI k.i.sets,VI k.i.ways,.slice a1 k.i.es.length c1] 39)
  rw [Ev7.out];clear Ev7;have n17:=bst n16 n7;have S1:=ah R1 n7;have S2:=ah R2 n7;have S3:=ah R3 n7;have S4:=ah R4 n7;have X1:Hid _:=aj W1.out n7;have X2:Hid _:=aj W2.out n7;have X3:Hid _:=aj W3.out n7;clear W1 W2 W3 R1 R2 R3 R4 b0 b1 b2 b3 b4 b5 b6 b7 b8 d0 d1 d2 d3;refine jZ 6 15 ?_ _ _ (Obj.cells #[.bool false,VI 0,VI 0,VU 0] 270) (by kernel_rfl) (by kernel_rfl) rfl rfl rfl (fun b w=>by kernel_rfl) (by kernel_rfl) ?h13 ?q13
  case h13=>
   intro w0 hw0;have ne:=dp w0;have l0:=hw0.size;obtain ⟨⟨q0,q1,q2⟩,_⟩:=aA (ah H7 hw0).out;obtain ⟨⟨_,_,_,q3⟩,_⟩:=ay (ah S1 hw0).out;have y0:=aC q0 (show v6.heap.size<w0.heap.size by omega);have y1:=aC q1 (show v6.heap.size<w0.heap.size by omega);have y2:=aC q2 (show v6.heap.size<w0.heap.size by omega);have y3:=aC q3 (show w.heap.size<w0.heap.size by omega);clear q0 q1 q2 q3;simp only [List.take_succ_cons,List.take_zero];repeat (go_big_quiet_step (first
    | (go_at_call 57;exact cW _ (HA.out _))
    | (go_at_call 154;exact cW _ (HLk.out _ (bst n17 (bst hw0 (Lies.h _)))))))
   refine wpQuiet_nil ?_;exact rfl
  case q13=>
   intro pb v8 hpb m8 hE8;have E8z:Hid (v8.heap[pb]?=some (.cells #[.bool false,VI 0,VI 0,VU 0] 270 (0,0))):=hE8;have lh:pb<v8.heap.size:=(hpl hE8);clear hE8;obtain ⟨⟨d0,d1,d2,d3⟩,_⟩:=ay (ah S1 m8).out;obtain ⟨⟨h0',h1',h2',h3'⟩,f0,f1,f2,f3⟩:=ay E8z.out;have nb1:pb≠w.heap.size:=by omega
   have nb2:w.heap.size≠pb:=by omega
   go_wp2_with fail;have m9:=qr m8 hpb (Value.bool false) (VI 0) (VI 0) (VU 0);generalize ((((v8.setCell (AD pb 0) (Value.bool false)).setCell (AD pb 1) (VI 0)).setCell (AD pb 2) (VI 0)).setCell (AD pb 3) (VU 0))=v9 at m9 |-;have n19:=bst n17 m9;clear d0 d1 d2 d3 h0' h1' h2' h3' f0 f1 f2 f3 E8z lh nb1 nb2 hpb m8;refine (HW.out v9 n19).mono ?_;rintro e v10 ⟨⟨ra0,rc0,rfl,hrow0,hnil0,hrq0,hrl0⟩,n10⟩;have m10:=bst m9 n10;have RW0:Hid (RowC v10 ra0 (dn zs satp va).2.2.2.length 3 (dc (dn zs satp va).2.2.2)):=hrow0;have s10:=m10.size;have hrq0':∀q,ra0=some q->v7.heap.size<=q.block:=fun q hq=>Nat.le_trans m9.size (hrq0 q hq).2;clear hrow0 hrq0 n19 m9 n10;go_wp2_with fail;obtain ⟨v11,Ev11,n11,H11,l11⟩:=al1 v10 #[VI (dn zs satp va).1,VI (dn zs satp va).2.1,VU (dn zs satp va).2.2.1,.slice ra0 (dn zs satp va).2.2.2.length rc0] 138;rw [Ev11.out];clear Ev11;have m11:=bst m10 n11;have n111:=bst n17 m11;refine jZ 7 18 ?_ _ _ (Obj.cells #[.bool false,VI 0,VI 0,VU 0] 270) (by kernel_rfl) (by kernel_rfl) rfl rfl rfl (fun b w=>by kernel_rfl) (by kernel_rfl) ?h20 ?q20
   case h20=>
    intro w0 hw0;have ne:=dp w0;have l0:=hw0.size;have k0:=bst m11 hw0;obtain ⟨_,_,_,_,_,_,q0,q1,q2⟩:=da (ah S2 k0).out;obtain ⟨⟨_,_,_,q3⟩,_⟩:=ay (ah S1 k0).out;have y0:=aC q0 (show w.heap.size+1<w0.heap.size by omega);have y1:=aC q1 (show w.heap.size+1<w0.heap.size by omega);have y2:=aC q2 (show w.heap.size+1<w0.heap.size by omega);have y3:=aC q3 (show w.heap.size<w0.heap.size by omega);clear q0 q1 q2 q3;simp only [List.take_succ_cons,List.take_zero];repeat (go_big_quiet_step (first
     | (go_at_call 57;exact cW _ (HA.out _))
     | (go_at_call 154;exact cW _ (HLp.out _ (bst n111 (bst hw0 (Lies.h _)))))))
    refine wpQuiet_nil ?_;exact rfl
   case q20=>
    intro pu v12 hpu m12 hE12;have E12z:Hid (v12.heap[pu]?=some (.cells #[.bool false,VI 0,VI 0,VU 0] 270 (0,0))):=hE12;have lu:pu<v12.heap.size:=(hpl hE12);clear hE12;obtain ⟨⟨h0',h1',h2',h3'⟩,f0,f1,f2,f3⟩:=ay E12z.out;go_upto_if 109 with fail;have m13:=qr m12 hpu (Value.bool u1) (VI ix) (VI lv) (VU pt);have E13:Hid (((((v12.setCell (AD pu 0) (Value.bool u1)).setCell (AD pu 1) (VI ix)).setCell (AD pu 2) (VI lv)).setCell (AD pu 3) (VU pt)).heap[pu]?=some (.cells #[.bool u1,VI ix,VI lv,VU pt] 270 (0,0))):=qE E12z.out;generalize ((((v12.setCell (AD pu 0) (Value.bool u1)).setCell (AD pu 1) (VI ix)).setCell (AD pu 2) (VI lv)).setCell (AD pu 3) (VU pt))=v13 at m13 E13 |-;have lu13:pu<v13.heap.size:=(hpl E13.out);have l13:=m13.size;clear h0' h1' h2' h3' f0 f1 f2 f3 E12z m12 lu;go_cut [] (fun wx=>∃ra rc,wx.heap[v10.heap.size]?=some (.cells #[VI r1,VI r2,VU r3,.slice ra rs.length rc] 138 (0,0))∧RowC wx ra rs.length 3 (dc rs)∧(∀q,ra=some q->v7.heap.size<=q.block)∧Bw v10 wx)
    case first=>
     cases u1
     ·have hq:=HRF.out.2.1 rfl;go_wp2;go_meet;have b13:=bst n11 m13;refine ⟨ra0,rc0,?_,?_,hrq0',b13⟩
      ·have:=(ah H11 m13).out;rw [<-hq] at this;exact this
      ·have:=RowC.keep RW0.out b13;rw [<-hq] at this;exact this
     ·obtain ⟨l,rfl,hl1,hp0,hp1,hq⟩:=HRF.out.1 rfl;have HQ:Hid ((r1,r2,r3,rs)=cQ zs va l (dI pt)):=hq;have HPp:Hid (∀u:World,Calls Tryz.prog 96 #[VU pt] u fun e w'=>e=.returned (VU (dI pt))∧∃n,w'=u.drewN n):=fun u=>dG pt u hp0 hp1;have hpb:=rH pt;clear hq;go_wp2_with fail;refine gU 8 9 0 118 ?_ _ _ (fun x w'=>∃ra rc,x=.agg #[VI r1,VI r2,VU r3,.slice ra rs.length rc]∧RowC w' ra rs.length 3 (dc rs)∧rs.length<=rc∧(∀q,ra=some q->v13.heap.size<=q.block)) (by kernel_rfl) (by kernel_rfl) rfl rfl rfl rfl (by kernel_rfl) ?h22 ?r22 ?c22 ?q22
      case h22=>
       intro w0 hw0;have ne:=dp w0;have l0:=hw0.size;obtain ⟨⟨_,_,q2,q3⟩,_⟩:=ay (ah E13 hw0).out;have y2:=aC q2 (show pu<w0.heap.size by omega);have y3:=aC q3 (show pu<w0.heap.size by omega);clear q2 q3;simp only [List.take_succ_cons,List.take_zero,List.drop_succ_cons,List.drop_zero,List.append_nil];repeat (go_big_quiet_step ((go_at_call 96;exact uh _ (HPp.out _))))
       refine wpQuiet_nil ?_;exact rfl
      case r22=>
       rintro x w1 w2 ⟨ra,rc,rfl,g1',g2',g3'⟩ hb;exact ⟨ra,rc,rfl,g1'.keep hb,g2',g3'⟩
      case c22=>
       intro y w' hw;refine .inr ⟨95,#[.slice a len cap,VU (dI pt),VI l,VU va],by kernel_rfl,?_⟩;refine (sX a len cap zs va hlen hcap hcm hv0 hv1 l (dI pt) l w' rfl (by omega) hpb.1 hpb.2 (hB.keep (bst n111 (bst m13 hw)))).mono ?_;rintro e w2 ⟨hwk,nb⟩;rw [<-HQ.out] at hwk;obtain ⟨ra,rc,rfl,g1',_,g2',g3'⟩:=hwk;exact ⟨_,rfl,⟨ra,rc,rfl,g1',g3',fun q hq=>Nat.le_trans hw.size (g2' q hq).2⟩,nb⟩
      case q22=>
       rintro x w' hw ⟨ra,rc,rfl,g1',g2',g3'⟩;have E:=ah H11 (bst m13 hw);have lE:v10.heap.size<w'.heap.size:=(hpl E.out);obtain ⟨⟨t0',t1',t2',t3'⟩,f0,f1,f2,f3⟩:=ay E.out;go_wp2;go_meet;refine ⟨ra,rc,qE E.out,?_,fun q hq=>by have:=g3' q hq;omega,qr (bst n11 (bst m13 hw)) nle _ _ _ _⟩;exact Dh g1' (aq (aq (aq (aq (aw _ (some v10.heap.size)) _ _) _ _) _ _) _ _) (.inr fun q hq=>by have:=g3' q hq;omega)
    case rest=>
     obtain ⟨ra,rc,hE,hRow,hrq,m14⟩:=hcut;generalize wc=v14 at hE hRow m14 |-;have E14:Hid (v14.heap[v10.heap.size]?=some (.cells #[VI r1,VI r2,VU r3,.slice ra rs.length rc] 138 (0,0))):=hE;have RW:Hid (RowC v14 ra rs.length 3 (dc rs)):=hRow;have k14:=bst m10 m14;have n114:=bst n17 k14;have l14:=k14.size;have le14:v10.heap.size<v14.heap.size:=(hpl hE);have C1:=ah S1 k14;have C3:=ah S3 k14;have C4:=ah S4 k14;have C7:=ah H7 k14;have Y1:Hid _:=aj X1.out k14;have Y2:Hid _:=aj X2.out k14;have Y3:Hid _:=aj X3.out k14;have HLim:Hid (WalkLim (r1,r2,r3,rs)):=HRF.out.2.2;have HLn:rs.length<=3:=HLim.out.len;clear hE hRow m14 m13 E13 m11 n111 n11 H11 l11 lu13 l13 hpu m10 hrl0 hrq0' RW0 S1 S2 S3 S4 X1 X2 X3 H7 n17 HW HRF HLp HLk;go_wp2_with fail;have LL3:=LL.out;obtain ⟨_,z3,z3'⟩:=A3.out;go_loopw [19] (fun i wr=>∃(j gp cp:Nat),j<=rs.length∧i=VI j∧(gp≠v3.heap.size∧gp≠v6.heap.size∧w.heap.size+1+1<gp)∧wr.heap[v3.heap.size]?=some (.cells #[VI 0,VU 0,VI k.i.sets,VI k.i.ways,SL g1 k.i.es.length e1,VI k.d.sets,VI k.d.ways,SL g2 k.d.es.length e2,VI k.p.sets,VI k.p.ways,SL gp k.p.es.length cp] 232 (0,0))∧wr.ownsRow w.heap.size 127 6 (SL gp k.p.es.length cp) k.p.es.length (aO (cG va satp pick (rs.take j) k.p).es)∧v14.grownBy wr (some v3.heap.size)) (fun i _=>rs.length-(intOf i).toNat)
     case atStart=>
      exact ⟨0,g3,e3,Nat.zero_le _,rfl,⟨by omega,by omega,by omega⟩,C4.out,aJ Y3.out (by omega),aw _ _⟩
     case round=>
      obtain ⟨j,gp,cp,hj,rfl,hgp,hO,hR,hg⟩:=hrel;have HO:Hid (wr.heap[v3.heap.size]?=some (.cells #[VI 0,VU 0,VI k.i.sets,VI k.i.ways,SL g1 k.i.es.length e1,VI k.d.sets,VI k.d.ways,SL g2 k.d.es.length e2,VI k.p.sets,VI k.p.ways,SL gp k.p.es.length cp] 232 (0,0))):=hO;have HRp:Hid (wr.ownsRow w.heap.size 127 6 (SL gp k.p.es.length cp) k.p.es.length (aO (cG va satp pick (rs.take j) k.p).es)):=hR;have lr:=hg.size;have HG:Hid (v14.grownBy wr (some v3.heap.size)):=hg;have EW:Hid (wr.heap[v10.heap.size]?=_):=aB E14.out hg (by omega);have CW:Hid (wr.heap[w.heap.size]?=_):=aB C1.out hg (by omega);clear hO hR;obtain ⟨⟨_,_,_,w3'⟩,_⟩:=ay EW.out;have lw:v10.heap.size<wr.heap.size:=by omega
      by_cases hlt:j<rs.length
      ·obtain ⟨⟨xl,xa,xv⟩,hx⟩:∃x:ef,rs[j]?=some x:=⟨_,geg hlt⟩;have hxb:=HLim.out.recs _ (List.mem_of_getElem? hx);simp only at hxb;have RWr:RowC wr ra rs.length 3 (dc rs):=Dh RW.out hg (.inr fun q hq=>by have:=hrq q hq;omega);obtain ⟨b,off,rfl,lb⟩:∃b off,ra=some (AD b off)∧b<wr.heap.size:=by
        rcases RWr.2 with h | ⟨b,off,h,h2,_⟩
        ·omega
        ·exact ⟨b,off,h,h2⟩
       have g0:wr.cell? ⟨b,off+j*3,none⟩=some (VI xl):=yM RWr rfl j _ hx 0 _ (by omega) rfl;have g2':wr.cell? ⟨b,off+j*3+2,none⟩=some (VU xv):=yM RWr rfl j _ hx 2 _ (by omega) rfl;obtain ⟨kd,hkd⟩:∃kd,bH xv xl=kd:=⟨_,rfl⟩;have HKd:Hid (∀u:World,Calls Tryz.prog 59 #[VU xv,VI xl] u fun e w'=>e=.returned (VI kd)∧∃n,w'=u.drewN n):=fun u=>by
        have:=gu xv xl u hxb.2.1 hxb.2.2 (by omega) (by omega);rw [hkd] at this;exact this
       have HEn:Hid (∀u:World,Calls Tryz.prog 157 #[VI xl,VU va,VU satp,VU xv] u fun e w'=>e=.returned (nX (eU xl va satp xv))∧Bw u w'):=fun u=>qW xl va satp xv u hxb.1.1 hxb.1.2 hv0 hv1 hs0 hs1 hxb.2.1 hxb.2.2;have HEo:Hid (fq (eU xl va satp xv)):=rF xl va satp xv hxb.1 hxb.2;have HPs:=Ba va satp pick rs k.p j _ hx;simp only at HPs;rw [hkd] at HPs;have G0:Hid (wr.cell? ⟨b,off+j*3,none⟩=some (VI xl)):=g0;have G2:Hid (wr.cell? ⟨b,off+j*3+2,none⟩=some (VU xv)):=g2';have y0:=aC g0 lb;have y2:=aC g2' lb;have y3:=aC w3' lw;have ne:=dp wr;clear RWr hkd g0 g2';go_wp2_with fail;refine bS (by kernel_rfl) (by kernel_rfl) ?_;repeat (go_big_quiet_step ((go_at_call 59;exact uh _ (HKd.out _))))
       refine wpQuiet_nil ?_;rintro _ ⟨u,rfl⟩;have hb2:=u.h;generalize u.w=v15 at hb2 |-;have g15:=fY hg hb2;have O15:=ah HO hb2;have P15:=ah EW hb2;have K15:=ah CW hb2;have l15:=hb2.size;have R15:Hid (v15.ownsRow w.heap.size 127 6 (SL gp k.p.es.length cp) k.p.es.length (aO (cG va satp pick (rs.take j) k.p).es)):=aj HRp.out hb2;clear y0 y2 y3 ne w3' HO HRp EW CW HG;by_cases hk1:kd=1
       ·have hkb:(kd == 1)=true:=by simp [hk1]
        rw [if_pos hk1] at HPs;have HPS:Hid _:=HPs;clear HPs hk1;go_wp2_with fail;refine gU 20 23 2 160 ?_ _ _ (fun x w'=>∃gq cq,x=.agg #[VI k.p.sets,VI k.p.ways,SL gq k.p.es.length cq]∧w'.ownsRow v15.heap.size 127 6 (SL gq k.p.es.length cq) k.p.es.length (aO (cG va satp pick (rs.take (j+1)) k.p).es)) (by kernel_rfl) (by kernel_rfl) rfl rfl rfl rfl (by kernel_rfl) ?h27 ?r27 ?c27 ?q27
        case h27=>
         intro w0 hw0;have ne:=dp w0;have l0:=hw0.size;have k0:=bst hb2 hw0;obtain ⟨_,_,_,_,_,_,_,_,q8,q9,q10⟩:=cY (ah O15 hw0).out;obtain ⟨⟨_,_,_,q3⟩,_⟩:=ay (ah K15 hw0).out;obtain ⟨⟨_,_,_,p3⟩,_⟩:=ay (ah P15 hw0).out;have y0:=aC (Below.cell2 k0 G0.out lb) (show b<w0.heap.size by omega);have y2:=aC (Below.cell2 k0 G2.out lb) (show b<w0.heap.size by omega);have y3:=aC q3 (show w.heap.size<w0.heap.size by omega);have y4:=aC p3 (show v10.heap.size<w0.heap.size by omega);have y8:=aC q8 (show v3.heap.size<w0.heap.size by omega);have y9:=aC q9 (show v3.heap.size<w0.heap.size by omega);have y10:=aC q10 (show v3.heap.size<w0.heap.size by omega);clear q3 p3 q8 q9 q10;simp only [List.take_succ_cons,List.take_zero,List.drop_succ_cons,List.drop_zero,List.cons_append,List.nil_append];repeat (go_big_quiet_step ((go_at_call 157;exact cW _ (HEn.out _))))
         refine wpQuiet_nil ?_;exact rfl
        case r27=>
         rintro x w1 w2 ⟨gq,cq,rfl,oq⟩ hb;exact ⟨gq,cq,rfl,aj oq hb⟩
        case c27=>
         intro y w' hw;refine .inr ⟨156,#[.agg #[VI k.p.sets,VI k.p.ways,SL gp k.p.es.length cp],nX (eU xl va satp xv),VI pick],by kernel_rfl,?_⟩;obtain ⟨hl1,hl2,hl3⟩:=ma va satp pick (rs.take j) k.p;obtain ⟨hi1,hi2,hi3⟩:=fx (cG va satp pick (rs.take j) k.p) (eU xl va satp xv) pick;have hT:TlbAt w' (.agg #[VI k.p.sets,VI k.p.ways,SL gp k.p.es.length cp]) (cG va satp pick (rs.take j) k.p):=by
          refine TlbOwn.at (base:=w.heap.size) ⟨gp,cp,by rw [hl1,hl2,hl3],?_⟩ (vx va satp pick _ _ HOp.out fun x hx=>HLim.out.recs x (List.mem_of_mem_take hx));rw [hl1];exact aj R15.out hw
         refine (mn _ _ _ pick w' hT HEo.out).mono ?_;rintro e w2 ⟨⟨y,rfl,gq,cq,rfl,oq⟩,nb⟩;rw [hi1,hi2,hi3,hl1,hl2,hl3];rw [hi1,hl1,<-HPS.out] at oq;exact ⟨_,rfl,⟨gq,cq,rfl,aJ oq hw.size⟩,nb⟩
        case q27=>
         rintro x w' hw ⟨gq,cq,rfl,oq⟩;have O16:=ah O15 hw;have g16:=fY g15 hw;have l16:=hw.size;have lq:=(bI oq).2.1;simp only at lq;have lO:v3.heap.size<w'.heap.size:=by omega
         obtain ⟨_,_,_,_,_,_,_,_,q8,q9,q10⟩:=cY O16.out;have ff:=dS O16.out;have f8:=ff 8;have f9:=ff 9;have f10:=ff 10;clear ff;go_wp2;go_roundw
         case rel=>
          refine ⟨j+1,gq,cq,by omega,by go_num,⟨by omega,by omega,by omega⟩,ya O16.out,aJ (cf oq (aq (aq (aq (aw w' (some v3.heap.size)) _ _) _ _) _ _) (by omega)) (by omega),aq (aq (aq g16 _ _) _ _) _ _⟩
         case measure=>simp [intOf];omega
       ·have hkb:(kd == 1)=false:=by simp [hk1]
        rw [if_neg hk1] at HPs;have HPS:Hid _:=HPs;clear HPs;go_wp2;go_roundw
        case rel=>exact ⟨j+1,gp,cp,by omega,by go_num,hgp,O15.out,by rw [HPS.out];exact R15.out,g15⟩
        case measure=>simp [intOf];omega
      ·have htk:rs.take j=rs:=List.take_of_length_le (by omega);rw [htk] at HRp;first
        | (replace mL:=mL;obtain ⟨⟨ac,ap⟩,han⟩:∃Y,db (r1,r2,r3,rs) mode sum mxr kind va=Y:=⟨_,rfl⟩)
        | (replace mP:=mP;obtain ⟨⟨ac,ap⟩,han⟩:∃Y,db (r1,r2,r3,rs) mode sum mxr 0 va=Y:=⟨_,rfl⟩)
       first
        | (replace mL:=mL;have HAn:Hid (∀u:World,Calls Tryz.prog 152 #[.agg #[VI r1,VI r2,VU r3,.slice ra rs.length rc],.agg #[VI mode,.bool sum,.bool mxr,VU satp],VI kind,VU va] u fun e w'=>e=.returned (.agg #[VI ac,VU ap])∧Bw u w'):=fun u=>by
             have:=kS (r1,r2,r3,rs) (.slice ra rs.length rc) mode sum mxr satp kind va u HLim.out.pte.1 HLim.out.pte.2 hv0 hv1 HLim.out.level.1 HLim.out.level.2 rfl
             rw [han] at this
             exact this)
        | (replace mP:=mP;have HAn:Hid (∀u:World,Calls Tryz.prog 152 #[.agg #[VI r1,VI r2,VU r3,.slice ra rs.length rc],.agg #[VI mode,.bool sum,.bool mxr,VU satp],VI 0,VU va] u fun e w'=>e=.returned (.agg #[VI ac,VU ap])∧Bw u w'):=fun u=>by
             have:=kS (r1,r2,r3,rs) (.slice ra rs.length rc) mode sum mxr satp 0 va u HLim.out.pte.1 HLim.out.pte.2 hv0 hv1 HLim.out.level.1 HLim.out.level.2 rfl
             rw [han] at this
             exact this)
       have hX2:=HXX.out;rw [han] at hX2;simp only at hX2;have HX2:Hid _:=hX2;clear hX2 han HXX htk w3';obtain ⟨⟨w0',w1',w2',w3'⟩,_⟩:=ay EW.out;obtain ⟨⟨d0,d1,d2,d3⟩,_⟩:=ay CW.out;have lc:w.heap.size<wr.heap.size:=by omega
       go_wp2_with fail;refine (HAn.out wr).mono ?_;rintro e v16 ⟨rfl,n16'⟩;have O16:=ah HO n16';have l16:=n16'.size;obtain ⟨q0,q1,q2,q3,q4,q5,q6,q7,q8,q9,q10⟩:=cY O16.out;have ff:=dS O16.out;have f0:=ff 0;have f1:=ff 1;clear ff w0' w1' w2' w3' d0 d1 d2 d3;have lO:v3.heap.size<v16.heap.size:=by omega
       have nO:v16.heap.size≠v3.heap.size:=by omega
       have nO':v3.heap.size≠v16.heap.size:=by omega
       go_upto_if 176 with fail;have gS:=aq (aq (aw v16 (some v3.heap.size)) 0 (VI ac)) 1 (VU ap);have bA:=(Below.refl ((v16.setCell (AD v3.heap.size 0) (VI ac)).setCell (AD v3.heap.size 1) (VU ap)).heap.size ((v16.setCell (AD v3.heap.size 0) (VI ac)).setCell (AD v3.heap.size 1) (VU ap))).alloc nle (Obj.cells #[VI ac,VU ap] 182);have O17:=ah (show Hid (((v16.setCell (AD v3.heap.size 0) (VI ac)).setCell (AD v3.heap.size 1) (VU ap)).heap[v3.heap.size]?=_) from xZ O16.out) bA;have g17:=fY (dY (fY HG.out n16') gS) bA;have R17:Hid _:=aj (cf (aj HRp.out n16') gS hgp.1) bA;generalize (((v16.setCell (AD v3.heap.size 0) (VI ac)).setCell (AD v3.heap.size 1) (VU ap)).alloc (Obj.cells #[VI ac,VU ap] 182))=v17 at O17 g17 R17 |-;have n117:=n114.grown g17 n114.size (fun q hq=>by cases hq;omega);obtain ⟨_,z1,z1'⟩:=A1.out;obtain ⟨_,z2,z2'⟩:=A2.out;have s17:=g17.size;have Q1:Hid (v17.ownsRow _ 127 6 (SL g1 k.i.es.length e1) k.i.es.length (aO k.i.es)):=cf Y1.out g17 (by omega);have Q2:Hid (v17.ownsRow _ 127 6 (SL g2 k.d.es.length e2) k.d.es.length (aO k.d.es)):=cf Y2.out g17 (by omega);have T3:Hid _:=aB C3.out g17 (by omega);have T7:Hid _:=aB C7.out g17 (by omega);have TE:Hid _:=aB E14.out g17 (by omega);have TC:Hid _:=aB C1.out g17 (by omega);clear q0 q1 q2 q3 q4 q5 q6 q7 q8 q9 q10 f0 f1 lO nO nO' gS bA O16 n16' HO HRp HG EW CW hg lr lw lc C1 C3 C4 C7 Y1 Y2 Y3 E14 RW;obtain ⟨pl1,pl2,pl3⟩:=ma va satp pick rs k.p;have HPl:Hid (_∧_∧_):=⟨pl1,pl2,pl3⟩;clear pl1 pl2 pl3;by_cases hac:ac=0
       ·subst hac;have HEn:Hid (∀u:World,Calls Tryz.prog 157 #[VI r2,VU va,VU satp,VU r3] u fun e w'=>e=.returned (nX (eU r2 va satp r3))∧Bw u w'):=fun u=>qW r2 va satp r3 u HLim.out.level.1 HLim.out.level.2 hv0 hv1 hs0 hs1 HLim.out.pte.1 HLim.out.pte.2;have HEo:Hid (fq (eU r2 va satp r3)):=rF r2 va satp r3 HLim.out.level HLim.out.pte;go_wp2_with fail;first
         | (replace mL:=mL;refine gU 10 11 0 187 ?_ _ _ (fun x w'=>∃gq cq,x=.agg #[VI k.d.sets,VI k.d.ways,SL gq k.d.es.length cq]∧w'.ownsRow v17.heap.size 127 6 (SL gq k.d.es.length cq) k.d.es.length (aO (dg k.d (eU r2 va satp r3) pick).es)) (by kernel_rfl) (by kernel_rfl) rfl rfl rfl rfl (by kernel_rfl) ?h32 ?r32 ?c32 ?q32)
         | (replace mP:=mP;refine gU 10 11 0 187 ?_ _ _ (fun x w'=>∃gq cq,x=.agg #[VI k.i.sets,VI k.i.ways,SL gq k.i.es.length cq]∧w'.ownsRow v17.heap.size 127 6 (SL gq k.i.es.length cq) k.i.es.length (aO (dg k.i (eU r2 va satp r3) pick).es)) (by kernel_rfl) (by kernel_rfl) rfl rfl rfl rfl (by kernel_rfl) ?h32 ?r32 ?c32 ?q32)
        case h32=>
         intro w0 hw0;have ne:=dp w0;have l0:=hw0.size;obtain ⟨⟨q0,q1,q2⟩,_⟩:=aA (ah T7 hw0).out;obtain ⟨⟨_,_,_,q3⟩,_⟩:=ay (ah TC hw0).out;obtain ⟨⟨_,p1,p2,_⟩,_⟩:=ay (ah TE hw0).out;have y0:=aC q0 (show v6.heap.size<w0.heap.size by omega);have y1:=aC q1 (show v6.heap.size<w0.heap.size by omega);have y2:=aC q2 (show v6.heap.size<w0.heap.size by omega);have y3:=aC q3 (show w.heap.size<w0.heap.size by omega);have y4:=aC p1 (show v10.heap.size<w0.heap.size by omega);have y5:=aC p2 (show v10.heap.size<w0.heap.size by omega);clear q0 q1 q2 q3 p1 p2;simp only [List.take_succ_cons,List.take_zero,List.drop_succ_cons,List.drop_zero,List.append_nil];repeat (go_big_quiet_step ((go_at_call 157;exact cW _ (HEn.out _))))
         refine wpQuiet_nil ?_;exact rfl
        case r32=>
         rintro x w1 w2 ⟨gq,cq,rfl,oq⟩ hb;exact ⟨gq,cq,rfl,aj oq hb⟩
        case c32=>
         intro y w' hw;first
          | (replace mL:=mL;refine .inr ⟨156,#[.agg #[VI k.d.sets,VI k.d.ways,.slice a2 k.d.es.length c2],nX (eU r2 va satp r3),VI pick],by kernel_rfl,?_⟩)
          | (replace mP:=mP;refine .inr ⟨156,#[.agg #[VI k.i.sets,VI k.i.ways,.slice a1 k.i.es.length c1],nX (eU r2 va satp r3),VI pick],by kernel_rfl,?_⟩)
         first
          | (replace mL:=mL;obtain ⟨hi1,hi2,hi3⟩:=fx k.d (eU r2 va satp r3) pick)
          | (replace mP:=mP;obtain ⟨hi1,hi2,hi3⟩:=fx k.i (eU r2 va satp r3) pick)
         refine (mn _ _ _ pick w' (HTt.out w' (bst n117 hw)) HEo.out).mono ?_;rintro e w2 ⟨⟨y,rfl,gq,cq,rfl,oq⟩,nb⟩;rw [hi1,hi2,hi3];rw [hi1] at oq;exact ⟨_,rfl,⟨gq,cq,rfl,aJ oq hw.size⟩,nb⟩
        case q32=>
         rintro x w' hw ⟨gq,cq,rfl,oq⟩;have lq:=(bI oq).2.1;simp only at lq;have l18:=hw.size;obtain ⟨⟨t0',t1',t2'⟩,u0',u1',u2'⟩:=aA (ah T7 hw).out;have O18:=ah O17 hw;have U18:=ah T3 hw;obtain ⟨j0,j1,j2,j3,j4,j5,j6,j7,j8,j9,j10⟩:=cY U18.out;obtain ⟨q0,q1,q2,q3,q4,q5,q6,q7,q8,q9,q10⟩:=cY O18.out;have ff:=dS U18.out;have f0:=ff 0;have f1:=ff 1;have f2:=ff 2;have f3:=ff 3;have f4:=ff 4;have f5:=ff 5;have f6:=ff 6;have f7:=ff 7;have f8:=ff 8;have f9:=ff 9;have f10:=ff 10;have gg:=dS O18.out;first
          | (replace mL:=mL;have gA:=gg 5;have gB:=gg 6;have gC:=gg 7)
          | (replace mP:=mP;have gA:=gg 2;have gB:=gg 3;have gC:=gg 4)
         clear ff gg;have na:v6.heap.size≠v3.heap.size:=by omega
         have na':v3.heap.size≠v6.heap.size:=by omega
         have nb:v6.heap.size≠w.heap.size+1+1:=by omega
         have nb':w.heap.size+1+1≠v6.heap.size:=by omega
         have nc:v3.heap.size≠w.heap.size+1+1:=by omega
         have nc':w.heap.size+1+1≠v3.heap.size:=by omega
         have la:v6.heap.size<w'.heap.size:=by omega
         have lb':v3.heap.size<w'.heap.size:=by omega
         have lc':w.heap.size+1+1<w'.heap.size:=by omega
         first
          | (replace mL:=mL;have hkb:(kind == 0)=false:=by simp [hk])
          | (replace mP:=mP)
         go_wp2_with fail;have hX3:=HX2.out;simp only [↓reduceIte] at hX3;unfold th eV at hX3;first
          | (replace mL:=mL;rw [if_neg hk,if_neg hk] at hX3)
          | (replace mP:=mP;rw [if_pos rfl,if_pos rfl] at hX3)
         first
          | (replace mL:=mL;have gT:=aq (aq (aq (aw w' (some v6.heap.size)) 0 (VI k.d.sets)) 1 (VI k.d.ways)) 2 (SL gq k.d.es.length cq))
          | (replace mP:=mP;have gT:=aq (aq (aq (aw w' (some v6.heap.size)) 0 (VI k.i.sets)) 1 (VI k.i.ways)) 2 (SL gq k.i.es.length cq))
         first
          | (replace mL:=mL;have gO:=aq (aq (aq (aw (((w'.setCell (AD v6.heap.size 0) (VI k.d.sets)).setCell (AD v6.heap.size 1) (VI k.d.ways)).setCell (AD v6.heap.size 2) (SL gq k.d.es.length cq)) (some v3.heap.size)) 5 (VI k.d.sets)) 6 (VI k.d.ways)) 7 (SL gq k.d.es.length cq))
          | (replace mP:=mP;have gO:=aq (aq (aq (aw (((w'.setCell (AD v6.heap.size 0) (VI k.i.sets)).setCell (AD v6.heap.size 1) (VI k.i.ways)).setCell (AD v6.heap.size 2) (SL gq k.i.es.length cq)) (some v3.heap.size)) 2 (VI k.i.sets)) 3 (VI k.i.ways)) 4 (SL gq k.i.es.length cq))
         have nT:=((bst n117 hw).grown gT (by omega) (fun q hq=>by cases hq;omega)).grown gO (by simp;omega) (fun q hq=>by cases hq;omega);first
          | (replace mL:=mL;generalize ((((((w'.setCell (AD v6.heap.size 0) (VI k.d.sets)).setCell (AD v6.heap.size 1) (VI k.d.ways)).setCell (AD v6.heap.size 2) (SL gq k.d.es.length cq)).setCell (AD v3.heap.size 5) (VI k.d.sets)).setCell (AD v3.heap.size 6) (VI k.d.ways)).setCell (AD v3.heap.size 7) (SL gq k.d.es.length cq))=v19 at gO nT |-)
          | (replace mP:=mP;generalize ((((((w'.setCell (AD v6.heap.size 0) (VI k.i.sets)).setCell (AD v6.heap.size 1) (VI k.i.ways)).setCell (AD v6.heap.size 2) (SL gq k.i.es.length cq)).setCell (AD v3.heap.size 2) (VI k.i.sets)).setCell (AD v3.heap.size 3) (VI k.i.ways)).setCell (AD v3.heap.size 4) (SL gq k.i.es.length cq))=v19 at gO nT |-)
         first
          | (replace mL:=mL;have hi:=fx k.d (eU r2 va satp r3) pick)
          | (replace mP:=mP;have hi:=fx k.i (eU r2 va satp r3) pick)
         have U19:=aB (aB U18.out gT (by omega)) gO (by omega);have gR:=rV v19 (w.heap.size+1+1);clear j0 j1 j2 j3 j4 j5 j6 j7 j8 j9 j10;obtain ⟨j0,j1,j2,j3,j4,j5,j6,j7,j8,j9,j10⟩:=cY U19;first
          | (replace mL:=mL;refine bodyPost_ret (v:=.agg #[VI 0,VU ap,VI k.i.sets,VI k.i.ways,SL g1 k.i.es.length e1,VI k.d.sets,VI k.d.ways,SL gq k.d.es.length cq,VI k.p.sets,VI k.p.ways,SL gp k.p.es.length cp]) (by simp [results,Tryz.results125,go_sem,j0,j1,j2,j3,j4,j5,j6,j7,j8,j9,j10]) rfl ⟨⟨_,rfl,SL g1 k.i.es.length e1,SL gq k.d.es.length cq,SL gp k.p.es.length cp,?_,?_,?_,?_⟩,rU nT (by omega) _ _ _ _ _ _ _ _ _ _ _⟩)
          | (replace mP:=mP;refine bodyPost_ret (v:=.agg #[VI 0,VU ap,VI k.i.sets,VI k.i.ways,SL gq k.i.es.length cq,VI k.d.sets,VI k.d.ways,SL g2 k.d.es.length e2,VI k.p.sets,VI k.p.ways,SL gp k.p.es.length cp]) (by simp [results,Tryz.results125,go_sem,j0,j1,j2,j3,j4,j5,j6,j7,j8,j9,j10]) rfl ⟨⟨_,rfl,SL gq k.i.es.length cq,SL g2 k.d.es.length e2,SL gp k.p.es.length cp,?_,?_,?_,?_⟩,rU nT (by omega) _ _ _ _ _ _ _ _ _ _ _⟩)
         ·rw [<-hX3];simp only;rw [HPl.out.2.1,HPl.out.2.2,hi.2.1,hi.2.2]
         ·rw [<-hX3];first
           | (replace mL:=mL;exact aJ (cf (cf (cf (aj Q1.out hw) gT (by omega)) gO (by omega)) (gR _ _ _ _ _ _ _ _ _ _ _) (by omega)) (by omega))
           | (replace mP:=mP;simp only;rw [hi.1];exact aJ (cf (cf (cf oq gT (by omega)) gO (by omega)) (gR _ _ _ _ _ _ _ _ _ _ _) (by omega)) (by omega))
         ·rw [<-hX3];first
           | (replace mL:=mL;simp only;rw [hi.1];exact aJ (cf (cf (cf oq gT (by omega)) gO (by omega)) (gR _ _ _ _ _ _ _ _ _ _ _) (by omega)) (by omega))
           | (replace mP:=mP;exact aJ (cf (cf (cf (aj Q2.out hw) gT (by omega)) gO (by omega)) (gR _ _ _ _ _ _ _ _ _ _ _) (by omega)) (by omega))
         ·rw [<-hX3];simp only;rw [HPl.out.1];exact cf (cf (cf (aj R17.out hw) gT (by omega)) gO (by omega)) (gR _ _ _ _ _ _ _ _ _ _ _) (by omega)
       ·have hab:(ac == 0)=false:=by simp [hac]
        obtain ⟨j0,j1,j2,j3,j4,j5,j6,j7,j8,j9,j10⟩:=cY T3.out;obtain ⟨q0,q1,q2,q3,q4,q5,q6,q7,q8,q9,q10⟩:=cY O17.out;have ff:=dS T3.out;have f0:=ff 0;have f1:=ff 1;have f2:=ff 2;have f3:=ff 3;have f4:=ff 4;have f5:=ff 5;have f6:=ff 6;have f7:=ff 7;have f8:=ff 8;have f9:=ff 9;have f10:=ff 10;clear ff;have nc:v3.heap.size≠w.heap.size+1+1:=by omega
        have nc':w.heap.size+1+1≠v3.heap.size:=by omega
        have lb':v3.heap.size<v17.heap.size:=by omega
        have lc':w.heap.size+1+1<v17.heap.size:=by omega
        go_wp2_with fail;have hX3:=HX2.out;rw [if_neg hac] at hX3;have gR:=rV v17 (w.heap.size+1+1);refine bodyPost_ret (v:=.agg #[VI ac,VU ap,VI k.i.sets,VI k.i.ways,SL g1 k.i.es.length e1,VI k.d.sets,VI k.d.ways,SL g2 k.d.es.length e2,VI k.p.sets,VI k.p.ways,SL gp k.p.es.length cp]) (by simp [results,Tryz.results125,go_sem,j0,j1,j2,j3,j4,j5,j6,j7,j8,j9,j10]) rfl ⟨⟨_,rfl,SL g1 k.i.es.length e1,SL g2 k.d.es.length e2,SL gp k.p.es.length cp,?_,?_,?_,?_⟩,rU n117 (by omega) _ _ _ _ _ _ _ _ _ _ _⟩
        ·rw [<-hX3];simp only;rw [HPl.out.2.1,HPl.out.2.2]
        ·rw [<-hX3];exact aJ (cf Q1.out (gR _ _ _ _ _ _ _ _ _ _ _) (by omega)) (by omega)
        ·rw [<-hX3];exact aJ (cf Q2.out (gR _ _ _ _ _ _ _ _ _ _ _) (by omega)) (by omega)
        ·rw [<-hX3];simp only;rw [HPl.out.1];exact cf R17.out (gR _ _ _ _ _ _ _ _ _ _ _) (by omega)
end
end Go.Proofs.YtkenjknmfhoppaaGreat
