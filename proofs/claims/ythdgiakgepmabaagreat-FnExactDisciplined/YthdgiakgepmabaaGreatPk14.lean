import Derived.Test.YthdgiakgepmabaaGreatPk13
namespace Go.Proofs.YthdgiakgepmabaaGreat
open Go.RowKit
set_option linter.unusedVariables false
set_option maxHeartbeats 6400000
set_option maxRecDepth 20000
section
attribute [local go_sem ↓] Go.wp_at_zero Go.wp_at_succ
theorem Dm:(∀(a:Option Addr) (len cap:Nat) (mode:Int) (sum mxr:Bool) (satp:Int) (v:Value) (k:KM) (kind va pick:Int) (w:World) (h:KAt w v k) (hgood:bj k=true) (h0:0<=kind) (h1:kind<=2) (h2:0<=mode) (h3:mode<=2) (h4:0<=pick) (h5:pick<=255) (hs0:0<=satp) (hs1:satp<=18446744073709551615) (hon:onM mode satp=true) (hk:¬kind=0) (hv0:0<=va) (hv1:va<=18446744073709551615) (hcan:bY va=true) (hf:(aX k.d va (aB satp)).1=true) (hp:0<=(aX k.d va (aB satp)).2.2.2∧(aX k.d va (aB satp)).2.2.2<=18446744073709551615) (hlv: -9223372036854775808<=(aX k.d va (aB satp)).2.2.1∧(aX k.d va (aB satp)).2.2.1<=9223372036854775807),Calls Tryz.prog 92 #[.slice a len cap,Bz mode sum mxr satp,v,VI kind,VU va,VI pick] w fun e w'=>(∃x,e=.returned x∧TransOwn w.heap.size w' x (eT (aX k.d va (aB satp)).2.2.2 (aX k.d va (aB satp)).2.2.1 mode sum mxr kind va,k))∧Bw w w')∧
 (∀(a:Option Addr) (len cap:Nat) (mode:Int) (sum mxr:Bool) (satp:Int) (v:Value) (k:KM) (kind va pick:Int) (w:World) (h:KAt w v k) (hgood:bj k=true) (h0:0<=kind) (h1:kind<=2) (h2:0<=mode) (h3:mode<=2) (h4:0<=pick) (h5:pick<=255) (hs0:0<=satp) (hs1:satp<=18446744073709551615) (hon:onM mode satp=true) (hk:kind=0) (hv0:0<=va) (hv1:va<=18446744073709551615) (hcan:bY va=true) (hf:(aX k.i va (aB satp)).1=true) (hp:0<=(aX k.i va (aB satp)).2.2.2∧(aX k.i va (aB satp)).2.2.2<=18446744073709551615) (hlv: -9223372036854775808<=(aX k.i va (aB satp)).2.2.1∧(aX k.i va (aB satp)).2.2.1<=9223372036854775807),Calls Tryz.prog 92 #[.slice a len cap,Bz mode sum mxr satp,v,VI kind,VU va,VI pick] w fun e w'=>(∃x,e=.returned x∧TransOwn w.heap.size w' x (eT (aX k.i va (aB satp)).2.2.2 (aX k.i va (aB satp)).2.2.1 mode sum mxr kind va,k))∧Bw w w'):=by
 refine ⟨?_,?_⟩;have mL:=trivial
 rotate_left
 have mP:=trivial
 rotate_left
 all_goals
  intro a len cap mode sum mxr satp v k kind va pick w h hgood h0 h1 h2 h3 h4 h5 hs0 hs1 hon hk hv0 hv1 hcan hf hp hlv;have HK:=hid fun u (hu:Bw w u)=>BC v k u (h.keep hu);have HL:=hid fun u (hu:Bw w u)=>B0 v k u (h.keep hu);have HO:Hid (∀u,Calls Tryz.prog 33 #[Bz mode sum mxr satp] u fun e w'=>e=.returned (.bool true)∧Bw u w'):=fun u=>by have:=CO mode sum mxr satp u hs0 hs1;rw [hon] at this;exact this
  have HC:Hid (∀u:World,Calls Tryz.prog 35 #[VU va] u fun e w'=>e=.returned (.bool true)∧Bw u w'):=fun u=>by
   have:=Bi va u hv0 hv1;rw [hcan] at this;refine this.mono ?_;rintro e w' ⟨rfl,n,rfl⟩;exact ⟨rfl,below_drewN brf n⟩
  have HKeep:=hid h;obtain ⟨a1,c1,a2,c2,a3,c3,rfl,T1,T2,T3⟩:=h;first
   | (replace mL:=mL;have HLk:Hid (∀u,Bw w u->Calls Tryz.prog 118 #[.agg #[VI k.d.sets,VI k.d.ways,.slice a2 k.d.es.length c2],VU va,VU (aB satp)] u fun e w'=>e=.returned (.agg #[.bool (aX k.d va (aB satp)).1,VI (aX k.d va (aB satp)).2.1,VI (aX k.d va (aB satp)).2.2.1,VU (aX k.d va (aB satp)).2.2.2])∧Bw u w'):=fun u hu=>BL _ k.d va (aB satp) u (T2.keep hu) hv0 hv1)
   | (replace mP:=mP;have HLk:Hid (∀u,Bw w u->Calls Tryz.prog 118 #[.agg #[VI k.i.sets,VI k.i.ways,.slice a1 k.i.es.length c1],VU va,VU (aB satp)] u fun e w'=>e=.returned (.agg #[.bool (aX k.i va (aB satp)).1,VI (aX k.i va (aB satp)).2.1,VI (aX k.i va (aB satp)).2.2.1,VU (aX k.i va (aB satp)).2.2.2])∧Bw u w'):=fun u hu=>BL _ k.i va (aB satp) u (T1.keep hu) hv0 hv1)
  first
   | (replace mL:=mL;have HLf:Hid (∀u,Calls Tryz.prog 119 #[VU (aX k.d va (aB satp)).2.2.2,VI (aX k.d va (aB satp)).2.2.1,Bz mode sum mxr satp,VI kind,VU va] u fun e w'=>e=.returned (BJ (eT (aX k.d va (aB satp)).2.2.2 (aX k.d va (aB satp)).2.2.1 mode sum mxr kind va))∧Bw u w'):=fun u=>DC _ _ mode sum mxr satp kind va u hp.1 hp.2 hv0 hv1 hlv.1 hlv.2)
   | (replace mP:=mP;have HLf:Hid (∀u,Calls Tryz.prog 119 #[VU (aX k.i va (aB satp)).2.2.2,VI (aX k.i va (aB satp)).2.2.1,Bz mode sum mxr satp,VI kind,VU va] u fun e w'=>e=.returned (BJ (eT (aX k.i va (aB satp)).2.2.2 (aX k.i va (aB satp)).2.2.1 mode sum mxr kind va))∧Bw u w'):=fun u=>DC _ _ mode sum mxr satp kind va u hp.1 hp.2 hv0 hv1 hlv.1 hlv.2)
  have HA:Hid (∀u:World,Calls Tryz.prog 37 #[VU satp] u fun e w'=>e=.returned (VU (aB satp))∧Bw u w'):=fun u=>by
   refine (Dr satp u hs0 hs1).mono ?_;rintro e w' ⟨rfl,n,rfl⟩;exact ⟨rfl,below_drewN brf n⟩
  first
   | (replace mL:=mL;generalize eT (aX k.d va (aB satp)).2.2.2 (aX k.d va (aB satp)).2.2.1 mode sum mxr kind va=lf at HLf |-)
   | (replace mP:=mP;generalize eT (aX k.i va (aB satp)).2.2.2 (aX k.i va (aB satp)).2.2.1 mode sum mxr kind va=lf at HLf |-)
  obtain ⟨lc,lp⟩:=lf;rw [hf] at HLk;first
   | (replace mL:=mL;generalize (aX k.d va (aB satp)).2.2.2=pt at HLk HLf hp)
   | (replace mP:=mP;generalize (aX k.i va (aB satp)).2.2.2=pt at HLk HLf hp)
  first
   | (replace mL:=mL;generalize (aX k.d va (aB satp)).2.2.1=lv at HLk HLf hlv)
   | (replace mP:=mP;generalize (aX k.i va (aB satp)).2.2.1=lv at HLk HLf hlv)
  first
   | (replace mL:=mL;generalize (aX k.d va (aB satp)).2.1=ix at HLk)
   | (replace mP:=mP;generalize (aX k.i va (aB satp)).2.1=ix at HLk)
  unfold BJ Bz at HLf;simp only at HLf;clear hcan hf HKeep T1 T2 T3;generalize aB satp=asd at HLk HA;rw [hgood] at HK;clear hgood hon;first
   | (replace mL:=mL)
   | (replace mP:=mP;subst hk)
  obtain ⟨v1,Ev1,n1,H1,H2,H3,l1⟩:=al3 w #[VI mode,.bool sum,.bool mxr,VU satp] #[VI k.i.sets,VI k.i.ways,.slice a1 k.i.es.length c1,VI k.d.sets,VI k.d.ways,.slice a2 k.d.es.length c2,VI k.p.sets,VI k.p.ways,.slice a3 k.p.es.length c3] #[VI 0,VU 0,VI 0,VI 0,SN,VI 0,VI 0,SN,VI 0,VI 0,SN] 110 42 202;unfold Bz at HO |-;go_enter Tryz.func92,Tryz.ntmps92;go_upto_region 1 with fail;rw [Ev1.out];clear Ev1;obtain ⟨⟨d0,d1,d2,d3⟩,_⟩:=aO H1.out;obtain ⟨b0,b1,b2,b3,b4,b5,b6,b7,b8⟩:=jP H2.out;go_cut [49] (fun s49 wx=>s49=.bool false∧Bw v1 wx)
  case first=>
   go_wp2_with fail;refine (HK.out v1 n1).mono ?_;rintro e v2 ⟨rfl,n2⟩;obtain ⟨⟨d0,d1,d2,d3⟩,_⟩:=aO (ae H1 n2).out;go_wp2;go_meet;refine ⟨?_,n2⟩;simp;first
    | (replace mL:=mL;omega)
    | (replace mP:=mP;try omega)
  obtain ⟨rfl,n2⟩:=hcut;generalize wc=v2 at n2 |-;have l2:=n2.size;have n12:=bst n1 n2;have K1:=ae H1 n2;have K2:=ae H2 n2;have K3:=ae H3 n2;clear d0 d1 d2 d3 b0 b1 b2 b3 b4 b5 b6 b7 b8;obtain ⟨⟨d0,d1,d2,d3⟩,_⟩:=aO K1.out;obtain ⟨b0,b1,b2,b3,b4,b5,b6,b7,b8⟩:=jP K2.out;have s0:w.heap.size+1+1<v2.heap.size:=by omega
  clear n1 n2 H1 H2 H3;go_wp2_with fail;refine (HL.out v2 n12).mono ?_;rintro e v3 ⟨⟨x,rfl,g1,e1,g2,e2,g3,e3,rfl,o1,o2,o3⟩,n3⟩;have l3:=n3.size;have n13:=bst n12 n3;have P1:=ae K1 n3;have P2:=ae K2 n3;have P3:=ae K3 n3;have O1:Hid _:=o1;have O2:Hid _:=o2;have O3:Hid _:=o3;clear o1 o2 o3 n12 n3 K1 K2 K3 d0 d1 d2 d3 b0 b1 b2 b3 b4 b5 b6 b7 b8;obtain ⟨⟨d0,d1,d2,d3⟩,_⟩:=aO P1.out;have t0:w.heap.size<v3.heap.size:=by omega
  have t1:w.heap.size+1<v3.heap.size:=by omega
  have t2:w.heap.size+1+1<v3.heap.size:=by omega
  go_wp2_with fail;obtain ⟨v4,Ev4,n4,H4,l4⟩:=al1 v3 #[VI 0,VU 0,VI k.i.sets,VI k.i.ways,SL g1 k.i.es.length e1,VI k.d.sets,VI k.d.ways,SL g2 k.d.es.length e2,VI k.p.sets,VI k.p.ways,SL g3 k.p.es.length e3] 202;rw [Ev4.out];clear Ev4;refine (HO.out v4).mono ?_;rintro e v5 ⟨rfl,n5⟩;have l5:=n5.size;have n45:=bst n4 n5;have n15:=bst n13 n45;have Q1:=ae P1 n45;have Q2:=ae P2 n45;have Q3:=ae P3 n45;have Q4:=ae H4 n5;have U1:=cB O1.out n45;have U2:=cB O2.out n45;have U3:=cB O3.out n45;have a1':=bx O1.out;have a2':=bx O2.out;have a3':=bx O3.out;have V1:Hid _:=U1;have V2:Hid _:=U2;have V3:Hid _:=U3;have A1:Hid _:=a1';have A2:Hid _:=a2';have A3:Hid _:=a3';have LL:=hid l3;clear U1 U2 U3 a1' a2' a3' O1 O2 O3 n4 n5 P1 P2 P3 H4 d0 d1 d2 d3;go_wp2_with fail;refine (HC.out v5).mono ?_;rintro e v6 ⟨rfl,n6⟩;have l6:=n6.size;have n16:=bst n15 n6;have R1:=ae Q1 n6;have R2:=ae Q2 n6;have R3:=ae Q3 n6;have R4:=ae Q4 n6;have W1:Hid _:=cB V1.out n6;have W2:Hid _:=cB V2.out n6;have W3:Hid _:=cB V3.out n6;clear n6 n15 V1 V2 V3 Q1 Q2 Q3 Q4;obtain ⟨⟨d0,d1,d2,d3⟩,_⟩:=aO R1.out;obtain ⟨b0,b1,b2,b3,b4,b5,b6,b7,b8⟩:=jP R2.out;have s6:w.heap.size<v6.heap.size:=by omega
  have s7:w.heap.size+1<v6.heap.size:=by omega
  have nk1:v6.heap.size≠w.heap.size:=by omega
  have nk2:w.heap.size≠v6.heap.size:=by omega
  have nk3:w.heap.size+1≠v6.heap.size:=by omega
  have nk4:v6.heap.size≠w.heap.size+1:=by omega
  go_wp2_with fail;first
   | (replace mL:=mL;obtain ⟨v7,Ev7,n7,H7,l7⟩:=al1 v6 #[VI k.d.sets,VI k.d.ways,.slice a2 k.d.es.length c2] 40)
   | (replace mP:=mP;obtain ⟨v7,Ev7,n7,H7,l7⟩:=al1 v6 #[VI k.i.sets,VI k.i.ways,.slice a1 k.i.es.length c1] 40)
  rw [Ev7.out];clear Ev7;have n17:=bst n16 n7;have S1:=ae R1 n7;have S3:=ae R3 n7;have S4:=ae R4 n7;have X1:Hid _:=cB W1.out n7;have X2:Hid _:=cB W2.out n7;have X3:Hid _:=cB W3.out n7;clear W1 W2 W3 R1 R2 R3 R4 b0 b1 b2 b3 b4 b5 b6 b7 b8 d0 d1 d2 d3;have l6':=l7;first
   | (replace mL:=mL;have HX:Hid (∀w',Bw v7 w'->w'.cell? (AD v6.heap.size 0)=some (VI k.d.sets)∧w'.cell? (AD v6.heap.size 1)=some (VI k.d.ways)∧w'.cell? (AD v6.heap.size 2)=some (.slice a2 k.d.es.length c2)∧w'.cell? (AD w.heap.size 3)=some (VU satp)):=fun v hv=>by
        obtain ⟨⟨q0,q1,q2⟩,_⟩:=au (ag H7.out hv l7)
        obtain ⟨⟨_,_,_,q3⟩,_⟩:=aO (ag S1.out hv (by omega))
        exact ⟨q0,q1,q2,q3⟩)
   | (replace mP:=mP;have HX:Hid (∀w',Bw v7 w'->w'.cell? (AD v6.heap.size 0)=some (VI k.i.sets)∧w'.cell? (AD v6.heap.size 1)=some (VI k.i.ways)∧w'.cell? (AD v6.heap.size 2)=some (.slice a1 k.i.es.length c1)∧w'.cell? (AD w.heap.size 3)=some (VU satp)):=fun v hv=>by
        obtain ⟨⟨q0,q1,q2⟩,_⟩:=au (ag H7.out hv l7)
        obtain ⟨⟨_,_,_,q3⟩,_⟩:=aO (ag S1.out hv (by omega))
        exact ⟨q0,q1,q2,q3⟩)
  obtain ⟨c70,c71,c72,c73⟩:=HX.out v7 brf;have nv1:v7.heap.size≠w.heap.size:=by omega
  have nv2:w.heap.size≠v7.heap.size:=by omega
  have nv3:v7.heap.size≠v6.heap.size:=by omega
  have nv4:v6.heap.size≠v7.heap.size:=by omega
  refine Cu 6 15 ?_ _ _ (Obj.cells #[.bool false,VI 0,VI 0,VU 0] 237) (by kernel_rfl) (by kernel_rfl) rfl rfl rfl (fun b w=>by kernel_rfl) (by kernel_rfl) ?h13 ?q13
  case h13=>
   intro w0 hw0;have ne:=dS w0;have l0:=hw0.size;obtain ⟨q0,q1,q2,q3⟩:=HX.out w0 hw0;have y0:=aS q0 (show v6.heap.size<w0.heap.size by omega);have y1:=aS q1 (show v6.heap.size<w0.heap.size by omega);have y2:=aS q2 (show v6.heap.size<w0.heap.size by omega);have y3:=aS q3 (show w.heap.size<w0.heap.size by omega);clear q0 q1 q2 q3;simp only [List.take_succ_cons,List.take_zero];repeat (go_big_quiet_step (first
    | (go_at_call 37;exact mG _ (HA.out _))
    | (go_at_call 118;exact mG _ (HLk.out _ (bst n17 (bst hw0 (Lies.h _)))))))
   refine wpQuiet_nil ?_;exact rfl
  case q13=>
   intro pb v8z hpb m8z hE8;have E8z:=hid hE8;have lh:=(hpl hE8);clear hE8 c70 c71 c72 c73;obtain ⟨⟨h0',h1',h2',h3'⟩,f0,f1,f2,f3⟩:=aO E8z.out;go_upto_if 80 with fail;have m8:=DY m8z hpb (Value.bool true) (VI ix) (VI lv) (VU pt);have E8:Hid (((((v8z.setCell (AD pb 0) (Value.bool true)).setCell (AD pb 1) (VI ix)).setCell (AD pb 2) (VI lv)).setCell (AD pb 3) (VU pt)).heap[pb]?=some (.cells #[.bool true,VI ix,VI lv,VU pt] 237 (0,0))):=Eb E8z.out;generalize ((((v8z.setCell (AD pb 0) (Value.bool true)).setCell (AD pb 1) (VI ix)).setCell (AD pb 2) (VI lv)).setCell (AD pb 3) (VU pt))=v8 at m8 E8 |-;clear h0' h1' h2' h3' f0 f1 f2 f3 E8z m8z lh;have n18:=bst n17 m8;have l8:=m8.size;have R1:=ae S1 m8;have R3:=ae S3 m8;have R4:=ae S4 m8;have W1:Hid _:=cB X1.out m8;have W2:Hid _:=cB X2.out m8;have W3:Hid _:=cB X3.out m8;clear m8 n17 X1 X2 X3 S1 S3 S4 H7 HX;obtain ⟨⟨d0,d1,d2,d3⟩,_⟩:=aO R1.out;obtain ⟨⟨h0,h1,h2,h3⟩,_⟩:=aO E8.out;go_wp2_with fail;refine (HLf.out v8).mono ?_;rintro e v9 ⟨rfl,n9⟩;have U3:=ae R3 n9;have U4:=ae R4 n9;have l9:=n9.size;have Y1:Hid _:=cB W1.out n9;have Y2:Hid _:=cB W2.out n9;have Y3:Hid _:=cB W3.out n9;have n19:=bst n18 n9;clear d0 d1 d2 d3 h0 h1 h2 h3;have ll1:w.heap.size+1+1<v9.heap.size:=by omega
   have ll2:v3.heap.size<v9.heap.size:=by omega
   have ll3:v9.heap.size≠v3.heap.size:=by omega
   have ll4:v9.heap.size≠w.heap.size+1+1:=by omega
   obtain ⟨j0,j1,j2,j3,j4,j5,j6,j7,j8,j9,j10⟩:=oB U3.out;obtain ⟨m0,m1,m2,m3,m4,m5,m6,m7,m8,m9,m10⟩:=oB U4.out;have ff:=vm U3.out;have f0:=ff 0;have f1:=ff 1;have f2:=ff 2;have f3:=ff 3;have f4:=ff 4;have f5:=ff 5;have f6:=ff 6;have f7:=ff 7;have f8:=ff 8;have f9:=ff 9;have f10:=ff 10;have gg:=vm U4.out;have g0':=gg 0;have g1':=gg 1;clear ff gg;have ne1:v3.heap.size≠w.heap.size+1+1:=by omega
   have ne2:w.heap.size+1+1≠v3.heap.size:=by omega
   go_wp2_with fail;obtain ⟨_,z1,z1'⟩:=A1.out;obtain ⟨_,z2,z2'⟩:=A2.out;obtain ⟨_,z3,z3'⟩:=A3.out;have l3':=LL.out;have gO:=aj (aj (cC v9 (some v3.heap.size)) 0 (VI lc)) 1 (VU lp);refine bodyPost_ret (v:=.agg #[VI lc,VU lp,VI k.i.sets,VI k.i.ways,SL g1 k.i.es.length e1,VI k.d.sets,VI k.d.ways,SL g2 k.d.es.length e2,VI k.p.sets,VI k.p.ways,SL g3 k.p.es.length e3]) (by simp [results,Tryz.results92,go_sem,j0,j1,j2,j3,j4,j5,j6,j7,j8,j9,j10,ll1]) rfl
    ⟨⟨_,rfl,_,_,_,rfl,bD (cB (gt (gt Y1.out gO (by omega)) (EE _ (w.heap.size+1+1) _ _ _ _ _ _ _ _ _ _ _) (by omega)) ((brf).alloc nle _)) (by omega),bD (cB (gt (gt Y2.out gO (by omega)) (EE _ (w.heap.size+1+1) _ _ _ _ _ _ _ _ _ _ _) (by omega)) ((brf).alloc nle _)) (by omega),bD (cB (gt (gt Y3.out gO (by omega)) (EE _ (w.heap.size+1+1) _ _ _ _ _ _ _ _ _ _ _) (by omega)) ((brf).alloc nle _)) (by omega)⟩,Below.alloc (ED ((n19.setCell (p:=(AD v3.heap.size 0)) (by simp only;omega) _).setCell (p:=(AD v3.heap.size 1)) (by simp only;omega) _) (by omega) _ _ _ _ _ _ _ _ _ _ _) (by simp;omega) _⟩
end
section
attribute [local go_sem ↓] Go.wp_at_zero Go.wp_at_succ
theorem Ew (a:Option Addr) (len cap:Nat) (mode:Int) (sum mxr:Bool) (satp:Int) (v:Value) (k:KM) (kind va pick:Int) (w:World) (h:KAt w v k)
 (hgood:bj k=true) (h0:0<=kind) (h1:kind<=2) (h2:0<=mode) (h3:mode<=2) (h4:0<=pick) (h5:pick<=255) (hs0:0<=satp) (hs1:satp<=18446744073709551615) (hon:onM mode satp=true) (hv0:0<=va) (hv1:va<=18446744073709551615) (hcan:bY va=false):
 Calls Tryz.prog 92 #[.slice a len cap,Bz mode sum mxr satp,v,VI kind,VU va,VI pick] w fun e w'=>(∃x,e=.returned x∧TransOwn w.heap.size w' x ((dI kind,0),k))∧Bw w w':=by
 have HK:=hid fun u (hu:Bw w u)=>BC v k u (h.keep hu);have HL:=hid fun u (hu:Bw w u)=>B0 v k u (h.keep hu);have HO:Hid (∀u,Calls Tryz.prog 33 #[Bz mode sum mxr satp] u fun e w'=>e=.returned (.bool true)∧Bw u w'):=fun u=>by have:=CO mode sum mxr satp u hs0 hs1;rw [hon] at this;exact this
 have HC:Hid (∀u:World,Calls Tryz.prog 35 #[VU va] u fun e w'=>e=.returned (.bool false)∧Bw u w'):=fun u=>by
  have:=Bi va u hv0 hv1;rw [hcan] at this;refine this.mono ?_;rintro e w' ⟨rfl,n,rfl⟩;exact ⟨rfl,below_drewN brf n⟩
 obtain ⟨a1,c1,a2,c2,a3,c3,rfl,_⟩:=h;clear hcan;have HF:=hid fun (u:World)=>Co kind u;generalize dI kind=pf at HF |-;rw [hgood] at HK;clear hgood hon;obtain ⟨v1,Ev1,n1,H1,H2,H3,l1⟩:=al3 w #[VI mode,.bool sum,.bool mxr,VU satp] #[VI k.i.sets,VI k.i.ways,.slice a1 k.i.es.length c1,VI k.d.sets,VI k.d.ways,.slice a2 k.d.es.length c2,VI k.p.sets,VI k.p.ways,.slice a3 k.p.es.length c3] #[VI 0,VU 0,VI 0,VI 0,SN,VI 0,VI 0,SN,VI 0,VI 0,SN] 110 42 202;unfold Bz at HO |-;go_enter Tryz.func92,Tryz.ntmps92;go_upto_region 1 with fail;rw [Ev1.out];clear Ev1;obtain ⟨⟨d0,d1,d2,d3⟩,_⟩:=aO H1.out;obtain ⟨b0,b1,b2,b3,b4,b5,b6,b7,b8⟩:=jP H2.out;go_cut [49] (fun s49 wx=>s49=.bool false∧Bw v1 wx)
 case first=>
  go_wp2_with fail;refine (HK.out v1 n1).mono ?_;rintro e v2 ⟨rfl,n2⟩;obtain ⟨⟨d0,d1,d2,d3⟩,_⟩:=aO (ae H1 n2).out;go_wp2;go_meet;refine ⟨?_,n2⟩;simp;omega
 obtain ⟨rfl,n2⟩:=hcut;generalize wc=v2 at n2 |-;have l2:=n2.size;have n12:=bst n1 n2;have K1:=ae H1 n2;have K2:=ae H2 n2;have K3:=ae H3 n2;clear d0 d1 d2 d3 b0 b1 b2 b3 b4 b5 b6 b7 b8;obtain ⟨⟨d0,d1,d2,d3⟩,_⟩:=aO K1.out;obtain ⟨b0,b1,b2,b3,b4,b5,b6,b7,b8⟩:=jP K2.out;have s0:w.heap.size+1+1<v2.heap.size:=by omega
 clear n1 n2 H1 H2 H3;go_wp2_with fail;refine (HL.out v2 n12).mono ?_;rintro e v3 ⟨⟨x,rfl,g1,e1,g2,e2,g3,e3,rfl,o1,o2,o3⟩,n3⟩;have l3:=n3.size;have n13:=bst n12 n3;have P1:=ae K1 n3;have P2:=ae K2 n3;have P3:=ae K3 n3;have O1:Hid _:=o1;have O2:Hid _:=o2;have O3:Hid _:=o3;clear o1 o2 o3 n12 n3 K1 K2 K3 d0 d1 d2 d3 b0 b1 b2 b3 b4 b5 b6 b7 b8;obtain ⟨⟨d0,d1,d2,d3⟩,_⟩:=aO P1.out;have t0:w.heap.size<v3.heap.size:=by omega
 have t1:w.heap.size+1<v3.heap.size:=by omega
 have t2:w.heap.size+1+1<v3.heap.size:=by omega
 go_wp2_with fail;obtain ⟨v4,Ev4,n4,H4,l4⟩:=al1 v3 #[VI 0,VU 0,VI k.i.sets,VI k.i.ways,SL g1 k.i.es.length e1,VI k.d.sets,VI k.d.ways,SL g2 k.d.es.length e2,VI k.p.sets,VI k.p.ways,SL g3 k.p.es.length e3] 202;rw [Ev4.out];clear Ev4;refine (HO.out v4).mono ?_;rintro e v5 ⟨rfl,n5⟩;have l5:=n5.size;have n45:=bst n4 n5;have n15:=bst n13 n45;have Q1:=ae P1 n45;have Q2:=ae P2 n45;have Q3:=ae P3 n45;have Q4:=ae H4 n5;have U1:=cB O1.out n45;have U2:=cB O2.out n45;have U3:=cB O3.out n45;have a1':=bx O1.out;have a2':=bx O2.out;have a3':=bx O3.out;have V1:Hid _:=U1;have V2:Hid _:=U2;have V3:Hid _:=U3;have A1:Hid _:=a1';have A2:Hid _:=a2';have A3:Hid _:=a3';have LL:=hid l3;clear U1 U2 U3 a1' a2' a3' O1 O2 O3 n4 n5 P1 P2 P3 H4 d0 d1 d2 d3;go_wp2_with fail;refine (HC.out v5).mono ?_;rintro e v6 ⟨rfl,n6⟩;have l6:=n6.size;have n16:=bst n15 n6;have R3:=ae Q3 n6;have R4:=ae Q4 n6;have W1:Hid _:=cB V1.out n6;have W2:Hid _:=cB V2.out n6;have W3:Hid _:=cB V3.out n6;clear n6 n15 V1 V2 V3 Q1 Q2 Q3 Q4;obtain ⟨j0,j1,j2,j3,j4,j5,j6,j7,j8,j9,j10⟩:=oB R3.out;obtain ⟨m0,m1,m2,m3,m4,m5,m6,m7,m8,m9,m10⟩:=oB R4.out;have ff:=vm R3.out;have f0:=ff 0;have f1:=ff 1;have f2:=ff 2;have f3:=ff 3;have f4:=ff 4;have f5:=ff 5;have f6:=ff 6;have f7:=ff 7;have f8:=ff 8;have f9:=ff 9;have f10:=ff 10;have gg:=vm R4.out;have g0':=gg 0;have g1':=gg 1;clear ff gg;have ne1:v3.heap.size≠w.heap.size+1+1:=by omega
 have ne2:w.heap.size+1+1≠v3.heap.size:=by omega
 go_wp2_with fail;refine (HF.out v6).mono ?_;rintro e v7 ⟨rfl,rfl⟩;go_wp2_with fail;obtain ⟨_,z1,z1'⟩:=A1.out;obtain ⟨_,z2,z2'⟩:=A2.out;obtain ⟨_,z3,z3'⟩:=A3.out;have gO:=aj (cC v7 (some v3.heap.size)) 0 (VI pf);refine bodyPost_ret (v:=.agg #[VI pf,VU 0,VI k.i.sets,VI k.i.ways,SL g1 k.i.es.length e1,VI k.d.sets,VI k.d.ways,SL g2 k.d.es.length e2,VI k.p.sets,VI k.p.ways,SL g3 k.p.es.length e3]) (by simp [results,Tryz.results92,go_sem,j0,j1,j2,j3,j4,j5,j6,j7,j8,j9,j10]) rfl
  ⟨⟨_,rfl,_,_,_,rfl,bD (gt (gt W1.out gO (by omega)) (EE _ (w.heap.size+1+1) _ _ _ _ _ _ _ _ _ _ _) (by omega)) (by omega),bD (gt (gt W2.out gO (by omega)) (EE _ (w.heap.size+1+1) _ _ _ _ _ _ _ _ _ _ _) (by omega)) (by omega),bD (gt (gt W3.out gO (by omega)) (EE _ (w.heap.size+1+1) _ _ _ _ _ _ _ _ _ _ _) (by omega)) (by omega)⟩,ED (n16.setCell (p:=(AD v3.heap.size 0)) (by simp only;omega) _) (by omega) _ _ _ _ _ _ _ _ _ _ _⟩
end
theorem Fx (a:Option Addr) (len cap:Nat) (zs:List Int) (mode:Int) (sum mxr:Bool) (satp:Int) (v:Value) (k:KM) (kind va pick:Int) (w:World) (h:KAt w v k) (hB:Byt w a len zs) (hlen:len<=1048576) (hcap:len<=cap) (hcm:cap<=9223372036854775807)
 (hv0:0<=va) (hv1:va<=18446744073709551615) (hs0:0<=satp) (hs1:satp<=18446744073709551615):
 Calls Tryz.prog 92 #[.slice a len cap,Bz mode sum mxr satp,v,VI kind,VU va,VI pick] w fun e w'=>(∃x,e=.returned x∧TransOwn w.heap.size w' x (oe zs mode sum mxr satp k kind va pick))∧Bw w w':=by
 have hko:dX k.i∧dX k.d:=by
  obtain ⟨_,_,_,_,_,_,_,t1,t2,_⟩:=h;exact ⟨TlbAt.ok t1,TlbAt.ok t2⟩
 unfold oe;split
 ·rename_i hbad;exact Fq a len cap mode sum mxr satp v k kind va pick w h hbad
 ·rename_i hbad;have hgood:bj k=true:=by
   cases hg:bj k
   ·exact absurd (.inl hg) hbad
   ·rfl
  have h0:0<=kind:=by omega
  have h1:kind<=2:=by omega
  have h2:0<=mode:=by omega
  have h3:mode<=2:=by omega
  have h4:0<=pick:=by omega
  have h5:pick<=255:=by omega
  split
  ·rename_i hon;exact Fu a len cap mode sum mxr satp v k kind va pick w h hgood h0 h1 h2 h3 h4 h5 hs0 hs1 hon
  ·rename_i hon;have hon:onM mode satp=true:=by simpa using hon
   split
   ·rename_i hcan;exact Ew a len cap mode sum mxr satp v k kind va pick w h hgood h0 h1 h2 h3 h4 h5 hs0 hs1 hon hv0 hv1 hcan
   ·rename_i hcan;have hcan:bY va=true:=by simpa using hcan
    by_cases hk:kind=0
    ·rw [show du k kind=k.i from if_pos hk];split
     ·rename_i hf;have hl:=zR k.i va (aB satp) hko.1.1 hf;exact Dm.2 a len cap mode sum mxr satp v k kind va pick w h hgood h0 h1 h2 h3 h4 h5 hs0 hs1 hon hk hv0 hv1 hcan hf hl.1 hl.2
     ·rename_i hf;have:=C6.2 a len cap mode sum mxr satp v k kind va pick w h hgood h0 h1 h2 h3 h4 h5 hs0 hs1 hon hk zs hB hlen hcap hcm hv0 hv1 hcan (by simpa using hf);unfold Cp at this;rw [show du k kind=k.i from if_pos hk] at this;exact this
    ·rw [show du k kind=k.d from if_neg hk];split
     ·rename_i hf;have hl:=zR k.d va (aB satp) hko.2.1 hf;exact Dm.1 a len cap mode sum mxr satp v k kind va pick w h hgood h0 h1 h2 h3 h4 h5 hs0 hs1 hon hk hv0 hv1 hcan hf hl.1 hl.2
     ·rename_i hf;have:=C6.1 a len cap mode sum mxr satp v k kind va pick w h hgood h0 h1 h2 h3 h4 h5 hs0 hs1 hon hk zs hB hlen hcap hcm hv0 hv1 hcan (by simpa using hf);unfold Cp at this;rw [show du k kind=k.d from if_neg hk] at this;exact this
theorem Fm:(Tryz.prog.info? 161).map (·.size)=some 2:=by kernel_rfl
theorem Tryz.infoLk:(Tryz.prog.info? 59).map (fun i=>(i.zero,i.size,i.bytes))=some (some (.agg #[VI 0,VU 0]),2,16):=by kernel_rfl
theorem CX (ls:List (Int × Int)):∀u∈wV ls,u.oneCell'=true:=by
 induction ls with
 | nil=>intro u hu;cases hu
 | cons l ls ih=>
  intro u hu;simp only [wV,List.mem_cons] at hu;rcases hu with rfl | rfl | hu
  ·rfl
  ·rfl
  ·exact ih u hu
theorem Fo (a b:List (Int × Int)):wV (a++b)=wV a++wV b:=by
 induction a with
 | nil=>rfl
 | cons l a ih=>simp [wV,ih]
theorem Ej {base size n:Nat} {e:TypeId} {w:World} {s:Value} {cs:List Value} (h:w.ownsRow base e size s n cs):∃a c,s=.slice a n c:=by
 have h1:=h.1;rcases h.2 with ⟨h2,h3⟩ | ⟨g',cap',cur,h2,_⟩
 ·exact ⟨none,0,by rw [h2,h3]⟩
 ·exact ⟨some (AD g' 0),cap',h2⟩
def CY (q:PtrM) (r:(Int × Int) × KM):Array Value:=#[VI r.1.1,VU r.1.2,VI r.2.i.sets,VI r.2.i.ways,.slice q.a1 r.2.i.es.length q.c1,VI r.2.d.sets,VI r.2.d.ways,.slice q.a2 r.2.d.es.length q.c2,VI r.2.p.sets,VI r.2.p.ways,.slice q.a3 r.2.p.es.length q.c3]
theorem TransOwn.open {base:Nat} {w:World} {x:Value} {r:(Int × Int) × KM} (h:TransOwn base w x r) (p:PtrM):∃a1 c1 a2 c2 a3 c3,x=.agg (CY (pK p a1 c1 a2 c2 a3 c3) r)∧KRows base w (pK p a1 c1 a2 c2 a3 c3) r.2:=by
 obtain ⟨s1,s2,s3,rfl,o1,o2,o3⟩:=h;obtain ⟨a1,c1,rfl⟩:=Ej o1;obtain ⟨a2,c2,rfl⟩:=Ej o2;obtain ⟨a3,c3,rfl⟩:=Ej o3;exact ⟨a1,c1,a2,c2,a3,c3,rfl,o1,o2,o3⟩
theorem Gz {P:Program} {fn:Func} {R:Ending->World->Prop} {a:Act} {w:World} {s t:Tmp} {T U:TypeId} {b c:Nat} {V W:Value} (hr:fn.results=#[ResultVar.cell s T,ResultVar.cell t U]) (hs:a.tmps[s]?=some (PT b 0)) (ht:a.tmps[t]?=some (PT c 0)) (hl:(loadVar T (AD b 0)).run P w=.ok V w) (hm:(loadVar U (AD c 0)).run P w=.ok W w) (hd:a.defers=[]) (hR:R (.returned (.tuple #[V,W])) w):bodyPost P fn R .ret a w:=by
 refine bodyPost_ret (v:=.tuple #[V,W]) ?_ hd hR;simp [results,hr,hs,ht,asAddr,hl,hm,Sem.run_bind]
theorem DU (p:PtrM) (al:Option Addr) (cl:Nat) (pick:Int) (r:RunM) (kind va:Int) (w:World) (hr:RunIn w p al cl r) (hk:ROk r) (hpk:0<=pick∧pick<=255) (hkd:0<=kind∧kind<=2) (hv:inU va) (hll:r.looks.length<=7):
 Calls Tryz.prog 68 #[.agg (Bb p al cl true pick r),VI kind,VU va] w fun e w'=>(∃p' al' cl',e=.returned (.tuple #[.agg (Bb p' al' cl' true pick (ed true pick r kind va)),BJ (aM true pick r.h kind va).1])∧RunIn w' p' al' cl' (ed true pick r kind va)∧From w.heap.size p p'∧FromL w.heap.size al al')∧Bw w w':=by
 have hmem:=BW hk.h.v.size;have HI:=hid hr;have HOK:=hid hk;have HLk:=hid hr.looks;have HLa:=hid hr.looka;have HP:Hid (∀g cap,(Bb p al cl true pick r).setIfInBounds 25 (SL g (r.looks.length+1) cap)=Bb p (some (AD g 0)) cap true pick ⟨r.h,r.cause,r.tval,r.looks++[(kind,va)],r.fenced,r.fence⟩):=fun g cap=>by
  unfold Bb;simp
 have hsz:=ef p al cl true pick r;have g25:(Bb p al cl true pick r)[25]?=some (.slice al r.looks.length cl):=rfl;have HO:=hid (rp p al cl true pick r);generalize Bb p al cl true pick r=C at *;obtain ⟨N,hN⟩:∃N,r.looks.length=N:=⟨_,rfl⟩;rw [hN] at HLk HLa HP g25 hll;have HN:=hid hN;clear hr hN hk;go_enter Tryz.func68,Tryz.ntmps68;go_upto_region 1 with fail;obtain ⟨v1,Ev1,F⟩:=ax3 w C zS #[VI 0,VU 0] 54 54 161;rw [Ev1.out];clear Ev1;obtain ⟨h3,h6,h7,l1,n1⟩:=F;have H3:Hid _:=h3;have H6:Hid _:=h6;have H7:Hid _:=h7;have b1:w.heap.size<v1.heap.size:=by omega
 have b2:w.heap.size+1<v1.heap.size:=by omega
 have b3:w.heap.size+2<v1.heap.size:=by omega
 have c25:=ce h3 25 g25;have OE:=OwnC.new 59 2 v1 [] 0 rfl (by decide);have nE:=(Below.refl v1.heap.size v1).alloc nle (Obj.cells #[] 59);clear h3 h6 h7 l1;go_upto_region 2 with (at_builtin;first
  | (refine BP _ rfl (.tmp 9) (.tmp 11) 50 rfl 59 Tryz.underlying50 (.agg #[VI 0,VU 0]) 2 16 Tryz.infoLk rfl (by decide) v1.heap.size v1.heap.size 0 0 [] rfl OE al N cl (wV r.looks) rfl HLa.out.1 HLa.out.2 (RowC.keep (RowC.keep HLk.out n1) nE) (CX _) (by omega) (by omega) v1.heap.size v1 nE nle ?_;intro g2 cap2 v2 o2 n2;have n3:=(Below.refl v2.heap.size v2).alloc nle (Obj.cells #[VI kind,VU va] 59);have n23:=bst n2 n3;simp only [Nat.zero_add,List.nil_append] at o2 |-;have o3:=OwnC.keep o2 n3 o2.facts.2.2.1;have q3:=(OwnC.new 59 2 v2 (wV [(kind,va)]) 1 rfl (by decide)).row;have z2:=n2.size;clear OE nE)
  | (refine BP _ rfl (.tmp 12) (.tmp 16) 50 rfl 59 Tryz.underlying50 (.agg #[VI 0,VU 0]) 2 16 Tryz.infoLk rfl (by decide) v1.heap.size g2 N cap2 (wV r.looks) rfl o3 (some (AD v2.heap.size 0)) 1 1 (wV [(kind,va)]) rfl (fun h=>(by cases h)) (fun q hq=>by cases hq;rfl) q3 (CX _) (by omega) (by omega) v1.heap.size v1 n23 nle ?_;intro g4 cap4 v4 o4 n4;have k3:=ag H3.out n4 b1;have c25:=ce k3 25 g25;have f25:=ay k3 25;have b4:=ltl b1 n4.size;clear o2 o3 q3 n2 n3 n23 z2))
 have f4:=o4.facts;have hg1:=f4.2.1;have hg2:=f4.2.2.1;have HC4:Hid (N+1<=cap4∧cap4<=9223372036854775807):=⟨f4.2.2.2.1,by have:=f4.2.2.2.2;unfold maxLen at this;exact this⟩;have ng':g4≠w.heap.size:=by omega
 have K3:Hid _:=cV k3 25 (SL g4 (N+1) cap4);have K6:Hid _:=qV (ag H6.out n4 b2) 25 (SL g4 (N+1) cap4) (show w.heap.size+1≠w.heap.size by omega);have K7:Hid _:=qV (ag H7.out n4 b3) 25 (SL g4 (N+1) cap4) (show w.heap.size+2≠w.heap.size by omega);have n5:=eO (bst n1 n4) nle 25 (SL g4 (N+1) cap4);have O5:Hid (OwnC 59 2 (v4.setCell (AD w.heap.size 25) (SL g4 (N+1) cap4)) v1.heap.size g4 (N+1) cap4 (wV (r.looks++[(kind,va)]))):=by
  rw [Fo];exact OwnC.gb o4 (aj (cC v4 (some w.heap.size)) 25 (SL g4 (N+1) cap4)) ng'
 have z5:v1.heap.size<=(v4.setCell (AD w.heap.size 25) (SL g4 (N+1) cap4)).heap.size:=by simp;exact n4.size
 have hg3:g4<(v4.setCell (AD w.heap.size 25) (SL g4 (N+1) cap4)).heap.size:=by simp;exact hg2
 generalize v4.setCell (AD w.heap.size 25) (SL g4 (N+1) cap4)=v5 at K3 K6 K7 n5 O5 z5 hg3 |-;have HE:Hid _:=HP.out g4 cap4;have hsz2:(C.setIfInBounds 25 (SL g4 (N+1) cap4)).size=31:=by simp only [Array.size_setIfInBounds,hsz]
 have hone:=Dw HO.out 25 (v:=SL g4 (N+1) cap4) rfl;generalize C.setIfInBounds 25 (SL g4 (N+1) cap4)=D at K3 HE hsz2 hone;clear o4 f4 k3 c25 f25 n4 H3 H6 H7 hg2 n1 HLk HLa;have HD:=HE.out;have g21:D[21]?=some (.bool true):=by rw [HD];rfl
 have g22:D[22]?=some (VI pick):=by rw [HD];rfl
 have g0:D[0]?=some (.slice p.am r.h.mem.length p.cm):=by rw [HD];rfl
 have HDh:Hid ((D.toList.drop 0).take 21=(aA p r.h).toList):=by show _=_;rw [HD];rfl
 have HDk:Hid ((D.toList.drop 12).take 9=(kA p r.h.k).toList):=by show _=_;rw [HD];rfl
 clear HD;have c21:=ce K3.out 21 g21;have b5:w.heap.size<v5.heap.size:=by omega
 go_upto_region 3 with fail;clear c21;obtain ⟨M,hM⟩:∃M,r.h.mem.length=M:=⟨_,rfl⟩;rw [hM] at g0;have HPl:Hid (∀u,Bw w u->Calls Tryz.prog 91 #[.slice p.am M p.cm,Bz r.h.mode r.h.sum r.h.mxr r.h.satp,VI kind,VU va] u fun e w'=>e=.returned (BJ (aM true pick r.h kind va).1)∧Bw u w'):=fun u hu=>by
  have hB:=HI.out.h.mem.keep hu;rw [hM] at hB;exact Fw p.am M p.cm r.h.mem r.h.mode r.h.sum r.h.mxr r.h.satp kind va u (by omega) (by have:=HI.out.h.memc.1;omega) HI.out.h.memc.2 HOK.out.h.satp.1 HOK.out.h.satp.2 hv.1 hv.2 hB
 have HCt:=hid fun u=>Eg p r.h u;have HLh:=hid fun (u:World) (hu:u.heap[w.heap.size]?=some (.cells D 54 (0,0)))=>hU (P:=Tryz.prog) (T:=44) hu Tryz.underlying44 rfl (o:=0) (aA p r.h).toList ph HDh.out rfl;have HLr:=hid fun (u:World) (hu:u.heap[w.heap.size]?=some (.cells D 54 (0,0)))=>ey (P:=Tryz.prog) (T:=54) hu Tryz.underlying54 rfl (by rw [hsz2];exact po);have hMl:M<=4096:=by omega
 clear hM hmem;generalize aA p r.h=E at *;have HTV:Hid (∃tv,BJ (aM true pick r.h kind va).1=.agg tv∧tv.size=2∧tv.all (·.oneCell')=true):=⟨_,rfl,rfl,by simp [Value.oneCell']⟩;obtain ⟨tv,htv,tvs,tvo⟩:=HTV.out;rw [htv] at HPl;have HTw:Hid _:=htv;clear htv HTV;have HTo:=hid tvo;clear tvo;have HL0:Hid (∀u:World,u.heap[w.heap.size]?=some (.cells D 54 (0,0))->(Instr.loadAt 22 (PT w.heap.size 0)).run Tryz.prog u=.ok (.slice p.am M p.cm) u):=fun u hu=>by
  have h1:=ce hu 0 g0;go_simp
 have nD:=bdr v5;have hF:v5.drew.heap[w.heap.size]?=some (.cells D 54 (0,0)):=K3.out;refine ax (fun u=>u.heap[w.heap.size]?=some (.cells D 54 (0,0))) 10 ?_;refine ak 0 21 (.agg D) rfl hF ?_ (hy:=fun u hu=>aP rfl (HLr.out u hu))
 go_frame
 refine ak 1 22 (PT w.heap.size 0) rfl hF ?_;refine ak 2 23 (PT w.heap.size 0) rfl hF ?_
 go_frame
 refine ak 3 24 (.slice p.am M p.cm) rfl hF ?_ (hy:=fun u hu=>aP rfl (HL0.out u hu));refine ak 4 25 (PT w.heap.size 0) rfl hF ?_
 go_frame
 refine ak 5 26 (.agg E) rfl hF ?_ (hy:=fun u hu=>aP rfl (HLh.out u hu));refine ak 7 28 (VI kind) rfl hF ?_;refine ak 8 29 (VU va) rfl hF ?_
 go_frame
 refine jq 6 27 rfl (f:=34) (args:=#[.agg E]) ?_;refine Calls.mono (HCt.out v5.drew) ?_;rintro e u6 ⟨rfl,m6⟩;replace m6:=bst nD m6;refine ⟨_,rfl,fun _=>ag K3.out m6 b5,?_⟩
 go_frame
 refine jq 9 30 rfl (f:=91) (args:=#[.slice p.am M p.cm,Bz r.h.mode r.h.sum r.h.mxr r.h.satp,VI kind,VU va]) ?_;refine (HPl.out u6 (bst n5 m6)).mono ?_;rintro e v6 ⟨rfl,n6⟩;replace n6:=bst m6 n6;refine ⟨_,rfl,fun _=>ag K3.out n6 b5,?_⟩
 go_frame
 have L6:Hid _:=ag K6.out n6 (by omega);have L7:Hid _:=ag K7.out n6 (by omega);have n7:=bst n5 n6;have O7:Hid _:=OwnC.keep O5.out n6 hg3;have HS6:Hid _:=dh (P:=Tryz.prog) (T:=54) (V:=D) L6.out (by rw [hsz2];exact po) (by rw [hsz2,cZ]) hone;have M6:Hid _:=cD (V:=D) L6.out (by rw [hsz2,cZ]);have M7:Hid _:=Cd L7.out 0 D.toList (show w.heap.size+2≠w.heap.size+1 by omega);have n8:=dn (show w.heap.size<=w.heap.size+1 by omega) D.toList 0 v6 n7;have O8:Hid _:=OwnC.gb O7.out (bK (w.heap.size+1) D.toList 0 v6 v6 (cC v6 _)) (show g4≠w.heap.size+1 by omega);have HS7:Hid _:=dh (P:=Tryz.prog) (T:=161) (V:=tv) M7.out (by rw [tvs];exact Fm) tvs HTo.out;have N7:Hid _:=cD (V:=tv) M7.out tvs;have N6:Hid _:=Cd M6.out 0 tv.toList (show w.heap.size+1≠w.heap.size+2 by omega);have n9:=dn (show w.heap.size<=w.heap.size+2 by omega) tv.toList 0 _ n8;have O9:Hid _:=OwnC.gb O8.out (bK (w.heap.size+2) tv.toList 0 _ _ (cC _ _)) (show g4≠w.heap.size+2 by omega);refine dM 10 6 21 rfl HS6.out ?_;refine dM 11 7 30 rfl HS7.out ?_;refine de ?_;go_wp2_with fail;refine Gz (b:=w.heap.size+1) (c:=w.heap.size+2) Tryz.results68 rfl rfl (dR (P:=Tryz.prog) N6.out Tryz.underlying54 rfl (by rw [hsz2];exact po)) (dR (P:=Tryz.prog) N7.out Tryz.underlying161 rfl (by rw [tvs];exact Fm)) rfl ?_;refine ⟨⟨p,some (AD g4 0),cap4,by rw [HE.out,HTw.out];rfl,?_,fun q hq=>.inl hq,fun q hq=>by cases hq;exact .inr (show w.heap.size<=g4 by omega)⟩,n9⟩;refine ⟨HI.out.h.keep n9,?_,?_,⟨fun h=>(by cases h),fun q hq=>by cases hq;rfl⟩,?_,fun q hq=>by cases hq;exact (OwnC.facts O9.out).2.2.1⟩
 ·show RowC _ _ (r.looks++[(kind,va)]).length 2 _;rw [List.length_append,HN.out];exact OwnC.row O9.out
 ·show (r.looks++[(kind,va)]).length<=_∧_;rw [List.length_append,HN.out];exact HC4.out
 ·show (r.looks++[(kind,va)]).length<=_;rw [List.length_append,HN.out];show N+1<=8;omega
end Go.Proofs.YthdgiakgepmabaaGreat
