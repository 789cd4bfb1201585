import Derived.Test.YtpdddbobhndbjaaGreatPk16
namespace Go.Proofs.YtpdddbobhndbjaaGreat
open Go.RowKit
set_option linter.unusedVariables false
set_option maxHeartbeats 6400000
set_option maxRecDepth 20000
section
attribute [local go_sem ↓] Go.wp_at_zero Go.wp_at_succ
theorem lx:(∀(a:Option Addr) (len cap:Nat) (mode:Int) (sum mxr:Bool) (satp:Int) (v:Value) (k:KM) (kind va pick:Int) (w:World) (h:KAt w v k) (hgood:bW k=true) (h0:0<=kind) (h1:kind<=2) (h2:0<=mode) (h3:mode<=2) (h4:0<=pick) (h5:pick<=255) (hs0:0<=satp) (hs1:satp<=18446744073709551615) (hon:onM mode satp=true) (hk:¬kind=0) (hv0:0<=va) (hv1:va<=18446744073709551615) (hcan:du va=true) (hf:(ba k.d va (aM satp)).1=true) (hp:0<=(ba k.d va (aM satp)).2.2.2∧(ba k.d va (aM satp)).2.2.2<=18446744073709551615) (hlv: -9223372036854775808<=(ba k.d va (aM satp)).2.2.1∧(ba k.d va (aM satp)).2.2.1<=9223372036854775807),Calls Tryz.prog 86 #[.slice a len cap,dV mode sum mxr satp,v,.int .i64 kind,.int .u64 va,.int .i64 pick] w fun e w'=>(∃x,e=.returned x∧TransOwn w.heap.size w' x (eV (ba k.d va (aM satp)).2.2.2 (ba k.d va (aM satp)).2.2.1 mode sum mxr kind va,k))∧Bw w w')∧
 (∀(a:Option Addr) (len cap:Nat) (mode:Int) (sum mxr:Bool) (satp:Int) (v:Value) (k:KM) (kind va pick:Int) (w:World) (h:KAt w v k) (hgood:bW k=true) (h0:0<=kind) (h1:kind<=2) (h2:0<=mode) (h3:mode<=2) (h4:0<=pick) (h5:pick<=255) (hs0:0<=satp) (hs1:satp<=18446744073709551615) (hon:onM mode satp=true) (hk:kind=0) (hv0:0<=va) (hv1:va<=18446744073709551615) (hcan:du va=true) (hf:(ba k.i va (aM satp)).1=true) (hp:0<=(ba k.i va (aM satp)).2.2.2∧(ba k.i va (aM satp)).2.2.2<=18446744073709551615) (hlv: -9223372036854775808<=(ba k.i va (aM satp)).2.2.1∧(ba k.i va (aM satp)).2.2.1<=9223372036854775807),Calls Tryz.prog 86 #[.slice a len cap,dV mode sum mxr satp,v,.int .i64 kind,.int .u64 va,.int .i64 pick] w fun e w'=>(∃x,e=.returned x∧TransOwn w.heap.size w' x (eV (ba k.i va (aM satp)).2.2.2 (ba k.i va (aM satp)).2.2.1 mode sum mxr kind va,k))∧Bw w w'):=by
 refine ⟨?_,?_⟩;have mL:=trivial
 rotate_left
 have mP:=trivial
 rotate_left
 all_goals
  intro a len cap mode sum mxr satp v k kind va pick w h hgood h0 h1 h2 h3 h4 h5 hs0 hs1 hon hk hv0 hv1 hcan hf hp hlv;have HK:=hid fun u (hu:Bw w u)=>eN v k u (h.keep hu);have HL:=hid fun u (hu:Bw w u)=>gH v k u (h.keep hu);have HO:Hid (∀u,Calls Tryz.prog 108 #[dV mode sum mxr satp] u fun e w'=>e=.returned (.bool true)∧Bw u w'):=fun u=>by have:=lT mode sum mxr satp u hs0 hs1;rw [hon] at this;exact this
  have HC:Hid (∀u:World,Calls Tryz.prog 112 #[.int .u64 va] u fun e w'=>e=.returned (.bool true)∧Bw u w'):=fun u=>by
   have:=er va u hv0 hv1;rw [hcan] at this;refine this.mono ?_;rintro e w' ⟨rfl,n,rfl⟩;exact ⟨rfl,below_drewN (Below.refl _ _) n⟩
  have HKeep:=hid h;obtain ⟨a1,c1,a2,c2,a3,c3,rfl,T1,T2,T3⟩:=h;first
   | (replace mL:=mL;have HLk:Hid (∀u,Bw w u->Calls Tryz.prog 114 #[.agg #[.int .i64 k.d.sets,.int .i64 k.d.ways,.slice a2 k.d.es.length c2],.int .u64 va,.int .u64 (aM satp)] u fun e w'=>e=.returned (.agg #[.bool (ba k.d va (aM satp)).1,.int .i64 (ba k.d va (aM satp)).2.1,.int .i64 (ba k.d va (aM satp)).2.2.1,.int .u64 (ba k.d va (aM satp)).2.2.2])∧Bw u w'):=fun u hu=>fB _ k.d va (aM satp) u (T2.keep hu) hv0 hv1)
   | (replace mP:=mP;have HLk:Hid (∀u,Bw w u->Calls Tryz.prog 114 #[.agg #[.int .i64 k.i.sets,.int .i64 k.i.ways,.slice a1 k.i.es.length c1],.int .u64 va,.int .u64 (aM satp)] u fun e w'=>e=.returned (.agg #[.bool (ba k.i va (aM satp)).1,.int .i64 (ba k.i va (aM satp)).2.1,.int .i64 (ba k.i va (aM satp)).2.2.1,.int .u64 (ba k.i va (aM satp)).2.2.2])∧Bw u w'):=fun u hu=>fB _ k.i va (aM satp) u (T1.keep hu) hv0 hv1)
  first
   | (replace mL:=mL;have HLf:Hid (∀u,Calls Tryz.prog 116 #[.int .u64 (ba k.d va (aM satp)).2.2.2,.int .i64 (ba k.d va (aM satp)).2.2.1,dV mode sum mxr satp,.int .i64 kind,.int .u64 va] u fun e w'=>e=.returned (fu (eV (ba k.d va (aM satp)).2.2.2 (ba k.d va (aM satp)).2.2.1 mode sum mxr kind va))∧Bw u w'):=fun u=>mN _ _ mode sum mxr satp kind va u hp.1 hp.2 hv0 hv1 hlv.1 hlv.2)
   | (replace mP:=mP;have HLf:Hid (∀u,Calls Tryz.prog 116 #[.int .u64 (ba k.i va (aM satp)).2.2.2,.int .i64 (ba k.i va (aM satp)).2.2.1,dV mode sum mxr satp,.int .i64 kind,.int .u64 va] u fun e w'=>e=.returned (fu (eV (ba k.i va (aM satp)).2.2.2 (ba k.i va (aM satp)).2.2.1 mode sum mxr kind va))∧Bw u w'):=fun u=>mN _ _ mode sum mxr satp kind va u hp.1 hp.2 hv0 hv1 hlv.1 hlv.2)
  have HA:Hid (∀u:World,Calls Tryz.prog 115 #[.int .u64 satp] u fun e w'=>e=.returned (.int .u64 (aM satp))∧Bw u w'):=fun u=>by
   refine (pz satp u hs0 hs1).mono ?_;rintro e w' ⟨rfl,n,rfl⟩;exact ⟨rfl,below_drewN (Below.refl _ _) n⟩
  first
   | (replace mL:=mL;generalize eV (ba k.d va (aM satp)).2.2.2 (ba k.d va (aM satp)).2.2.1 mode sum mxr kind va=lf at HLf |-)
   | (replace mP:=mP;generalize eV (ba k.i va (aM satp)).2.2.2 (ba k.i va (aM satp)).2.2.1 mode sum mxr kind va=lf at HLf |-)
  obtain ⟨lc,lp⟩:=lf;rw [hf] at HLk;first
   | (replace mL:=mL;generalize (ba k.d va (aM satp)).2.2.2=pt at HLk HLf hp)
   | (replace mP:=mP;generalize (ba k.i va (aM satp)).2.2.2=pt at HLk HLf hp)
  first
   | (replace mL:=mL;generalize (ba k.d va (aM satp)).2.2.1=lv at HLk HLf hlv)
   | (replace mP:=mP;generalize (ba k.i va (aM satp)).2.2.1=lv at HLk HLf hlv)
  first
   | (replace mL:=mL;generalize (ba k.d va (aM satp)).2.1=ix at HLk)
   | (replace mP:=mP;generalize (ba k.i va (aM satp)).2.1=ix at HLk)
  unfold fu dV at HLf;simp only at HLf;clear hcan hf HKeep T1 T2 T3;generalize aM satp=asd at HLk HA;rw [hgood] at HK;clear hgood hon;first
   | (replace mL:=mL)
   | (replace mP:=mP;subst hk)
  obtain ⟨v1,Ev1,n1,H1,H2,H3,l1⟩:=al3 w #[.int .i64 mode,.bool sum,.bool mxr,.int .u64 satp] #[.int .i64 k.i.sets,.int .i64 k.i.ways,.slice a1 k.i.es.length c1,.int .i64 k.d.sets,.int .i64 k.d.ways,.slice a2 k.d.es.length c2,.int .i64 k.p.sets,.int .i64 k.p.ways,.slice a3 k.p.es.length c3] #[.int .i64 0,.int .u64 0,.int .i64 0,.int .i64 0,.slice none 0 0,.int .i64 0,.int .i64 0,.slice none 0 0,.int .i64 0,.int .i64 0,.slice none 0 0] 172 39 175;unfold dV at HO |-;go_enter Tryz.func86,Tryz.ntmps86;go_upto_region 1 with fail;rw [Ev1.out];clear Ev1;obtain ⟨⟨d0,d1,d2,d3⟩,_⟩:=az H1.out;obtain ⟨b0,b1,b2,b3,b4,b5,b6,b7,b8⟩:=cT H2.out;go_cut [49] (fun s49 wx=>s49=.bool false∧Bw v1 wx)
  case first=>
   go_wp2_with fail;refine (HK.out v1 n1).mono ?_;rintro e v2 ⟨rfl,n2⟩;obtain ⟨⟨d0,d1,d2,d3⟩,_⟩:=az (ah H1 n2).out;go_wp2_with fail;go_meet;refine ⟨?_,n2⟩;simp;first
    | (replace mL:=mL;omega)
    | (replace mP:=mP;try omega)
  obtain ⟨rfl,n2⟩:=hcut;generalize wc=v2 at n2 |-;have l2:=n2.size;have n12:=bst n1 n2;have K1:=ah H1 n2;have K2:=ah H2 n2;have K3:=ah H3 n2;clear d0 d1 d2 d3 b0 b1 b2 b3 b4 b5 b6 b7 b8;obtain ⟨⟨d0,d1,d2,d3⟩,_⟩:=az K1.out;obtain ⟨b0,b1,b2,b3,b4,b5,b6,b7,b8⟩:=cT K2.out;have s0:w.heap.size+1+1<v2.heap.size:=by omega
  clear n1 n2 H1 H2 H3;go_wp2_with fail;refine (HL.out v2 n12).mono ?_;rintro e v3 ⟨⟨x,rfl,g1,e1,g2,e2,g3,e3,rfl,o1,o2,o3⟩,n3⟩;have l3:=n3.size;have n13:=bst n12 n3;have P1:=ah K1 n3;have P2:=ah K2 n3;have P3:=ah K3 n3;have O1:Hid _:=o1;have O2:Hid _:=o2;have O3:Hid _:=o3;clear o1 o2 o3 n12 n3 K1 K2 K3 d0 d1 d2 d3 b0 b1 b2 b3 b4 b5 b6 b7 b8;obtain ⟨⟨d0,d1,d2,d3⟩,_⟩:=az P1.out;have t0:w.heap.size<v3.heap.size:=by omega
  have t1:w.heap.size+1<v3.heap.size:=by omega
  have t2:w.heap.size+1+1<v3.heap.size:=by omega
  go_wp2_with fail;obtain ⟨v4,Ev4,n4,H4,l4⟩:=al1 v3 #[.int .i64 0,.int .u64 0,.int .i64 k.i.sets,.int .i64 k.i.ways,.slice (some ⟨g1,0,none⟩) k.i.es.length e1,.int .i64 k.d.sets,.int .i64 k.d.ways,.slice (some ⟨g2,0,none⟩) k.d.es.length e2,.int .i64 k.p.sets,.int .i64 k.p.ways,.slice (some ⟨g3,0,none⟩) k.p.es.length e3] 175;rw [Ev4.out];clear Ev4;refine (HO.out v4).mono ?_;rintro e v5 ⟨rfl,n5⟩;have l5:=n5.size;have n45:=bst n4 n5;have n15:=bst n13 n45;have Q1:=ah P1 n45;have Q2:=ah P2 n45;have Q3:=ah P3 n45;have Q4:=ah H4 n5;have U1:=aj O1.out n45;have U2:=aj O2.out n45;have U3:=aj O3.out n45;have a1':=bZ O1.out;have a2':=bZ O2.out;have a3':=bZ O3.out;have V1:Hid _:=U1;have V2:Hid _:=U2;have V3:Hid _:=U3;have A1:Hid _:=a1';have A2:Hid _:=a2';have A3:Hid _:=a3';have LL:=hid l3;clear U1 U2 U3 a1' a2' a3' O1 O2 O3 n4 n5 P1 P2 P3 H4 d0 d1 d2 d3;go_wp2_with fail;refine (HC.out v5).mono ?_;rintro e v6 ⟨rfl,n6⟩;have l6:=n6.size;have n16:=bst n15 n6;have R1:=ah Q1 n6;have R2:=ah Q2 n6;have R3:=ah Q3 n6;have R4:=ah Q4 n6;have W1:Hid _:=aj V1.out n6;have W2:Hid _:=aj V2.out n6;have W3:Hid _:=aj V3.out n6;clear n6 n15 V1 V2 V3 Q1 Q2 Q3 Q4;obtain ⟨⟨d0,d1,d2,d3⟩,_⟩:=az R1.out;obtain ⟨b0,b1,b2,b3,b4,b5,b6,b7,b8⟩:=cT R2.out;have s6:w.heap.size<v6.heap.size:=by omega
  have s7:w.heap.size+1<v6.heap.size:=by omega
  have nk1:v6.heap.size≠w.heap.size:=by omega
  have nk2:w.heap.size≠v6.heap.size:=by omega
  have nk3:w.heap.size+1≠v6.heap.size:=by omega
  have nk4:v6.heap.size≠w.heap.size+1:=by omega
  go_wp2_with fail;first
   | (replace mL:=mL;obtain ⟨v7,Ev7,n7,H7,l7⟩:=al1 v6 #[.int .i64 k.d.sets,.int .i64 k.d.ways,.slice a2 k.d.es.length c2] 37)
   | (replace mP:=mP;obtain ⟨v7,Ev7,n7,H7,l7⟩:=al1 v6 #[.int .i64 k.i.sets,.int .i64 k.i.ways,.slice a1 k.i.es.length c1] 37)
  rw [Ev7.out];clear Ev7;have n17:=bst n16 n7;have S1:=ah R1 n7;have S3:=ah R3 n7;have S4:=ah R4 n7;have X1:Hid _:=aj W1.out n7;have X2:Hid _:=aj W2.out n7;have X3:Hid _:=aj W3.out n7;clear W1 W2 W3 R1 R2 R3 R4 b0 b1 b2 b3 b4 b5 b6 b7 b8 d0 d1 d2 d3;have l6':=l7;first
   | (replace mL:=mL;have HX:Hid (∀w',Bw v7 w'->w'.cell? ⟨v6.heap.size,0,none⟩=some (.int .i64 k.d.sets)∧w'.cell? ⟨v6.heap.size,1,none⟩=some (.int .i64 k.d.ways)∧w'.cell? ⟨v6.heap.size,2,none⟩=some (.slice a2 k.d.es.length c2)∧w'.cell? ⟨w.heap.size,3,none⟩=some (.int .u64 satp)):=fun v hv=>by
        obtain ⟨⟨q0,q1,q2⟩,_⟩:=aA (ae H7.out hv l7)
        obtain ⟨⟨_,_,_,q3⟩,_⟩:=az (ae S1.out hv (by omega))
        exact ⟨q0,q1,q2,q3⟩)
   | (replace mP:=mP;have HX:Hid (∀w',Bw v7 w'->w'.cell? ⟨v6.heap.size,0,none⟩=some (.int .i64 k.i.sets)∧w'.cell? ⟨v6.heap.size,1,none⟩=some (.int .i64 k.i.ways)∧w'.cell? ⟨v6.heap.size,2,none⟩=some (.slice a1 k.i.es.length c1)∧w'.cell? ⟨w.heap.size,3,none⟩=some (.int .u64 satp)):=fun v hv=>by
        obtain ⟨⟨q0,q1,q2⟩,_⟩:=aA (ae H7.out hv l7)
        obtain ⟨⟨_,_,_,q3⟩,_⟩:=az (ae S1.out hv (by omega))
        exact ⟨q0,q1,q2,q3⟩)
  obtain ⟨c70,c71,c72,c73⟩:=HX.out v7 (Below.refl _ _);have nv1:v7.heap.size≠w.heap.size:=by omega
  have nv2:w.heap.size≠v7.heap.size:=by omega
  have nv3:v7.heap.size≠v6.heap.size:=by omega
  have nv4:v6.heap.size≠v7.heap.size:=by omega
  refine jy 6 15 ?_ _ _ (Obj.cells #[.bool false,.int .i64 0,.int .i64 0,.int .u64 0] 217) (by kernel_rfl) (by kernel_rfl) rfl rfl rfl (fun b w=>by kernel_rfl) (by kernel_rfl) ?h13 ?q13
  case h13=>
   intro w0 hw0;have ne:=db w0;have l0:=hw0.size;obtain ⟨q0,q1,q2,q3⟩:=HX.out w0 hw0;have y0:=aD q0 (show v6.heap.size<w0.heap.size by omega);have y1:=aD q1 (show v6.heap.size<w0.heap.size by omega);have y2:=aD q2 (show v6.heap.size<w0.heap.size by omega);have y3:=aD q3 (show w.heap.size<w0.heap.size by omega);clear q0 q1 q2 q3;simp only [List.take_succ_cons,List.take_zero];repeat (go_big_quiet_step (first
    | (go_at_call 115;exact cH _ (HA.out _))
    | (go_at_call 114;exact cH _ (HLk.out _ (bst n17 (bst hw0 (Lies.h _)))))))
   refine wpQuiet_nil ?_;exact rfl
  case q13=>
   intro pb v8z hpb m8z hE8;have E8z:=hid hE8;have lh:=(hpl hE8);clear hE8 c70 c71 c72 c73;obtain ⟨⟨h0',h1',h2',h3'⟩,f0,f1,f2,f3⟩:=az E8z.out;go_upto_if 80 with fail;have m8:=oZ m8z hpb (Value.bool true) (Value.int .i64 ix) (Value.int .i64 lv) (Value.int .u64 pt);have E8:Hid (((((v8z.setCell ⟨pb,0,none⟩ (Value.bool true)).setCell ⟨pb,1,none⟩ (Value.int .i64 ix)).setCell ⟨pb,2,none⟩ (Value.int .i64 lv)).setCell ⟨pb,3,none⟩ (Value.int .u64 pt)).heap[pb]?=some (.cells #[.bool true,.int .i64 ix,.int .i64 lv,.int .u64 pt] 217 (0,0))):=pC E8z.out;generalize ((((v8z.setCell ⟨pb,0,none⟩ (Value.bool true)).setCell ⟨pb,1,none⟩ (Value.int .i64 ix)).setCell ⟨pb,2,none⟩ (Value.int .i64 lv)).setCell ⟨pb,3,none⟩ (Value.int .u64 pt))=v8 at m8 E8 |-;clear h0' h1' h2' h3' f0 f1 f2 f3 E8z m8z lh;have n18:=bst n17 m8;have l8:=m8.size;have R1:=ah S1 m8;have R3:=ah S3 m8;have R4:=ah S4 m8;have W1:Hid _:=aj X1.out m8;have W2:Hid _:=aj X2.out m8;have W3:Hid _:=aj X3.out m8;clear m8 n17 X1 X2 X3 S1 S3 S4 H7 HX;obtain ⟨⟨d0,d1,d2,d3⟩,_⟩:=az R1.out;obtain ⟨⟨h0,h1,h2,h3⟩,_⟩:=az E8.out;go_wp2_with fail;refine (HLf.out v8).mono ?_;rintro e v9 ⟨rfl,n9⟩;have U3:=ah R3 n9;have U4:=ah R4 n9;have l9:=n9.size;have Y1:Hid _:=aj W1.out n9;have Y2:Hid _:=aj W2.out n9;have Y3:Hid _:=aj W3.out n9;have n19:=bst n18 n9;clear d0 d1 d2 d3 h0 h1 h2 h3;have ll1:w.heap.size+1+1<v9.heap.size:=by omega
   have ll2:v3.heap.size<v9.heap.size:=by omega
   have ll3:v9.heap.size≠v3.heap.size:=by omega
   have ll4:v9.heap.size≠w.heap.size+1+1:=by omega
   obtain ⟨j0,j1,j2,j3,j4,j5,j6,j7,j8,j9,j10⟩:=cN U3.out;obtain ⟨m0,m1,m2,m3,m4,m5,m6,m7,m8,m9,m10⟩:=cN U4.out;have ff:=dF U3.out;have f0:=ff 0;have f1:=ff 1;have f2:=ff 2;have f3:=ff 3;have f4:=ff 4;have f5:=ff 5;have f6:=ff 6;have f7:=ff 7;have f8:=ff 8;have f9:=ff 9;have f10:=ff 10;have gg:=dF U4.out;have g0':=gg 0;have g1':=gg 1;clear ff gg;have ne1:v3.heap.size≠w.heap.size+1+1:=by omega
   have ne2:w.heap.size+1+1≠v3.heap.size:=by omega
   go_wp2_with fail;obtain ⟨_,z1,z1'⟩:=A1.out;obtain ⟨_,z2,z2'⟩:=A2.out;obtain ⟨_,z3,z3'⟩:=A3.out;have l3':=LL.out;have gO:=ak (ak (aq v9 (some v3.heap.size)) 0 (Value.int .i64 lc)) 1 (Value.int .u64 lp);refine bodyPost_ret (v:=.agg #[.int .i64 lc,.int .u64 lp,.int .i64 k.i.sets,.int .i64 k.i.ways,.slice (some ⟨g1,0,none⟩) k.i.es.length e1,.int .i64 k.d.sets,.int .i64 k.d.ways,.slice (some ⟨g2,0,none⟩) k.d.es.length e2,.int .i64 k.p.sets,.int .i64 k.p.ways,.slice (some ⟨g3,0,none⟩) k.p.es.length e3]) (by simp [results,Tryz.results86,go_sem,j0,j1,j2,j3,j4,j5,j6,j7,j8,j9,j10,ll1]) rfl
    ⟨⟨_,rfl,_,_,_,rfl,aP (aj (bY (bY Y1.out gO (by omega)) (qW _ (w.heap.size+1+1) _ _ _ _ _ _ _ _ _ _ _) (by omega)) ((Below.refl _ _).alloc nle _)) (by omega),aP (aj (bY (bY Y2.out gO (by omega)) (qW _ (w.heap.size+1+1) _ _ _ _ _ _ _ _ _ _ _) (by omega)) ((Below.refl _ _).alloc nle _)) (by omega),aP (aj (bY (bY Y3.out gO (by omega)) (qW _ (w.heap.size+1+1) _ _ _ _ _ _ _ _ _ _ _) (by omega)) ((Below.refl _ _).alloc nle _)) (by omega)⟩,Below.alloc (qV ((n19.setCell (p:=⟨v3.heap.size,0,none⟩) (by simp only;omega) _).setCell (p:=⟨v3.heap.size,1,none⟩) (by simp only;omega) _) (by omega) _ _ _ _ _ _ _ _ _ _ _) (by simp;omega) _⟩
end
section
attribute [local go_sem ↓] Go.wp_at_zero Go.wp_at_succ
theorem qx (a:Option Addr) (len cap:Nat) (mode:Int) (sum mxr:Bool) (satp:Int) (v:Value) (k:KM) (kind va pick:Int) (w:World) (h:KAt w v k)
 (hgood:bW k=true) (h0:0<=kind) (h1:kind<=2) (h2:0<=mode) (h3:mode<=2) (h4:0<=pick) (h5:pick<=255) (hs0:0<=satp) (hs1:satp<=18446744073709551615) (hon:onM mode satp=true) (hv0:0<=va) (hv1:va<=18446744073709551615) (hcan:du va=false):
 Calls Tryz.prog 86 #[.slice a len cap,dV mode sum mxr satp,v,.int .i64 kind,.int .u64 va,.int .i64 pick] w fun e w'=>(∃x,e=.returned x∧TransOwn w.heap.size w' x ((eA kind,0),k))∧Bw w w':=by
 have HK:=hid fun u (hu:Bw w u)=>eN v k u (h.keep hu);have HL:=hid fun u (hu:Bw w u)=>gH v k u (h.keep hu);have HO:Hid (∀u,Calls Tryz.prog 108 #[dV mode sum mxr satp] u fun e w'=>e=.returned (.bool true)∧Bw u w'):=fun u=>by have:=lT mode sum mxr satp u hs0 hs1;rw [hon] at this;exact this
 have HC:Hid (∀u:World,Calls Tryz.prog 112 #[.int .u64 va] u fun e w'=>e=.returned (.bool false)∧Bw u w'):=fun u=>by
  have:=er va u hv0 hv1;rw [hcan] at this;refine this.mono ?_;rintro e w' ⟨rfl,n,rfl⟩;exact ⟨rfl,below_drewN (Below.refl _ _) n⟩
 obtain ⟨a1,c1,a2,c2,a3,c3,rfl,_⟩:=h;clear hcan;have HF:=hid fun (u:World)=>iV kind u;generalize eA kind=pf at HF |-;rw [hgood] at HK;clear hgood hon;obtain ⟨v1,Ev1,n1,H1,H2,H3,l1⟩:=al3 w #[.int .i64 mode,.bool sum,.bool mxr,.int .u64 satp] #[.int .i64 k.i.sets,.int .i64 k.i.ways,.slice a1 k.i.es.length c1,.int .i64 k.d.sets,.int .i64 k.d.ways,.slice a2 k.d.es.length c2,.int .i64 k.p.sets,.int .i64 k.p.ways,.slice a3 k.p.es.length c3] #[.int .i64 0,.int .u64 0,.int .i64 0,.int .i64 0,.slice none 0 0,.int .i64 0,.int .i64 0,.slice none 0 0,.int .i64 0,.int .i64 0,.slice none 0 0] 172 39 175;unfold dV at HO |-;go_enter Tryz.func86,Tryz.ntmps86;go_upto_region 1 with fail;rw [Ev1.out];clear Ev1;obtain ⟨⟨d0,d1,d2,d3⟩,_⟩:=az H1.out;obtain ⟨b0,b1,b2,b3,b4,b5,b6,b7,b8⟩:=cT H2.out;go_cut [49] (fun s49 wx=>s49=.bool false∧Bw v1 wx)
 case first=>
  go_wp2_with fail;refine (HK.out v1 n1).mono ?_;rintro e v2 ⟨rfl,n2⟩;obtain ⟨⟨d0,d1,d2,d3⟩,_⟩:=az (ah H1 n2).out;go_wp2_with fail;go_meet;refine ⟨?_,n2⟩;simp;omega
 obtain ⟨rfl,n2⟩:=hcut;generalize wc=v2 at n2 |-;have l2:=n2.size;have n12:=bst n1 n2;have K1:=ah H1 n2;have K2:=ah H2 n2;have K3:=ah H3 n2;clear d0 d1 d2 d3 b0 b1 b2 b3 b4 b5 b6 b7 b8;obtain ⟨⟨d0,d1,d2,d3⟩,_⟩:=az K1.out;obtain ⟨b0,b1,b2,b3,b4,b5,b6,b7,b8⟩:=cT K2.out;have s0:w.heap.size+1+1<v2.heap.size:=by omega
 clear n1 n2 H1 H2 H3;go_wp2_with fail;refine (HL.out v2 n12).mono ?_;rintro e v3 ⟨⟨x,rfl,g1,e1,g2,e2,g3,e3,rfl,o1,o2,o3⟩,n3⟩;have l3:=n3.size;have n13:=bst n12 n3;have P1:=ah K1 n3;have P2:=ah K2 n3;have P3:=ah K3 n3;have O1:Hid _:=o1;have O2:Hid _:=o2;have O3:Hid _:=o3;clear o1 o2 o3 n12 n3 K1 K2 K3 d0 d1 d2 d3 b0 b1 b2 b3 b4 b5 b6 b7 b8;obtain ⟨⟨d0,d1,d2,d3⟩,_⟩:=az P1.out;have t0:w.heap.size<v3.heap.size:=by omega
 have t1:w.heap.size+1<v3.heap.size:=by omega
 have t2:w.heap.size+1+1<v3.heap.size:=by omega
 go_wp2_with fail;obtain ⟨v4,Ev4,n4,H4,l4⟩:=al1 v3 #[.int .i64 0,.int .u64 0,.int .i64 k.i.sets,.int .i64 k.i.ways,.slice (some ⟨g1,0,none⟩) k.i.es.length e1,.int .i64 k.d.sets,.int .i64 k.d.ways,.slice (some ⟨g2,0,none⟩) k.d.es.length e2,.int .i64 k.p.sets,.int .i64 k.p.ways,.slice (some ⟨g3,0,none⟩) k.p.es.length e3] 175;rw [Ev4.out];clear Ev4;refine (HO.out v4).mono ?_;rintro e v5 ⟨rfl,n5⟩;have l5:=n5.size;have n45:=bst n4 n5;have n15:=bst n13 n45;have Q1:=ah P1 n45;have Q2:=ah P2 n45;have Q3:=ah P3 n45;have Q4:=ah H4 n5;have U1:=aj O1.out n45;have U2:=aj O2.out n45;have U3:=aj O3.out n45;have a1':=bZ O1.out;have a2':=bZ O2.out;have a3':=bZ O3.out;have V1:Hid _:=U1;have V2:Hid _:=U2;have V3:Hid _:=U3;have A1:Hid _:=a1';have A2:Hid _:=a2';have A3:Hid _:=a3';have LL:=hid l3;clear U1 U2 U3 a1' a2' a3' O1 O2 O3 n4 n5 P1 P2 P3 H4 d0 d1 d2 d3;go_wp2_with fail;refine (HC.out v5).mono ?_;rintro e v6 ⟨rfl,n6⟩;have l6:=n6.size;have n16:=bst n15 n6;have R3:=ah Q3 n6;have R4:=ah Q4 n6;have W1:Hid _:=aj V1.out n6;have W2:Hid _:=aj V2.out n6;have W3:Hid _:=aj V3.out n6;clear n6 n15 V1 V2 V3 Q1 Q2 Q3 Q4;obtain ⟨j0,j1,j2,j3,j4,j5,j6,j7,j8,j9,j10⟩:=cN R3.out;obtain ⟨m0,m1,m2,m3,m4,m5,m6,m7,m8,m9,m10⟩:=cN R4.out;have ff:=dF R3.out;have f0:=ff 0;have f1:=ff 1;have f2:=ff 2;have f3:=ff 3;have f4:=ff 4;have f5:=ff 5;have f6:=ff 6;have f7:=ff 7;have f8:=ff 8;have f9:=ff 9;have f10:=ff 10;have gg:=dF R4.out;have g0':=gg 0;have g1':=gg 1;clear ff gg;have ne1:v3.heap.size≠w.heap.size+1+1:=by omega
 have ne2:w.heap.size+1+1≠v3.heap.size:=by omega
 go_wp2_with fail;refine (HF.out v6).mono ?_;rintro e v7 ⟨rfl,rfl⟩;go_wp2_with fail;obtain ⟨_,z1,z1'⟩:=A1.out;obtain ⟨_,z2,z2'⟩:=A2.out;obtain ⟨_,z3,z3'⟩:=A3.out;have gO:=ak (aq v7 (some v3.heap.size)) 0 (Value.int .i64 pf);refine bodyPost_ret (v:=.agg #[.int .i64 pf,.int .u64 0,.int .i64 k.i.sets,.int .i64 k.i.ways,.slice (some ⟨g1,0,none⟩) k.i.es.length e1,.int .i64 k.d.sets,.int .i64 k.d.ways,.slice (some ⟨g2,0,none⟩) k.d.es.length e2,.int .i64 k.p.sets,.int .i64 k.p.ways,.slice (some ⟨g3,0,none⟩) k.p.es.length e3]) (by simp [results,Tryz.results86,go_sem,j0,j1,j2,j3,j4,j5,j6,j7,j8,j9,j10]) rfl
  ⟨⟨_,rfl,_,_,_,rfl,aP (bY (bY W1.out gO (by omega)) (qW _ (w.heap.size+1+1) _ _ _ _ _ _ _ _ _ _ _) (by omega)) (by omega),aP (bY (bY W2.out gO (by omega)) (qW _ (w.heap.size+1+1) _ _ _ _ _ _ _ _ _ _ _) (by omega)) (by omega),aP (bY (bY W3.out gO (by omega)) (qW _ (w.heap.size+1+1) _ _ _ _ _ _ _ _ _ _ _) (by omega)) (by omega)⟩,qV (n16.setCell (p:=⟨v3.heap.size,0,none⟩) (by simp only;omega) _) (by omega) _ _ _ _ _ _ _ _ _ _ _⟩
end
theorem tf (a:Option Addr) (len cap:Nat) (zs:List Int) (mode:Int) (sum mxr:Bool) (satp:Int) (v:Value) (k:KM) (kind va pick:Int) (w:World) (h:KAt w v k) (hB:Byt w a len zs) (hlen:len<=1048576) (hcap:len<=cap) (hcm:cap<=9223372036854775807)
 (hv0:0<=va) (hv1:va<=18446744073709551615) (hs0:0<=satp) (hs1:satp<=18446744073709551615):
 Calls Tryz.prog 86 #[.slice a len cap,dV mode sum mxr satp,v,.int .i64 kind,.int .u64 va,.int .i64 pick] w fun e w'=>(∃x,e=.returned x∧TransOwn w.heap.size w' x (cD zs mode sum mxr satp k kind va pick))∧Bw w w':=by
 have hko:fy k.i∧fy k.d:=by
  obtain ⟨_,_,_,_,_,_,_,t1,t2,_⟩:=h;exact ⟨TlbAt.ok t1,TlbAt.ok t2⟩
 unfold cD;split
 ·rename_i hbad;exact sM a len cap mode sum mxr satp v k kind va pick w h hbad
 ·rename_i hbad;have hgood:bW k=true:=by
   cases hg:bW k
   ·exact absurd (.inl hg) hbad
   ·rfl
  have h0:0<=kind:=by omega
  have h1:kind<=2:=by omega
  have h2:0<=mode:=by omega
  have h3:mode<=2:=by omega
  have h4:0<=pick:=by omega
  have h5:pick<=255:=by omega
  split
  ·rename_i hon;exact sQ a len cap mode sum mxr satp v k kind va pick w h hgood h0 h1 h2 h3 h4 h5 hs0 hs1 hon
  ·rename_i hon;have hon:onM mode satp=true:=by simpa using hon
   split
   ·rename_i hcan;exact qx a len cap mode sum mxr satp v k kind va pick w h hgood h0 h1 h2 h3 h4 h5 hs0 hs1 hon hv0 hv1 hcan
   ·rename_i hcan;have hcan:du va=true:=by simpa using hcan
    by_cases hk:kind=0
    ·rw [show eQ k kind=k.i from if_pos hk];split
     ·rename_i hf;have hl:=uK k.i va (aM satp) hko.1.1 hf;exact lx.2 a len cap mode sum mxr satp v k kind va pick w h hgood h0 h1 h2 h3 h4 h5 hs0 hs1 hon hk hv0 hv1 hcan hf hl.1 hl.2
     ·rename_i hf;have:=kB.2 a len cap mode sum mxr satp v k kind va pick w h hgood h0 h1 h2 h3 h4 h5 hs0 hs1 hon hk zs hB hlen hcap hcm hv0 hv1 hcan (by simpa using hf);unfold iX at this;rw [show eQ k kind=k.i from if_pos hk] at this;exact this
    ·rw [show eQ k kind=k.d from if_neg hk];split
     ·rename_i hf;have hl:=uK k.d va (aM satp) hko.2.1 hf;exact lx.1 a len cap mode sum mxr satp v k kind va pick w h hgood h0 h1 h2 h3 h4 h5 hs0 hs1 hon hk hv0 hv1 hcan hf hl.1 hl.2
     ·rename_i hf;have:=kB.1 a len cap mode sum mxr satp v k kind va pick w h hgood h0 h1 h2 h3 h4 h5 hs0 hs1 hon hk zs hB hlen hcap hcm hv0 hv1 hcan (by simpa using hf);unfold iX at this;rw [show eQ k kind=k.d from if_neg hk] at this;exact this
end Go.Proofs.YtpdddbobhndbjaaGreat
