import Derived.Test.YtkenjknmfhoppaaGreatSk20
namespace Go.Proofs.YtkenjknmfhoppaaGreat
open Go.RowKit
set_option linter.unusedVariables false
set_option maxHeartbeats 6400000
set_option maxRecDepth 20000
section
attribute [local go_sem ↓] Go.wp_at_zero Go.wp_at_succ
theorem mD:(∀(a:Option Addr) (len cap:Nat) (mode:Int) (sum mxr:Bool) (satp:Int) (v:Value) (k:KM) (kind va pick:Int) (w:World) (h:KAt w v k) (hgood:bJ k=true) (h0:0<=kind) (h1:kind<=2) (h2:0<=mode) (h3:mode<=2) (h4:0<=pick) (h5:pick<=255) (hs0:0<=satp) (hs1:satp<=18446744073709551615) (hon:onM mode satp=true) (hk:¬kind=0) (hv0:0<=va) (hv1:va<=18446744073709551615) (hcan:dC va=true) (hf:(aY k.d va (aK satp)).1=true) (hp:0<=(aY k.d va (aK satp)).2.2.2∧(aY k.d va (aK satp)).2.2.2<=18446744073709551615) (hlv: -9223372036854775808<=(aY k.d va (aK satp)).2.2.1∧(aY k.d va (aK satp)).2.2.1<=9223372036854775807),Calls Tryz.prog 125 #[.slice a len cap,et mode sum mxr satp,v,VI kind,VU va,VI pick] w fun e w'=>(∃x,e=.returned x∧TransOwn w.heap.size w' x (ft (aY k.d va (aK satp)).2.2.2 (aY k.d va (aK satp)).2.2.1 mode sum mxr kind va,k))∧Bw w w')∧
 (∀(a:Option Addr) (len cap:Nat) (mode:Int) (sum mxr:Bool) (satp:Int) (v:Value) (k:KM) (kind va pick:Int) (w:World) (h:KAt w v k) (hgood:bJ k=true) (h0:0<=kind) (h1:kind<=2) (h2:0<=mode) (h3:mode<=2) (h4:0<=pick) (h5:pick<=255) (hs0:0<=satp) (hs1:satp<=18446744073709551615) (hon:onM mode satp=true) (hk:kind=0) (hv0:0<=va) (hv1:va<=18446744073709551615) (hcan:dC va=true) (hf:(aY k.i va (aK satp)).1=true) (hp:0<=(aY k.i va (aK satp)).2.2.2∧(aY k.i va (aK satp)).2.2.2<=18446744073709551615) (hlv: -9223372036854775808<=(aY k.i va (aK satp)).2.2.1∧(aY k.i va (aK satp)).2.2.1<=9223372036854775807),Calls Tryz.prog 125 #[.slice a len cap,et mode sum mxr satp,v,VI kind,VU va,VI pick] w fun e w'=>(∃x,e=.returned x∧TransOwn w.heap.size w' x (ft (aY k.i va (aK satp)).2.2.2 (aY k.i va (aK satp)).2.2.1 mode sum mxr kind va,k))∧Bw w w'):=by
 refine ⟨?_,?_⟩;have mL:=trivial
 rotate_left
 have mP:=trivial
 rotate_left
 all_goals
  intro a len cap mode sum mxr satp v k kind va pick w h hgood h0 h1 h2 h3 h4 h5 hs0 hs1 hon hk hv0 hv1 hcan hf hp hlv;have HK:=hid fun u (hu:Bw w u)=>ed v k u (h.keep hu);have HL:=hid fun u (hu:Bw w u)=>ip v k u (h.keep hu);have HO:Hid (∀u,Calls Tryz.prog 53 #[et mode sum mxr satp] u fun e w'=>e=.returned (.bool true)∧Bw u w'):=fun u=>by have:=mX mode sum mxr satp u hs0 hs1;rw [hon] at this;exact this
  have HC:Hid (∀u:World,Calls Tryz.prog 55 #[VU va] u fun e w'=>e=.returned (.bool true)∧Bw u w'):=fun u=>by
   have:=eL va u hv0 hv1;rw [hcan] at this;refine this.mono ?_;rintro e w' ⟨rfl,n,rfl⟩;exact ⟨rfl,below_drewN brf n⟩
  have HKeep:=hid h;obtain ⟨a1,c1,a2,c2,a3,c3,rfl,T1,T2,T3⟩:=h;first
   | (replace mL:=mL;have HLk:Hid (∀u,Bw w u->Calls Tryz.prog 154 #[.agg #[VI k.d.sets,VI k.d.ways,.slice a2 k.d.es.length c2],VU va,VU (aK satp)] u fun e w'=>e=.returned (.agg #[.bool (aY k.d va (aK satp)).1,VI (aY k.d va (aK satp)).2.1,VI (aY k.d va (aK satp)).2.2.1,VU (aY k.d va (aK satp)).2.2.2])∧Bw u w'):=fun u hu=>fU _ k.d va (aK satp) u (T2.keep hu) hv0 hv1)
   | (replace mP:=mP;have HLk:Hid (∀u,Bw w u->Calls Tryz.prog 154 #[.agg #[VI k.i.sets,VI k.i.ways,.slice a1 k.i.es.length c1],VU va,VU (aK satp)] u fun e w'=>e=.returned (.agg #[.bool (aY k.i va (aK satp)).1,VI (aY k.i va (aK satp)).2.1,VI (aY k.i va (aK satp)).2.2.1,VU (aY k.i va (aK satp)).2.2.2])∧Bw u w'):=fun u hu=>fU _ k.i va (aK satp) u (T1.keep hu) hv0 hv1)
  first
   | (replace mL:=mL;have HLf:Hid (∀u,Calls Tryz.prog 155 #[VU (aY k.d va (aK satp)).2.2.2,VI (aY k.d va (aK satp)).2.2.1,et mode sum mxr satp,VI kind,VU va] u fun e w'=>e=.returned (fz (ft (aY k.d va (aK satp)).2.2.2 (aY k.d va (aK satp)).2.2.1 mode sum mxr kind va))∧Bw u w'):=fun u=>oU _ _ mode sum mxr satp kind va u hp.1 hp.2 hv0 hv1 hlv.1 hlv.2)
   | (replace mP:=mP;have HLf:Hid (∀u,Calls Tryz.prog 155 #[VU (aY k.i va (aK satp)).2.2.2,VI (aY k.i va (aK satp)).2.2.1,et mode sum mxr satp,VI kind,VU va] u fun e w'=>e=.returned (fz (ft (aY k.i va (aK satp)).2.2.2 (aY k.i va (aK satp)).2.2.1 mode sum mxr kind va))∧Bw u w'):=fun u=>oU _ _ mode sum mxr satp kind va u hp.1 hp.2 hv0 hv1 hlv.1 hlv.2)
  have HA:Hid (∀u:World,Calls Tryz.prog 57 #[VU satp] u fun e w'=>e=.returned (VU (aK satp))∧Bw u w'):=fun u=>by
   refine (qC satp u hs0 hs1).mono ?_;rintro e w' ⟨rfl,n,rfl⟩;exact ⟨rfl,below_drewN brf n⟩
  first
   | (replace mL:=mL;generalize ft (aY k.d va (aK satp)).2.2.2 (aY k.d va (aK satp)).2.2.1 mode sum mxr kind va=lf at HLf |-)
   | (replace mP:=mP;generalize ft (aY k.i va (aK satp)).2.2.2 (aY k.i va (aK satp)).2.2.1 mode sum mxr kind va=lf at HLf |-)
  obtain ⟨lc,lp⟩:=lf;rw [hf] at HLk;first
   | (replace mL:=mL;generalize (aY k.d va (aK satp)).2.2.2=pt at HLk HLf hp)
   | (replace mP:=mP;generalize (aY k.i va (aK satp)).2.2.2=pt at HLk HLf hp)
  first
   | (replace mL:=mL;generalize (aY k.d va (aK satp)).2.2.1=lv at HLk HLf hlv)
   | (replace mP:=mP;generalize (aY k.i va (aK satp)).2.2.1=lv at HLk HLf hlv)
  first
   | (replace mL:=mL;generalize (aY k.d va (aK satp)).2.1=ix at HLk)
   | (replace mP:=mP;generalize (aY k.i va (aK satp)).2.1=ix at HLk)
  unfold fz et at HLf;simp only at HLf;clear hcan hf HKeep T1 T2 T3;generalize aK satp=asd at HLk HA;rw [hgood] at HK;clear hgood hon;first
   | (replace mL:=mL)
   | (replace mP:=mP;subst hk)
  obtain ⟨v1,Ev1,n1,H1,H2,H3,l1⟩:=al3 w #[VI mode,.bool sum,.bool mxr,VU satp] #[VI k.i.sets,VI k.i.ways,.slice a1 k.i.es.length c1,VI k.d.sets,VI k.d.ways,.slice a2 k.d.es.length c2,VI k.p.sets,VI k.p.ways,.slice a3 k.p.es.length c3] #[VI 0,VU 0,VI 0,VI 0,SN,VI 0,VI 0,SN,VI 0,VI 0,SN] 134 41 232;unfold et at HO |-;go_enter Tryz.func125,Tryz.ntmps125;go_upto_region 1 with fail;rw [Ev1.out];clear Ev1;obtain ⟨⟨d0,d1,d2,d3⟩,_⟩:=ay H1.out;obtain ⟨b0,b1,b2,b3,b4,b5,b6,b7,b8⟩:=da H2.out;go_cut [49] (fun s49 wx=>s49=.bool false∧Bw v1 wx)
  case first=>
   go_wp2_with fail;refine (HK.out v1 n1).mono ?_;rintro e v2 ⟨rfl,n2⟩;obtain ⟨⟨d0,d1,d2,d3⟩,_⟩:=ay (ah H1 n2).out;go_wp2;go_meet;refine ⟨?_,n2⟩;simp;first
    | (replace mL:=mL;omega)
    | (replace mP:=mP;try omega)
  obtain ⟨rfl,n2⟩:=hcut;generalize wc=v2 at n2 |-;have l2:=n2.size;have n12:=bst n1 n2;have K1:=ah H1 n2;have K2:=ah H2 n2;have K3:=ah H3 n2;clear d0 d1 d2 d3 b0 b1 b2 b3 b4 b5 b6 b7 b8;obtain ⟨⟨d0,d1,d2,d3⟩,_⟩:=ay K1.out;obtain ⟨b0,b1,b2,b3,b4,b5,b6,b7,b8⟩:=da K2.out;have s0:w.heap.size+1+1<v2.heap.size:=by omega
  clear n1 n2 H1 H2 H3;go_wp2_with fail;refine (HL.out v2 n12).mono ?_;rintro e v3 ⟨⟨x,rfl,g1,e1,g2,e2,g3,e3,rfl,o1,o2,o3⟩,n3⟩;have l3:=n3.size;have n13:=bst n12 n3;have P1:=ah K1 n3;have P2:=ah K2 n3;have P3:=ah K3 n3;have O1:Hid _:=o1;have O2:Hid _:=o2;have O3:Hid _:=o3;clear o1 o2 o3 n12 n3 K1 K2 K3 d0 d1 d2 d3 b0 b1 b2 b3 b4 b5 b6 b7 b8;obtain ⟨⟨d0,d1,d2,d3⟩,_⟩:=ay P1.out;have t0:w.heap.size<v3.heap.size:=by omega
  have t1:w.heap.size+1<v3.heap.size:=by omega
  have t2:w.heap.size+1+1<v3.heap.size:=by omega
  go_wp2_with fail;obtain ⟨v4,Ev4,n4,H4,l4⟩:=al1 v3 #[VI 0,VU 0,VI k.i.sets,VI k.i.ways,SL g1 k.i.es.length e1,VI k.d.sets,VI k.d.ways,SL g2 k.d.es.length e2,VI k.p.sets,VI k.p.ways,SL g3 k.p.es.length e3] 232;rw [Ev4.out];clear Ev4;refine (HO.out v4).mono ?_;rintro e v5 ⟨rfl,n5⟩;have l5:=n5.size;have n45:=bst n4 n5;have n15:=bst n13 n45;have Q1:=ah P1 n45;have Q2:=ah P2 n45;have Q3:=ah P3 n45;have Q4:=ah H4 n5;have U1:=aj O1.out n45;have U2:=aj O2.out n45;have U3:=aj O3.out n45;have a1':=bI O1.out;have a2':=bI O2.out;have a3':=bI O3.out;have V1:Hid _:=U1;have V2:Hid _:=U2;have V3:Hid _:=U3;have A1:Hid _:=a1';have A2:Hid _:=a2';have A3:Hid _:=a3';have LL:=hid l3;clear U1 U2 U3 a1' a2' a3' O1 O2 O3 n4 n5 P1 P2 P3 H4 d0 d1 d2 d3;go_wp2_with fail;refine (HC.out v5).mono ?_;rintro e v6 ⟨rfl,n6⟩;have l6:=n6.size;have n16:=bst n15 n6;have R1:=ah Q1 n6;have R2:=ah Q2 n6;have R3:=ah Q3 n6;have R4:=ah Q4 n6;have W1:Hid _:=aj V1.out n6;have W2:Hid _:=aj V2.out n6;have W3:Hid _:=aj V3.out n6;clear n6 n15 V1 V2 V3 Q1 Q2 Q3 Q4;obtain ⟨⟨d0,d1,d2,d3⟩,_⟩:=ay R1.out;obtain ⟨b0,b1,b2,b3,b4,b5,b6,b7,b8⟩:=da R2.out;have s6:w.heap.size<v6.heap.size:=by omega
  have s7:w.heap.size+1<v6.heap.size:=by omega
  have nk1:v6.heap.size≠w.heap.size:=by omega
  have nk2:w.heap.size≠v6.heap.size:=by omega
  have nk3:w.heap.size+1≠v6.heap.size:=by omega
  have nk4:v6.heap.size≠w.heap.size+1:=by omega
  go_wp2_with fail;first
   | (replace mL:=mL;obtain ⟨v7,Ev7,n7,H7,l7⟩:=al1 v6 #[VI k.d.sets,VI k.d.ways,.slice a2 k.d.es.length c2] 39)
   | (replace mP:=mP;obtain ⟨v7,Ev7,n7,H7,l7⟩:=al1 v6 #[VI k.i.sets,VI k.i.ways,.slice a1 k.i.es.length c1] 39)
  rw [Ev7.out];clear Ev7;have n17:=bst n16 n7;have S1:=ah R1 n7;have S3:=ah R3 n7;have S4:=ah R4 n7;have X1:Hid _:=aj W1.out n7;have X2:Hid _:=aj W2.out n7;have X3:Hid _:=aj W3.out n7;clear W1 W2 W3 R1 R2 R3 R4 b0 b1 b2 b3 b4 b5 b6 b7 b8 d0 d1 d2 d3;have l6':=l7;first
   | (replace mL:=mL;have HX:Hid (∀w',Bw v7 w'->w'.cell? (AD v6.heap.size 0)=some (VI k.d.sets)∧w'.cell? (AD v6.heap.size 1)=some (VI k.d.ways)∧w'.cell? (AD v6.heap.size 2)=some (.slice a2 k.d.es.length c2)∧w'.cell? (AD w.heap.size 3)=some (VU satp)):=fun v hv=>by
        obtain ⟨⟨q0,q1,q2⟩,_⟩:=aA (ag H7.out hv l7)
        obtain ⟨⟨_,_,_,q3⟩,_⟩:=ay (ag S1.out hv (by omega))
        exact ⟨q0,q1,q2,q3⟩)
   | (replace mP:=mP;have HX:Hid (∀w',Bw v7 w'->w'.cell? (AD v6.heap.size 0)=some (VI k.i.sets)∧w'.cell? (AD v6.heap.size 1)=some (VI k.i.ways)∧w'.cell? (AD v6.heap.size 2)=some (.slice a1 k.i.es.length c1)∧w'.cell? (AD w.heap.size 3)=some (VU satp)):=fun v hv=>by
        obtain ⟨⟨q0,q1,q2⟩,_⟩:=aA (ag H7.out hv l7)
        obtain ⟨⟨_,_,_,q3⟩,_⟩:=ay (ag S1.out hv (by omega))
        exact ⟨q0,q1,q2,q3⟩)
  obtain ⟨c70,c71,c72,c73⟩:=HX.out v7 brf;have nv1:v7.heap.size≠w.heap.size:=by omega
  have nv2:w.heap.size≠v7.heap.size:=by omega
  have nv3:v7.heap.size≠v6.heap.size:=by omega
  have nv4:v6.heap.size≠v7.heap.size:=by omega
  refine jZ 6 15 ?_ _ _ (Obj.cells #[.bool false,VI 0,VI 0,VU 0] 270) (by kernel_rfl) (by kernel_rfl) rfl rfl rfl (fun b w=>by kernel_rfl) (by kernel_rfl) ?h13 ?q13
  case h13=>
   intro w0 hw0;have ne:=dp w0;have l0:=hw0.size;obtain ⟨q0,q1,q2,q3⟩:=HX.out w0 hw0;have y0:=aC q0 (show v6.heap.size<w0.heap.size by omega);have y1:=aC q1 (show v6.heap.size<w0.heap.size by omega);have y2:=aC q2 (show v6.heap.size<w0.heap.size by omega);have y3:=aC q3 (show w.heap.size<w0.heap.size by omega);clear q0 q1 q2 q3;simp only [List.take_succ_cons,List.take_zero];repeat (go_big_quiet_step (first
    | (go_at_call 57;exact cW _ (HA.out _))
    | (go_at_call 154;exact cW _ (HLk.out _ (bst n17 (bst hw0 (Lies.h _)))))))
   refine wpQuiet_nil ?_;exact rfl
  case q13=>
   intro pb v8z hpb m8z hE8;have E8z:=hid hE8;have lh:=(hpl hE8);clear hE8 c70 c71 c72 c73;obtain ⟨⟨h0',h1',h2',h3'⟩,f0,f1,f2,f3⟩:=ay E8z.out;go_upto_if 80 with fail;have m8:=qr m8z hpb (Value.bool true) (VI ix) (VI lv) (VU pt);have E8:Hid (((((v8z.setCell (AD pb 0) (Value.bool true)).setCell (AD pb 1) (VI ix)).setCell (AD pb 2) (VI lv)).setCell (AD pb 3) (VU pt)).heap[pb]?=some (.cells #[.bool true,VI ix,VI lv,VU pt] 270 (0,0))):=qE E8z.out;generalize ((((v8z.setCell (AD pb 0) (Value.bool true)).setCell (AD pb 1) (VI ix)).setCell (AD pb 2) (VI lv)).setCell (AD pb 3) (VU pt))=v8 at m8 E8 |-;clear h0' h1' h2' h3' f0 f1 f2 f3 E8z m8z lh;have n18:=bst n17 m8;have l8:=m8.size;have R1:=ah S1 m8;have R3:=ah S3 m8;have R4:=ah S4 m8;have W1:Hid _:=aj X1.out m8;have W2:Hid _:=aj X2.out m8;have W3:Hid _:=aj X3.out m8;clear m8 n17 X1 X2 X3 S1 S3 S4 H7 HX;obtain ⟨⟨d0,d1,d2,d3⟩,_⟩:=ay R1.out;obtain ⟨⟨h0,h1,h2,h3⟩,_⟩:=ay E8.out;go_wp2_with fail;refine (HLf.out v8).mono ?_;rintro e v9 ⟨rfl,n9⟩;have U3:=ah R3 n9;have U4:=ah R4 n9;have l9:=n9.size;have Y1:Hid _:=aj W1.out n9;have Y2:Hid _:=aj W2.out n9;have Y3:Hid _:=aj W3.out n9;have n19:=bst n18 n9;clear d0 d1 d2 d3 h0 h1 h2 h3;have ll1:w.heap.size+1+1<v9.heap.size:=by omega
   have ll2:v3.heap.size<v9.heap.size:=by omega
   have ll3:v9.heap.size≠v3.heap.size:=by omega
   have ll4:v9.heap.size≠w.heap.size+1+1:=by omega
   obtain ⟨j0,j1,j2,j3,j4,j5,j6,j7,j8,j9,j10⟩:=cY U3.out;obtain ⟨m0,m1,m2,m3,m4,m5,m6,m7,m8,m9,m10⟩:=cY U4.out;have ff:=dS U3.out;have f0:=ff 0;have f1:=ff 1;have f2:=ff 2;have f3:=ff 3;have f4:=ff 4;have f5:=ff 5;have f6:=ff 6;have f7:=ff 7;have f8:=ff 8;have f9:=ff 9;have f10:=ff 10;have gg:=dS U4.out;have g0':=gg 0;have g1':=gg 1;clear ff gg;have ne1:v3.heap.size≠w.heap.size+1+1:=by omega
   have ne2:w.heap.size+1+1≠v3.heap.size:=by omega
   go_wp2_with fail;obtain ⟨_,z1,z1'⟩:=A1.out;obtain ⟨_,z2,z2'⟩:=A2.out;obtain ⟨_,z3,z3'⟩:=A3.out;have l3':=LL.out;have gO:=aq (aq (aw v9 (some v3.heap.size)) 0 (VI lc)) 1 (VU lp);refine bodyPost_ret (v:=.agg #[VI lc,VU lp,VI k.i.sets,VI k.i.ways,SL g1 k.i.es.length e1,VI k.d.sets,VI k.d.ways,SL g2 k.d.es.length e2,VI k.p.sets,VI k.p.ways,SL g3 k.p.es.length e3]) (by simp [results,Tryz.results125,go_sem,j0,j1,j2,j3,j4,j5,j6,j7,j8,j9,j10,ll1]) rfl
    ⟨⟨_,rfl,_,_,_,rfl,aJ (aj (cf (cf Y1.out gO (by omega)) (rV _ (w.heap.size+1+1) _ _ _ _ _ _ _ _ _ _ _) (by omega)) ((brf).alloc nle _)) (by omega),aJ (aj (cf (cf Y2.out gO (by omega)) (rV _ (w.heap.size+1+1) _ _ _ _ _ _ _ _ _ _ _) (by omega)) ((brf).alloc nle _)) (by omega),aJ (aj (cf (cf Y3.out gO (by omega)) (rV _ (w.heap.size+1+1) _ _ _ _ _ _ _ _ _ _ _) (by omega)) ((brf).alloc nle _)) (by omega)⟩,Below.alloc (rU ((n19.setCell (p:=(AD v3.heap.size 0)) (by simp only;omega) _).setCell (p:=(AD v3.heap.size 1)) (by simp only;omega) _) (by omega) _ _ _ _ _ _ _ _ _ _ _) (by simp;omega) _⟩
end
end Go.Proofs.YtkenjknmfhoppaaGreat
