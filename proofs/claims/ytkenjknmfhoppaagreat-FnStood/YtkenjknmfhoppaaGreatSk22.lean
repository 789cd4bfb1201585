import Derived.Test.YtkenjknmfhoppaaGreatSk21
namespace Go.Proofs.YtkenjknmfhoppaaGreat
open Go.RowKit
set_option linter.unusedVariables false
set_option maxHeartbeats 6400000
set_option maxRecDepth 20000
section
attribute [local go_sem ↓] Go.wp_at_zero Go.wp_at_succ
theorem rz (a:Option Addr) (len cap:Nat) (mode:Int) (sum mxr:Bool) (satp:Int) (v:Value) (k:KM) (kind va pick:Int) (w:World) (h:KAt w v k)
 (hgood:bJ k=true) (h0:0<=kind) (h1:kind<=2) (h2:0<=mode) (h3:mode<=2) (h4:0<=pick) (h5:pick<=255) (hs0:0<=satp) (hs1:satp<=18446744073709551615) (hon:onM mode satp=true) (hv0:0<=va) (hv1:va<=18446744073709551615) (hcan:dC va=false):
 Calls Tryz.prog 125 #[.slice a len cap,et mode sum mxr satp,v,VI kind,VU va,VI pick] w fun e w'=>(∃x,e=.returned x∧TransOwn w.heap.size w' x ((eR kind,0),k))∧Bw w w':=by
 have HK:=hid fun u (hu:Bw w u)=>ed v k u (h.keep hu);have HL:=hid fun u (hu:Bw w u)=>ip v k u (h.keep hu);have HO:Hid (∀u,Calls Tryz.prog 53 #[et mode sum mxr satp] u fun e w'=>e=.returned (.bool true)∧Bw u w'):=fun u=>by have:=mX mode sum mxr satp u hs0 hs1;rw [hon] at this;exact this
 have HC:Hid (∀u:World,Calls Tryz.prog 55 #[VU va] u fun e w'=>e=.returned (.bool false)∧Bw u w'):=fun u=>by
  have:=eL va u hv0 hv1;rw [hcan] at this;refine this.mono ?_;rintro e w' ⟨rfl,n,rfl⟩;exact ⟨rfl,below_drewN brf n⟩
 obtain ⟨a1,c1,a2,c2,a3,c3,rfl,_⟩:=h;clear hcan;have HF:=hid fun (u:World)=>jB kind u;generalize eR kind=pf at HF |-;rw [hgood] at HK;clear hgood hon;obtain ⟨v1,Ev1,n1,H1,H2,H3,l1⟩:=al3 w #[VI mode,.bool sum,.bool mxr,VU satp] #[VI k.i.sets,VI k.i.ways,.slice a1 k.i.es.length c1,VI k.d.sets,VI k.d.ways,.slice a2 k.d.es.length c2,VI k.p.sets,VI k.p.ways,.slice a3 k.p.es.length c3] #[VI 0,VU 0,VI 0,VI 0,SN,VI 0,VI 0,SN,VI 0,VI 0,SN] 134 41 232;unfold et at HO |-;go_enter Tryz.func125,Tryz.ntmps125;go_upto_region 1 with fail;rw [Ev1.out];clear Ev1;obtain ⟨⟨d0,d1,d2,d3⟩,_⟩:=ay H1.out;obtain ⟨b0,b1,b2,b3,b4,b5,b6,b7,b8⟩:=da H2.out;go_cut [49] (fun s49 wx=>s49=.bool false∧Bw v1 wx)
 case first=>
  go_wp2_with fail;refine (HK.out v1 n1).mono ?_;rintro e v2 ⟨rfl,n2⟩;obtain ⟨⟨d0,d1,d2,d3⟩,_⟩:=ay (ah H1 n2).out;go_wp2;go_meet;refine ⟨?_,n2⟩;simp;omega
 obtain ⟨rfl,n2⟩:=hcut;generalize wc=v2 at n2 |-;have l2:=n2.size;have n12:=bst n1 n2;have K1:=ah H1 n2;have K2:=ah H2 n2;have K3:=ah H3 n2;clear d0 d1 d2 d3 b0 b1 b2 b3 b4 b5 b6 b7 b8;obtain ⟨⟨d0,d1,d2,d3⟩,_⟩:=ay K1.out;obtain ⟨b0,b1,b2,b3,b4,b5,b6,b7,b8⟩:=da K2.out;have s0:w.heap.size+1+1<v2.heap.size:=by omega
 clear n1 n2 H1 H2 H3;go_wp2_with fail;refine (HL.out v2 n12).mono ?_;rintro e v3 ⟨⟨x,rfl,g1,e1,g2,e2,g3,e3,rfl,o1,o2,o3⟩,n3⟩;have l3:=n3.size;have n13:=bst n12 n3;have P1:=ah K1 n3;have P2:=ah K2 n3;have P3:=ah K3 n3;have O1:Hid _:=o1;have O2:Hid _:=o2;have O3:Hid _:=o3;clear o1 o2 o3 n12 n3 K1 K2 K3 d0 d1 d2 d3 b0 b1 b2 b3 b4 b5 b6 b7 b8;obtain ⟨⟨d0,d1,d2,d3⟩,_⟩:=ay P1.out;have t0:w.heap.size<v3.heap.size:=by omega
 have t1:w.heap.size+1<v3.heap.size:=by omega
 have t2:w.heap.size+1+1<v3.heap.size:=by omega
 go_wp2_with fail;obtain ⟨v4,Ev4,n4,H4,l4⟩:=al1 v3 #[VI 0,VU 0,VI k.i.sets,VI k.i.ways,SL g1 k.i.es.length e1,VI k.d.sets,VI k.d.ways,SL g2 k.d.es.length e2,VI k.p.sets,VI k.p.ways,SL g3 k.p.es.length e3] 232;rw [Ev4.out];clear Ev4;refine (HO.out v4).mono ?_;rintro e v5 ⟨rfl,n5⟩;have l5:=n5.size;have n45:=bst n4 n5;have n15:=bst n13 n45;have Q1:=ah P1 n45;have Q2:=ah P2 n45;have Q3:=ah P3 n45;have Q4:=ah H4 n5;have U1:=aj O1.out n45;have U2:=aj O2.out n45;have U3:=aj O3.out n45;have a1':=bI O1.out;have a2':=bI O2.out;have a3':=bI O3.out;have V1:Hid _:=U1;have V2:Hid _:=U2;have V3:Hid _:=U3;have A1:Hid _:=a1';have A2:Hid _:=a2';have A3:Hid _:=a3';have LL:=hid l3;clear U1 U2 U3 a1' a2' a3' O1 O2 O3 n4 n5 P1 P2 P3 H4 d0 d1 d2 d3;go_wp2_with fail;refine (HC.out v5).mono ?_;rintro e v6 ⟨rfl,n6⟩;have l6:=n6.size;have n16:=bst n15 n6;have R3:=ah Q3 n6;have R4:=ah Q4 n6;have W1:Hid _:=aj V1.out n6;have W2:Hid _:=aj V2.out n6;have W3:Hid _:=aj V3.out n6;clear n6 n15 V1 V2 V3 Q1 Q2 Q3 Q4;obtain ⟨j0,j1,j2,j3,j4,j5,j6,j7,j8,j9,j10⟩:=cY R3.out;obtain ⟨m0,m1,m2,m3,m4,m5,m6,m7,m8,m9,m10⟩:=cY R4.out;have ff:=dS R3.out;have f0:=ff 0;have f1:=ff 1;have f2:=ff 2;have f3:=ff 3;have f4:=ff 4;have f5:=ff 5;have f6:=ff 6;have f7:=ff 7;have f8:=ff 8;have f9:=ff 9;have f10:=ff 10;have gg:=dS R4.out;have g0':=gg 0;have g1':=gg 1;clear ff gg;have ne1:v3.heap.size≠w.heap.size+1+1:=by omega
 have ne2:w.heap.size+1+1≠v3.heap.size:=by omega
 go_wp2_with fail;refine (HF.out v6).mono ?_;rintro e v7 ⟨rfl,rfl⟩;go_wp2_with fail;obtain ⟨_,z1,z1'⟩:=A1.out;obtain ⟨_,z2,z2'⟩:=A2.out;obtain ⟨_,z3,z3'⟩:=A3.out;have gO:=aq (aw v7 (some v3.heap.size)) 0 (VI pf);refine bodyPost_ret (v:=.agg #[VI pf,VU 0,VI k.i.sets,VI k.i.ways,SL g1 k.i.es.length e1,VI k.d.sets,VI k.d.ways,SL g2 k.d.es.length e2,VI k.p.sets,VI k.p.ways,SL g3 k.p.es.length e3]) (by simp [results,Tryz.results125,go_sem,j0,j1,j2,j3,j4,j5,j6,j7,j8,j9,j10]) rfl
  ⟨⟨_,rfl,_,_,_,rfl,aJ (cf (cf W1.out gO (by omega)) (rV _ (w.heap.size+1+1) _ _ _ _ _ _ _ _ _ _ _) (by omega)) (by omega),aJ (cf (cf W2.out gO (by omega)) (rV _ (w.heap.size+1+1) _ _ _ _ _ _ _ _ _ _ _) (by omega)) (by omega),aJ (cf (cf W3.out gO (by omega)) (rV _ (w.heap.size+1+1) _ _ _ _ _ _ _ _ _ _ _) (by omega)) (by omega)⟩,rU (n16.setCell (p:=(AD v3.heap.size 0)) (by simp only;omega) _) (by omega) _ _ _ _ _ _ _ _ _ _ _⟩
end
theorem ua (a:Option Addr) (len cap:Nat) (zs:List Int) (mode:Int) (sum mxr:Bool) (satp:Int) (v:Value) (k:KM) (kind va pick:Int) (w:World) (h:KAt w v k) (hB:Byt w a len zs) (hlen:len<=1048576) (hcap:len<=cap) (hcm:cap<=9223372036854775807)
 (hv0:0<=va) (hv1:va<=18446744073709551615) (hs0:0<=satp) (hs1:satp<=18446744073709551615):
 Calls Tryz.prog 125 #[.slice a len cap,et mode sum mxr satp,v,VI kind,VU va,VI pick] w fun e w'=>(∃x,e=.returned x∧TransOwn w.heap.size w' x (cy zs mode sum mxr satp k kind va pick))∧Bw w w':=by
 have hko:fP k.i∧fP k.d:=by
  obtain ⟨_,_,_,_,_,_,_,t1,t2,_⟩:=h;exact ⟨TlbAt.ok t1,TlbAt.ok t2⟩
 unfold cy;split
 ·rename_i hbad;exact tL a len cap mode sum mxr satp v k kind va pick w h hbad
 ·rename_i hbad;have hgood:bJ k=true:=by
   cases hg:bJ k
   ·exact absurd (.inl hg) hbad
   ·rfl
  have h0:0<=kind:=by omega
  have h1:kind<=2:=by omega
  have h2:0<=mode:=by omega
  have h3:mode<=2:=by omega
  have h4:0<=pick:=by omega
  have h5:pick<=255:=by omega
  split
  ·rename_i hon;exact tN a len cap mode sum mxr satp v k kind va pick w h hgood h0 h1 h2 h3 h4 h5 hs0 hs1 hon
  ·rename_i hon;have hon:onM mode satp=true:=by simpa using hon
   split
   ·rename_i hcan;exact rz a len cap mode sum mxr satp v k kind va pick w h hgood h0 h1 h2 h3 h4 h5 hs0 hs1 hon hv0 hv1 hcan
   ·rename_i hcan;have hcan:dC va=true:=by simpa using hcan
    by_cases hk:kind=0
    ·rw [show eV k kind=k.i from if_pos hk];split
     ·rename_i hf;have hl:=wn k.i va (aK satp) hko.1.1 hf;exact mD.2 a len cap mode sum mxr satp v k kind va pick w h hgood h0 h1 h2 h3 h4 h5 hs0 hs1 hon hk hv0 hv1 hcan hf hl.1 hl.2
     ·rename_i hf;have:=lJ.2 a len cap mode sum mxr satp v k kind va pick w h hgood h0 h1 h2 h3 h4 h5 hs0 hs1 hon hk zs hB hlen hcap hcm hv0 hv1 hcan (by simpa using hf);unfold jE at this;rw [show eV k kind=k.i from if_pos hk] at this;exact this
    ·rw [show eV k kind=k.d from if_neg hk];split
     ·rename_i hf;have hl:=wn k.d va (aK satp) hko.2.1 hf;exact mD.1 a len cap mode sum mxr satp v k kind va pick w h hgood h0 h1 h2 h3 h4 h5 hs0 hs1 hon hk hv0 hv1 hcan hf hl.1 hl.2
     ·rename_i hf;have:=lJ.1 a len cap mode sum mxr satp v k kind va pick w h hgood h0 h1 h2 h3 h4 h5 hs0 hs1 hon hk zs hB hlen hcap hcm hv0 hv1 hcan (by simpa using hf);unfold jE at this;rw [show eV k kind=k.d from if_neg hk] at this;exact this
end Go.Proofs.YtkenjknmfhoppaaGreat
