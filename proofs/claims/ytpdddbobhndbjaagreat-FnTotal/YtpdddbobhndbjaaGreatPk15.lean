import Derived.Test.YtpdddbobhndbjaaGreatPk14
namespace Go.Proofs.YtpdddbobhndbjaaGreat
open Go.RowKit
set_option linter.unusedVariables false
set_option maxHeartbeats 6400000
set_option maxRecDepth 20000
section
attribute [local go_sem ↓] Go.wp_at_zero Go.wp_at_succ
theorem bY {e:TypeId} {size:Nat} {w w':World} {base n g cap r:Nat} {cs:List Value} (h:w.ownsRow base e size (.slice (some ⟨g,0,none⟩) n cap) n cs) (hg:w.grownBy w' (some r)) (hr:g≠r):w'.ownsRow base e size (.slice (some ⟨g,0,none⟩) n cap) n cs:=by
 refine h.kept hg (.inr ?_);simp [Value.ownBlock];omega
theorem sQ (a:Option Addr) (len cap:Nat) (mode:Int) (sum mxr:Bool) (satp:Int) (v:Value) (k:KM) (kind va pick:Int) (w:World) (h:KAt w v k)
 (hgood:bW k=true) (h0:0<=kind) (h1:kind<=2) (h2:0<=mode) (h3:mode<=2) (h4:0<=pick) (h5:pick<=255) (hs0:0<=satp) (hs1:satp<=18446744073709551615) (hon:onM mode satp=false):
 Calls Tryz.prog 86 #[.slice a len cap,dV mode sum mxr satp,v,.int .i64 kind,.int .u64 va,.int .i64 pick] w fun e w'=>(∃x,e=.returned x∧TransOwn w.heap.size w' x ((0,va),k))∧Bw w w':=by
 have HK:=hid fun u (hu:Bw w u)=>eN v k u (h.keep hu);have HL:=hid fun u (hu:Bw w u)=>gH v k u (h.keep hu);have HO:Hid (∀u,Calls Tryz.prog 108 #[dV mode sum mxr satp] u fun e w'=>e=.returned (.bool false)∧Bw u w'):=fun u=>by have:=lT mode sum mxr satp u hs0 hs1;rw [hon] at this;exact this
 obtain ⟨a1,c1,a2,c2,a3,c3,rfl,_⟩:=h;rw [hgood] at HK;clear hgood hon;obtain ⟨v1,Ev1,n1,H1,H2,H3,l1⟩:=al3 w #[.int .i64 mode,.bool sum,.bool mxr,.int .u64 satp] #[.int .i64 k.i.sets,.int .i64 k.i.ways,.slice a1 k.i.es.length c1,.int .i64 k.d.sets,.int .i64 k.d.ways,.slice a2 k.d.es.length c2,.int .i64 k.p.sets,.int .i64 k.p.ways,.slice a3 k.p.es.length c3] #[.int .i64 0,.int .u64 0,.int .i64 0,.int .i64 0,.slice none 0 0,.int .i64 0,.int .i64 0,.slice none 0 0,.int .i64 0,.int .i64 0,.slice none 0 0] 172 39 175;unfold dV at HO |-;go_enter Tryz.func86,Tryz.ntmps86;go_upto_region 1 with fail;rw [Ev1.out];clear Ev1;obtain ⟨⟨d0,d1,d2,d3⟩,_⟩:=az H1.out;obtain ⟨b0,b1,b2,b3,b4,b5,b6,b7,b8⟩:=cT H2.out;go_cut [49] (fun s49 wx=>s49=.bool false∧Bw v1 wx)
 case first=>
  go_wp2_with fail;refine (HK.out v1 n1).mono ?_;rintro e v2 ⟨rfl,n2⟩;obtain ⟨⟨d0,d1,d2,d3⟩,_⟩:=az (ah H1 n2).out;go_wp2_with fail;go_meet;refine ⟨?_,n2⟩;simp;omega
 obtain ⟨rfl,n2⟩:=hcut;generalize wc=v2 at n2 |-;have l2:=n2.size;have n12:=bst n1 n2;have K1:=ah H1 n2;have K2:=ah H2 n2;have K3:=ah H3 n2;clear d0 d1 d2 d3 b0 b1 b2 b3 b4 b5 b6 b7 b8;obtain ⟨⟨d0,d1,d2,d3⟩,_⟩:=az K1.out;obtain ⟨b0,b1,b2,b3,b4,b5,b6,b7,b8⟩:=cT K2.out;have s0:w.heap.size+1+1<v2.heap.size:=by omega
 clear n1 n2 H1 H2 H3;go_wp2_with fail;refine (HL.out v2 n12).mono ?_;rintro e v3 ⟨⟨x,rfl,g1,e1,g2,e2,g3,e3,rfl,o1,o2,o3⟩,n3⟩;have l3:=n3.size;have n13:=bst n12 n3;have P1:=ah K1 n3;have P2:=ah K2 n3;have P3:=ah K3 n3;have O1:Hid _:=o1;have O2:Hid _:=o2;have O3:Hid _:=o3;clear o1 o2 o3 n12 n3 K1 K2 K3 d0 d1 d2 d3 b0 b1 b2 b3 b4 b5 b6 b7 b8;obtain ⟨⟨d0,d1,d2,d3⟩,_⟩:=az P1.out;have t0:w.heap.size<v3.heap.size:=by omega
 have t1:w.heap.size+1<v3.heap.size:=by omega
 have t2:w.heap.size+1+1<v3.heap.size:=by omega
 go_wp2_with fail;obtain ⟨v4,Ev4,n4,H4,l4⟩:=al1 v3 #[.int .i64 0,.int .u64 0,.int .i64 k.i.sets,.int .i64 k.i.ways,.slice (some ⟨g1,0,none⟩) k.i.es.length e1,.int .i64 k.d.sets,.int .i64 k.d.ways,.slice (some ⟨g2,0,none⟩) k.d.es.length e2,.int .i64 k.p.sets,.int .i64 k.p.ways,.slice (some ⟨g3,0,none⟩) k.p.es.length e3] 175;rw [Ev4.out];clear Ev4;refine (HO.out v4).mono ?_;rintro e v5 ⟨rfl,n5⟩;have l5:=n5.size;have n45:=bst n4 n5;have n15:=bst n13 n45;have Q3:=ah P3 n45;have Q4:=ah H4 n5;have U1:=aj O1.out n45;have U2:=aj O2.out n45;have U3:=aj O3.out n45;have a1':=bZ O1.out;have a2':=bZ O2.out;have a3':=bZ O3.out;have V1:Hid _:=U1;have V2:Hid _:=U2;have V3:Hid _:=U3;have A1:Hid _:=a1';have A2:Hid _:=a2';have A3:Hid _:=a3';clear U1 U2 U3 a1' a2' a3' O1 O2 O3 n4 n5 P1 P2 P3 H4;obtain ⟨j0,j1,j2,j3,j4,j5,j6,j7,j8,j9,j10⟩:=cN Q3.out;obtain ⟨m0,m1,m2,m3,m4,m5,m6,m7,m8,m9,m10⟩:=cN Q4.out;have ff:=dF Q3.out;have f0:=ff 0;have f1:=ff 1;have f2:=ff 2;have f3:=ff 3;have f4:=ff 4;have f5:=ff 5;have f6:=ff 6;have f7:=ff 7;have f8:=ff 8;have f9:=ff 9;have f10:=ff 10;have gg:=dF Q4.out;have g0':=gg 0;have g1':=gg 1;clear ff gg;have ne1:v3.heap.size≠w.heap.size+1+1:=by omega
 have ne2:w.heap.size+1+1≠v3.heap.size:=by omega
 go_wp2_with fail;obtain ⟨_,z1,z1'⟩:=A1.out;obtain ⟨_,z2,z2'⟩:=A2.out;obtain ⟨_,z3,z3'⟩:=A3.out;have gO:=ak (aq v5 (some v3.heap.size)) 1 (Value.int .u64 va);refine bodyPost_ret (v:=.agg #[.int .i64 0,.int .u64 va,.int .i64 k.i.sets,.int .i64 k.i.ways,.slice (some ⟨g1,0,none⟩) k.i.es.length e1,.int .i64 k.d.sets,.int .i64 k.d.ways,.slice (some ⟨g2,0,none⟩) k.d.es.length e2,.int .i64 k.p.sets,.int .i64 k.p.ways,.slice (some ⟨g3,0,none⟩) k.p.es.length e3]) (by simp [results,Tryz.results86,go_sem,j0,j1,j2,j3,j4,j5,j6,j7,j8,j9,j10]) rfl
  ⟨⟨_,rfl,_,_,_,rfl,aP (bY (bY V1.out gO (by omega)) (qW _ (w.heap.size+1+1) _ _ _ _ _ _ _ _ _ _ _) (by omega)) (by omega),aP (bY (bY V2.out gO (by omega)) (qW _ (w.heap.size+1+1) _ _ _ _ _ _ _ _ _ _ _) (by omega)) (by omega),aP (bY (bY V3.out gO (by omega)) (qW _ (w.heap.size+1+1) _ _ _ _ _ _ _ _ _ _ _) (by omega)) (by omega)⟩,qV (n15.setCell (p:=⟨v3.heap.size,1,none⟩) (by simp only;omega) _) (by omega) _ _ _ _ _ _ _ _ _ _ _⟩
end
section
attribute [local go_sem ↓] Go.wp_at_zero Go.wp_at_succ
theorem wW:∀(rs:List dQ) (i j:Nat) (hi:i<rs.length),j<3->(cP rs)[i*3+j]?=(ru rs[i])[j]?
 | r::rs,0,j,hi,hj=>by
  simp only [cP,List.getElem_cons_zero,Nat.zero_mul,Nat.zero_add];rw [List.getElem?_append_left (by simpa [ru] using hj)]
 | r::rs,i+1,j,hi,hj=>by
  simp only [cP,List.getElem_cons_succ];rw [List.getElem?_append_right (by simp [ru];omega)];have:(i+1)*3+j-(ru r).length=i*3+j:=by simp [ru];omega
  rw [this];exact wW rs i j (by simpa using hi) hj
theorem wX {w:World} {b off n:Nat} {rs:List dQ} (h:RowC w (some ⟨b,off,none⟩) n 3 (cP rs)) (hn:rs.length=n) (k:Nat) (x:dQ) (hx:rs[k]?=some x) (j:Nat) (v:Value) (hj:j<3) (hv:(ru x)[j]?=some v):
 w.cell? ⟨b,off+k*3+j,none⟩=some v:=by
 obtain ⟨h1,h2⟩:=h;obtain ⟨hk,rfl⟩:=List.getElem?_eq_some_iff.1 hx;rcases h2 with h2 | ⟨b',off',e,_,hc⟩
 ·omega
 ·simp at e;obtain ⟨rfl,rfl⟩:=e;have:=hc (k*3+j) v (by rw [wW rs k j hk hj];exact hv);rw [<-Nat.add_assoc] at this;exact this
end
end Go.Proofs.YtpdddbobhndbjaaGreat
