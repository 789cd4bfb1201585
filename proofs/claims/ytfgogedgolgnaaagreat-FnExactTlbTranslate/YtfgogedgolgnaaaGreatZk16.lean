import Derived.Test.YtfgogedgolgnaaaGreatZk14
import Derived.Test.YtfgogedgolgnaaaGreatZk15
namespace Go.Proofs.YtfgogedgolgnaaaGreat
open Go.RowKit
set_option linter.unusedVariables false
set_option maxHeartbeats 6400000
set_option maxRecDepth 20000
section
attribute [local go_sem ↓] Go.wp_at_zero Go.wp_at_succ
theorem fE (a:Option Addr) (len cap:Nat) (mode:Int) (sum mxr:Bool) (satp:Int) (v:Value) (k:KM) (kind va pick:Int) (w:World) (h:KAt w v k)
 (hgood:bn k=true) (h0:0<=kind) (h1:kind<=2) (h2:0<=mode) (h3:mode<=2) (h4:0<=pick) (h5:pick<=255) (hs0:0<=satp) (hs1:satp<=18446744073709551615) (hon:onM mode satp=true) (hv0:0<=va) (hv1:va<=18446744073709551615) (hcan:bH va=false):
 Calls Tryz.prog 5 #[.slice a len cap,bC mode sum mxr satp,v,.int .i64 kind,.int .u64 va,.int .i64 pick] w fun e w'=>(∃x,e=.returned x∧TransOwn w.heap.size w' x ((ck kind,0),k))∧Below w.heap.size w w':=by
 have HK:Hid (∀u,Below w.heap.size w u->Calls Tryz.prog 18 #[v] u fun e w'=>e=.returned (.bool (bn k))∧Below u.heap.size u w'):=fun u hu=>bt v k u (h.keep hu);have HL:Hid (∀u,Below w.heap.size w u->Calls Tryz.prog 19 #[v] u fun e w'=>(∃x,e=.returned x∧KOwn u.heap.size w' x k)∧Below u.heap.size u w'):=fun u hu=>co v k u (h.keep hu);have HO:Hid (∀u,Calls Tryz.prog 20 #[bC mode sum mxr satp] u fun e w'=>e=.returned (.bool true)∧Below u.heap.size u w'):=fun u=>by have:=ej mode sum mxr satp u hs0 hs1;rw [hon] at this;exact this
 have HC:Hid (∀u:World,Calls Tryz.prog 21 #[.int .u64 va] u fun e w'=>e=.returned (.bool false)∧Below u.heap.size u w'):=fun u=>by
  have:=bu va u hv0 hv1;rw [hcan] at this;refine this.mono ?_;rintro e w' ⟨rfl,n,rfl⟩;exact ⟨rfl,below_drewN (Below.refl _ _) n⟩
 obtain ⟨a1,c1,a2,c2,a3,c3,rfl,_⟩:=h;clear hcan;have HF:Hid (∀u:World,Calls Tryz.prog 22 #[.int .i64 kind] u fun e w'=>e=.returned (.int .i64 (ck kind))∧w'=u):=fun u=>dc kind u;generalize ck kind=pf at HF |-;rw [hgood] at HK;clear hgood hon;have n1:Below w.heap.size w (((w.alloc (Obj.cells #[.int .i64 mode,.bool sum,.bool mxr,.int .u64 satp] 41)).alloc (Obj.cells #[.int .i64 k.i.sets,.int .i64 k.i.ways,.slice a1 k.i.es.length c1,.int .i64 k.d.sets,.int .i64 k.d.ways,.slice a2 k.d.es.length c2,.int .i64 k.p.sets,.int .i64 k.p.ways,.slice a3 k.p.es.length c3] 36)).alloc (Obj.cells #[.int .i64 0,.int .u64 0,.int .i64 0,.int .i64 0,.slice none 0 0,.int .i64 0,.int .i64 0,.slice none 0 0,.int .i64 0,.int .i64 0,.slice none 0 0] 38)):=(((Below.refl w.heap.size w).alloc (Nat.le_refl _) _).alloc (by simp) _).alloc (by simp;omega) _;have H1:Hid ((((w.alloc (Obj.cells #[.int .i64 mode,.bool sum,.bool mxr,.int .u64 satp] 41)).alloc (Obj.cells #[.int .i64 k.i.sets,.int .i64 k.i.ways,.slice a1 k.i.es.length c1,.int .i64 k.d.sets,.int .i64 k.d.ways,.slice a2 k.d.es.length c2,.int .i64 k.p.sets,.int .i64 k.p.ways,.slice a3 k.p.es.length c3] 36)).alloc (Obj.cells #[.int .i64 0,.int .u64 0,.int .i64 0,.int .i64 0,.slice none 0 0,.int .i64 0,.int .i64 0,.slice none 0 0,.int .i64 0,.int .i64 0,.slice none 0 0] 38)).heap[w.heap.size]?=some (.cells #[.int .i64 mode,.bool sum,.bool mxr,.int .u64 satp] 41 (0,0))):=by
  show _=_;rw [heap_alloc_old _ _ (by simp;omega),heap_alloc_old _ _ (by simp)];exact heap_alloc_new w _
 have H2:Hid ((((w.alloc (Obj.cells #[.int .i64 mode,.bool sum,.bool mxr,.int .u64 satp] 41)).alloc (Obj.cells #[.int .i64 k.i.sets,.int .i64 k.i.ways,.slice a1 k.i.es.length c1,.int .i64 k.d.sets,.int .i64 k.d.ways,.slice a2 k.d.es.length c2,.int .i64 k.p.sets,.int .i64 k.p.ways,.slice a3 k.p.es.length c3] 36)).alloc (Obj.cells #[.int .i64 0,.int .u64 0,.int .i64 0,.int .i64 0,.slice none 0 0,.int .i64 0,.int .i64 0,.slice none 0 0,.int .i64 0,.int .i64 0,.slice none 0 0] 38)).heap[w.heap.size+1]?=some (.cells #[.int .i64 k.i.sets,.int .i64 k.i.ways,.slice a1 k.i.es.length c1,.int .i64 k.d.sets,.int .i64 k.d.ways,.slice a2 k.d.es.length c2,.int .i64 k.p.sets,.int .i64 k.p.ways,.slice a3 k.p.es.length c3] 36 (0,0))):=by
  show _=_;rw [heap_alloc_old _ _ (by simp)];have:=heap_alloc_new (w.alloc (Obj.cells #[.int .i64 mode,.bool sum,.bool mxr,.int .u64 satp] 41)) (Obj.cells #[.int .i64 k.i.sets,.int .i64 k.i.ways,.slice a1 k.i.es.length c1,.int .i64 k.d.sets,.int .i64 k.d.ways,.slice a2 k.d.es.length c2,.int .i64 k.p.sets,.int .i64 k.p.ways,.slice a3 k.p.es.length c3] 36);simp only [World.size_alloc] at this;exact this
 have H3:Hid ((((w.alloc (Obj.cells #[.int .i64 mode,.bool sum,.bool mxr,.int .u64 satp] 41)).alloc (Obj.cells #[.int .i64 k.i.sets,.int .i64 k.i.ways,.slice a1 k.i.es.length c1,.int .i64 k.d.sets,.int .i64 k.d.ways,.slice a2 k.d.es.length c2,.int .i64 k.p.sets,.int .i64 k.p.ways,.slice a3 k.p.es.length c3] 36)).alloc (Obj.cells #[.int .i64 0,.int .u64 0,.int .i64 0,.int .i64 0,.slice none 0 0,.int .i64 0,.int .i64 0,.slice none 0 0,.int .i64 0,.int .i64 0,.slice none 0 0] 38)).heap[w.heap.size+1+1]?=some (.cells #[.int .i64 0,.int .u64 0,.int .i64 0,.int .i64 0,.slice none 0 0,.int .i64 0,.int .i64 0,.slice none 0 0,.int .i64 0,.int .i64 0,.slice none 0 0] 38 (0,0))):=by
  have:=heap_alloc_new ((w.alloc (Obj.cells #[.int .i64 mode,.bool sum,.bool mxr,.int .u64 satp] 41)).alloc (Obj.cells #[.int .i64 k.i.sets,.int .i64 k.i.ways,.slice a1 k.i.es.length c1,.int .i64 k.d.sets,.int .i64 k.d.ways,.slice a2 k.d.es.length c2,.int .i64 k.p.sets,.int .i64 k.p.ways,.slice a3 k.p.es.length c3] 36)) (Obj.cells #[.int .i64 0,.int .u64 0,.int .i64 0,.int .i64 0,.slice none 0 0,.int .i64 0,.int .i64 0,.slice none 0 0,.int .i64 0,.int .i64 0,.slice none 0 0] 38);simp only [World.size_alloc] at this;exact this
 have l1:w.heap.size+1+1<(((w.alloc (Obj.cells #[.int .i64 mode,.bool sum,.bool mxr,.int .u64 satp] 41)).alloc (Obj.cells #[.int .i64 k.i.sets,.int .i64 k.i.ways,.slice a1 k.i.es.length c1,.int .i64 k.d.sets,.int .i64 k.d.ways,.slice a2 k.d.es.length c2,.int .i64 k.p.sets,.int .i64 k.p.ways,.slice a3 k.p.es.length c3] 36)).alloc (Obj.cells #[.int .i64 0,.int .u64 0,.int .i64 0,.int .i64 0,.slice none 0 0,.int .i64 0,.int .i64 0,.slice none 0 0,.int .i64 0,.int .i64 0,.slice none 0 0] 38)).heap.size:=by simp
 unfold bC at HO |-;go_enter Tryz.func5,Tryz.ntmps5;go_upto_region 1 with fail;generalize (((w.alloc (Obj.cells #[.int .i64 mode,.bool sum,.bool mxr,.int .u64 satp] 41)).alloc (Obj.cells #[.int .i64 k.i.sets,.int .i64 k.i.ways,.slice a1 k.i.es.length c1,.int .i64 k.d.sets,.int .i64 k.d.ways,.slice a2 k.d.es.length c2,.int .i64 k.p.sets,.int .i64 k.p.ways,.slice a3 k.p.es.length c3] 36)).alloc (Obj.cells #[.int .i64 0,.int .u64 0,.int .i64 0,.int .i64 0,.slice none 0 0,.int .i64 0,.int .i64 0,.slice none 0 0,.int .i64 0,.int .i64 0,.slice none 0 0] 38))=v1 at n1 H1 H2 H3 l1 |-;obtain ⟨⟨d0,d1,d2,d3⟩,_⟩:=ag H1.out;obtain ⟨b0,b1,b2,b3,b4,b5,b6,b7,b8⟩:=aq H2.out;go_cut [49] (fun s49 wx=>s49=.bool false∧Below v1.heap.size v1 wx)
 case first=>
  go_wp2_with fail;refine (HK.out v1 n1).mono ?_;rintro e v2 ⟨rfl,n2⟩;obtain ⟨⟨d0,d1,d2,d3⟩,_⟩:=ag (aa H1 n2).out;go_wp2_with fail;go_meet;refine ⟨?_,n2⟩;simp;omega
 obtain ⟨rfl,n2⟩:=hcut;generalize wc=v2 at n2 |-;have l2:=n2.size;have n12:=Below.step n1 n2 (Nat.le_refl _);have K1:=aa H1 n2;have K2:=aa H2 n2;have K3:=aa H3 n2;clear d0 d1 d2 d3 b0 b1 b2 b3 b4 b5 b6 b7 b8;obtain ⟨⟨d0,d1,d2,d3⟩,_⟩:=ag K1.out;obtain ⟨b0,b1,b2,b3,b4,b5,b6,b7,b8⟩:=aq K2.out;have s0:w.heap.size+1+1<v2.heap.size:=by omega
 clear n1 n2 H1 H2 H3;go_wp2_with fail;refine (HL.out v2 n12).mono ?_;rintro e v3 ⟨⟨x,rfl,g1,e1,g2,e2,g3,e3,rfl,o1,o2,o3⟩,n3⟩;have l3:=n3.size;have n13:=Below.step n12 n3 (Nat.le_refl _);have P1:=aa K1 n3;have P2:=aa K2 n3;have P3:=aa K3 n3;have O1:Hid _:=o1;have O2:Hid _:=o2;have O3:Hid _:=o3;clear o1 o2 o3 n12 n3 K1 K2 K3 d0 d1 d2 d3 b0 b1 b2 b3 b4 b5 b6 b7 b8;obtain ⟨⟨d0,d1,d2,d3⟩,_⟩:=ag P1.out;have t0:w.heap.size<v3.heap.size:=by omega
 have t1:w.heap.size+1<v3.heap.size:=by omega
 have t2:w.heap.size+1+1<v3.heap.size:=by omega
 go_wp2_with fail;have n4:=(Below.refl v3.heap.size v3).alloc (Nat.le_refl _) (Obj.cells #[.int .i64 0,.int .u64 0,.int .i64 k.i.sets,.int .i64 k.i.ways,.slice (some ⟨g1,0,none⟩) k.i.es.length e1,.int .i64 k.d.sets,.int .i64 k.d.ways,.slice (some ⟨g2,0,none⟩) k.d.es.length e2,.int .i64 k.p.sets,.int .i64 k.p.ways,.slice (some ⟨g3,0,none⟩) k.p.es.length e3] 38);have H4:Hid ((v3.alloc (Obj.cells #[.int .i64 0,.int .u64 0,.int .i64 k.i.sets,.int .i64 k.i.ways,.slice (some ⟨g1,0,none⟩) k.i.es.length e1,.int .i64 k.d.sets,.int .i64 k.d.ways,.slice (some ⟨g2,0,none⟩) k.d.es.length e2,.int .i64 k.p.sets,.int .i64 k.p.ways,.slice (some ⟨g3,0,none⟩) k.p.es.length e3] 38)).heap[v3.heap.size]?=some (.cells #[.int .i64 0,.int .u64 0,.int .i64 k.i.sets,.int .i64 k.i.ways,.slice (some ⟨g1,0,none⟩) k.i.es.length e1,.int .i64 k.d.sets,.int .i64 k.d.ways,.slice (some ⟨g2,0,none⟩) k.d.es.length e2,.int .i64 k.p.sets,.int .i64 k.p.ways,.slice (some ⟨g3,0,none⟩) k.p.es.length e3] 38 (0,0))):=heap_alloc_new v3 _;have l4:v3.heap.size<(v3.alloc (Obj.cells #[.int .i64 0,.int .u64 0,.int .i64 k.i.sets,.int .i64 k.i.ways,.slice (some ⟨g1,0,none⟩) k.i.es.length e1,.int .i64 k.d.sets,.int .i64 k.d.ways,.slice (some ⟨g2,0,none⟩) k.d.es.length e2,.int .i64 k.p.sets,.int .i64 k.p.ways,.slice (some ⟨g3,0,none⟩) k.p.es.length e3] 38)).heap.size:=by simp
 generalize v3.alloc (Obj.cells #[.int .i64 0,.int .u64 0,.int .i64 k.i.sets,.int .i64 k.i.ways,.slice (some ⟨g1,0,none⟩) k.i.es.length e1,.int .i64 k.d.sets,.int .i64 k.d.ways,.slice (some ⟨g2,0,none⟩) k.d.es.length e2,.int .i64 k.p.sets,.int .i64 k.p.ways,.slice (some ⟨g3,0,none⟩) k.p.es.length e3] 38)=v4 at n4 H4 l4 |-;refine (HO.out v4).mono ?_;rintro e v5 ⟨rfl,n5⟩;have l5:=n5.size;have n45:=Below.step n4 n5 (Nat.le_refl _);have n15:=Below.step n13 n45 (Nat.le_refl _);have Q1:=aa P1 n45;have Q2:=aa P2 n45;have Q3:=aa P3 n45;have Q4:=aa H4 n5;have U1:=ae O1.out n45;have U2:=ae O2.out n45;have U3:=ae O3.out n45;have a1':=aE O1.out;have a2':=aE O2.out;have a3':=aE O3.out;have V1:Hid _:=U1;have V2:Hid _:=U2;have V3:Hid _:=U3;have A1:Hid _:=a1';have A2:Hid _:=a2';have A3:Hid _:=a3';have LL:Hid (v2.heap.size<=v3.heap.size):=l3;clear U1 U2 U3 a1' a2' a3' O1 O2 O3 n4 n5 P1 P2 P3 H4 d0 d1 d2 d3;go_wp2_with fail;refine (HC.out v5).mono ?_;rintro e v6 ⟨rfl,n6⟩;have l6:=n6.size;have n16:=Below.step n15 n6 (Nat.le_refl _);have R3:=aa Q3 n6;have R4:=aa Q4 n6;have W1:Hid _:=ae V1.out n6;have W2:Hid _:=ae V2.out n6;have W3:Hid _:=ae V3.out n6;clear n6 n15 V1 V2 V3 Q1 Q2 Q3 Q4;obtain ⟨j0,j1,j2,j3,j4,j5,j6,j7,j8,j9,j10⟩:=aw R3.out;obtain ⟨m0,m1,m2,m3,m4,m5,m6,m7,m8,m9,m10⟩:=aw R4.out;have ff:=aF R3.out;have f0:=ff 0;have f1:=ff 1;have f2:=ff 2;have f3:=ff 3;have f4:=ff 4;have f5:=ff 5;have f6:=ff 6;have f7:=ff 7;have f8:=ff 8;have f9:=ff 9;have f10:=ff 10;have gg:=aF R4.out;have g0':=gg 0;have g1':=gg 1;clear ff gg;have ne1:v3.heap.size≠w.heap.size+1+1:=by omega
 have ne2:w.heap.size+1+1≠v3.heap.size:=by omega
 go_wp2_with fail;refine (HF.out v6).mono ?_;rintro e v7 ⟨rfl,rfl⟩;go_wp2_with fail;obtain ⟨_,z1,z1'⟩:=A1.out;obtain ⟨_,z2,z2'⟩:=A2.out;obtain ⟨_,z3,z3'⟩:=A3.out;have gO:=aj (aO v7 (some v3.heap.size)) 0 (Value.int .i64 pf);refine bodyPost_ret (v:=.agg #[.int .i64 pf,.int .u64 0,.int .i64 k.i.sets,.int .i64 k.i.ways,.slice (some ⟨g1,0,none⟩) k.i.es.length e1,.int .i64 k.d.sets,.int .i64 k.d.ways,.slice (some ⟨g2,0,none⟩) k.d.es.length e2,.int .i64 k.p.sets,.int .i64 k.p.ways,.slice (some ⟨g3,0,none⟩) k.p.es.length e3]) (by simp [results,Tryz.results5,go_sem,j0,j1,j2,j3,j4,j5,j6,j7,j8,j9,j10]) rfl
  ⟨⟨_,rfl,_,_,_,rfl,ax (az (az W1.out gO (by omega)) (dt _ (w.heap.size+1+1) _ _ _ _ _ _ _ _ _ _ _) (by omega)) (by omega),ax (az (az W2.out gO (by omega)) (dt _ (w.heap.size+1+1) _ _ _ _ _ _ _ _ _ _ _) (by omega)) (by omega),ax (az (az W3.out gO (by omega)) (dt _ (w.heap.size+1+1) _ _ _ _ _ _ _ _ _ _ _) (by omega)) (by omega)⟩,dr (n16.setCell (p:=⟨v3.heap.size,0,none⟩) (by simp only;omega) _) (by omega) _ _ _ _ _ _ _ _ _ _ _⟩
end
theorem gN (a:Option Addr) (len cap:Nat) (zs:List Int) (mode:Int) (sum mxr:Bool) (satp:Int) (v:Value) (k:KM) (kind va pick:Int) (w:World) (h:KAt w v k) (hB:Byt w a len zs) (hlen:len<=1048576) (hcap:len<=cap) (hcm:cap<=9223372036854775807)
 (hv0:0<=va) (hv1:va<=18446744073709551615) (hs0:0<=satp) (hs1:satp<=18446744073709551615):
 Calls Tryz.prog 5 #[.slice a len cap,bC mode sum mxr satp,v,.int .i64 kind,.int .u64 va,.int .i64 pick] w fun e w'=>(∃x,e=.returned x∧TransOwn w.heap.size w' x (aX zs mode sum mxr satp k kind va pick))∧Below w.heap.size w w':=by
 have hko:cy k.i∧cy k.d:=by
  obtain ⟨_,_,_,_,_,_,_,t1,t2,_⟩:=h;exact ⟨TlbAt.ok t1,TlbAt.ok t2⟩
 unfold aX;split
 ·rename_i hbad;exact gF a len cap mode sum mxr satp v k kind va pick w h hbad
 ·rename_i hbad;have hgood:bn k=true:=by
   cases hg:bn k
   ·exact absurd (.inl hg) hbad
   ·rfl
  have h0:0<=kind:=by omega
  have h1:kind<=2:=by omega
  have h2:0<=mode:=by omega
  have h3:mode<=2:=by omega
  have h4:0<=pick:=by omega
  have h5:pick<=255:=by omega
  split
  ·rename_i hon;exact gI a len cap mode sum mxr satp v k kind va pick w h hgood h0 h1 h2 h3 h4 h5 hs0 hs1 hon
  ·rename_i hon;have hon:onM mode satp=true:=by simpa using hon
   split
   ·rename_i hcan;exact fE a len cap mode sum mxr satp v k kind va pick w h hgood h0 h1 h2 h3 h4 h5 hs0 hs1 hon hv0 hv1 hcan
   ·rename_i hcan;have hcan:bH va=true:=by simpa using hcan
    by_cases hk:kind=0
    ·rw [show cj k kind=k.i from if_pos hk];split
     ·rename_i hf;have hl:=iQ k.i va (au satp) hko.1.1 hf;exact gv a len cap mode sum mxr satp v k kind va pick w h hgood h0 h1 h2 h3 h4 h5 hs0 hs1 hon hk hv0 hv1 hcan hf hl.1 hl.2
     ·rename_i hf;have:=fF a len cap mode sum mxr satp v k kind va pick w h hgood h0 h1 h2 h3 h4 h5 hs0 hs1 hon hk zs hB hlen hcap hcm hv0 hv1 hcan (by simpa using hf);unfold cv at this;rw [show cj k kind=k.i from if_pos hk] at this;exact this
    ·rw [show cj k kind=k.d from if_neg hk];split
     ·rename_i hf;have hl:=iQ k.d va (au satp) hko.2.1 hf;exact gt a len cap mode sum mxr satp v k kind va pick w h hgood h0 h1 h2 h3 h4 h5 hs0 hs1 hon hk hv0 hv1 hcan hf hl.1 hl.2
     ·rename_i hf;have:=fD a len cap mode sum mxr satp v k kind va pick w h hgood h0 h1 h2 h3 h4 h5 hs0 hs1 hon hk zs hB hlen hcap hcm hv0 hv1 hcan (by simpa using hf);unfold cv at this;rw [show cj k kind=k.d from if_neg hk] at this;exact this
def bZ (e:EntM):List Value:=[.int .i64 e.level,.int .u64 e.tag,.int .u64 e.asid,.bool e.glob,.bool e.valid,.int .u64 e.pte]
def aW (e:EntM):Value:=.agg #[.int .i64 e.level,.int .u64 e.tag,.int .u64 e.asid,.bool e.glob,.bool e.valid,.int .u64 e.pte]
def av:List EntM->List Value
 | []=>[]
 | e::r=>bZ e++av r
theorem bK:∀es:List EntM,(av es).length=es.length*6
 | []=>rfl
 | e::r=>by simp [av,bZ,bK r];omega
theorem ei:∀(es:List EntM) (i j:Nat) (hi:i<es.length),j<6->(av es)[i*6+j]?=(bZ es[i])[j]?
 | e::r,0,j,hi,hj=>by
  simp only [av,List.getElem_cons_zero,Nat.zero_mul,Nat.zero_add];rw [List.getElem?_append_left (by simp [bZ];exact hj)]
 | e::r,i+1,j,hi,hj=>by
  simp only [av,List.getElem_cons_succ];rw [List.getElem?_append_right (by simp [bZ];omega)];rw [show (i+1)*6+j-(bZ e).length=i*6+j by simp [bZ];omega];exact ei r i j (by simpa using hi) hj
theorem cx:∀(l:List EntM) (k:Nat) (e:EntM),k<l.length->av (l.set k e)=((((((av l).set (k*6) (.int .i64 e.level)).set (k*6+1) (.int .u64 e.tag)).set (k*6+2) (.int .u64 e.asid)).set (k*6+3) (.bool e.glob)).set (k*6+4) (.bool e.valid)).set (k*6+5) (.int .u64 e.pte)
 | x::r,0,e,h=>by simp [av,bZ]
 | x::r,k+1,e,h=>by
  have ih:=cx r k e (by simpa using h);rw [List.set_cons_succ];simp only [av,ih];rw [show (k+1)*6=(bZ x).length+k*6 by simp [bZ];omega];simp only [Nat.add_assoc];rw [List.set_append_right _ _ (by simp [bZ]),List.set_append_right _ _ (by omega),List.set_append_right _ _ (by omega),List.set_append_right _ _ (by omega),List.set_append_right _ _ (by omega),List.set_append_right _ _ (by omega)];simp
theorem hU {e:TypeId} {w:World} {base g n cap:Nat} {es:List EntM} (h:w.ownsRow base e 6 (.slice (some ⟨g,0,none⟩) n cap) n (av es)) (hn:es.length=n) (k:Nat) (x:EntM) (hx:es[k]?=some x) (j:Nat) (v:Value) (hj:j<6) (hv:(bZ x)[j]?=some v):
 w.cell? ⟨g,k*6+j,none⟩=some v:=by
 have hk:k<es.length:=(List.getElem?_eq_some_iff.1 hx).1;refine an h _ _ ?_;rw [ei es k j hk hj];obtain ⟨_,rfl⟩:=List.getElem?_eq_some_iff.1 hx;exact hv
def aG (k n:Nat) (es:List EntM):List EntM:=es.take k++List.replicate (n-k) aZ
theorem bU (k:Nat) (es:List EntM) (hk:k<=es.length):(aG k es.length es).length=es.length:=by
 simp [aG];omega
theorem cL (k:Nat) (es:List EntM) (x:EntM) (hx:es[k]?=some x):aG (k+1) es.length es=(aG k es.length es).set k x:=by
 obtain ⟨hk,rfl⟩:=List.getElem?_eq_some_iff.1 hx;unfold aG;apply List.ext_getElem?;intro j;rw [List.getElem?_set];by_cases hj:k=j
 ·subst hj;rw [if_pos rfl,if_pos (by simp;omega),List.getElem?_append_left (by simp;omega)];simp [hk]
 ·rw [if_neg hj];by_cases hlt:j<k
  ·rw [List.getElem?_append_left (by simp;omega),List.getElem?_append_left (by simp;omega)];simp [hlt,show j<k+1 by omega]
  ·rw [List.getElem?_append_right (by simp;omega),List.getElem?_append_right (by simp;omega)];simp only [List.length_take,List.getElem?_replicate];rw [show min (k+1) es.length=k+1 by omega,show min k es.length=k by omega];by_cases hh:j<es.length
   ·rw [if_pos (by omega),if_pos (by omega)]
   ·rw [if_neg (by omega),if_neg (by omega)]
theorem fy (k:Nat) (es:List EntM) (hx:es[k]?=some aZ):aG (k+1) es.length es=aG k es.length es:=by
 rw [cL k es aZ hx];have hk:k<es.length:=(List.getElem?_eq_some_iff.1 hx).1;apply List.ext_getElem?;intro j;rw [List.getElem?_set];by_cases hj:k=j
 ·subst hj;rw [if_pos rfl,if_pos (by rw [bU _ _ (by omega)];exact hk)];unfold aG;rw [List.getElem?_append_right (by simp;omega)];simp only [List.length_take,List.getElem?_replicate];rw [if_pos (by omega)]
 ·rw [if_neg hj]
theorem dD (es:List EntM):aG es.length es.length es=es:=by
 simp [aG]
theorem cU (n:Nat) (es:List EntM):aG 0 n es=List.replicate n aZ:=by simp [aG]
theorem di {B:Nat} {a w:World} {g:Nat} (h:Below B a w) (hg:B<=g) (x y z u v t:Value):Below B a ((((((w.setCell ⟨g,0,none⟩ x).setCell ⟨g,1,none⟩ y).setCell ⟨g,2,none⟩ z).setCell ⟨g,3,none⟩ u).setCell ⟨g,4,none⟩ v).setCell ⟨g,5,none⟩ t):=
 (((cA h hg x y z).setCell (p:=⟨g,3,none⟩) hg u).setCell (p:=⟨g,4,none⟩) hg v).setCell (p:=⟨g,5,none⟩) hg t
theorem bG {v:World} {p:Nat} {T:TypeId} {a b c d e f:Value} (h:v.heap[p]?=some (.cells #[a,b,c,d,e,f] T (0,0))):
 (v.cell? ⟨p,0,none⟩=some a∧v.cell? ⟨p,1,none⟩=some b∧v.cell? ⟨p,2,none⟩=some c∧v.cell? ⟨p,3,none⟩=some d∧v.cell? ⟨p,4,none⟩=some e∧v.cell? ⟨p,5,none⟩=some f)∧
  (v.frozen? ⟨p,0,none⟩=false∧v.frozen? ⟨p,1,none⟩=false∧v.frozen? ⟨p,2,none⟩=false∧v.frozen? ⟨p,3,none⟩=false∧v.frozen? ⟨p,4,none⟩=false∧v.frozen? ⟨p,5,none⟩=false):=by
 simp [World.cell?,World.frozen?,h]
theorem jg (z:EntM) (n:Nat):(madeCells (bZ z).toArray (n*6)).toList=av (List.replicate n z):=by
 apply List.ext_getElem?;intro j;by_cases hj:j<n*6
 ·have hq:j/6<(List.replicate n z).length:=by simp;omega
  have:=ei (List.replicate n z) (j/6) (j%6) hq (by omega);rw [show j/6*6+j%6=j by omega] at this;rw [this];have h6:j%6<(bZ z).length:=by simp [bZ];omega
  simp only [madeCells,List.getElem_replicate];rw [List.getElem?_eq_getElem h6];simp [hj,bZ];rw [List.getElem?_eq_getElem (by simpa [bZ] using h6)];rfl
 ·rw [List.getElem?_eq_none (by simp [madeCells];omega),List.getElem?_eq_none (by rw [bK];simp;omega)]
theorem jh (v:World) (T E:TypeId) (xs cs:Array Value) (ss:List Value) (n:Nat) (hcs:cs.toList=ss) (hn:ss.length=n*6) (hm:n<=maxLen):
 ((v.alloc (.cells cs E)).alloc (.cells xs T)).drew.heap[v.heap.size+1]?=some (.cells xs T (0,0))∧((v.alloc (.cells cs E)).alloc (.cells xs T)).drew.ownsRow v.heap.size E 6 (.slice (some ⟨v.heap.size,0,none⟩) n n) n ss∧
  Below v.heap.size v ((v.alloc (.cells cs E)).alloc (.cells xs T)).drew∧v.heap.size+1<((v.alloc (.cells cs E)).alloc (.cells xs T)).drew.heap.size:=by
 have hs:cs.size=n*6:=by rw [<-hn,<-hcs];simp
 have h1:=World.ownsRow_lit (e:=E) (size:=6) v cs n (Nat.le_refl v.heap.size) hm hs;rw [hcs] at h1;refine ⟨?_,ae h1 (((Below.refl _ _).alloc (Nat.le_refl _) _).drew),(((Below.refl v.heap.size v).alloc (Nat.le_refl _) _).alloc (by simp) _).drew,?_⟩
 ·have:=heap_alloc_new (v.alloc (.cells cs E)) (.cells xs T);simp only [World.size_alloc] at this;exact this
 ·show _<((v.alloc (.cells cs E)).alloc (.cells xs T)).heap.size;simp
theorem ji (v:World) (T E:TypeId) (xs cs:Array Value) (ss:List Value) (n:Nat) (hcs:cs.toList=ss) (hn:ss.length=n*6) (hm:n<=maxLen):
 ((v.alloc (.cells xs T)).alloc (.cells cs E)).drew.heap[v.heap.size]?=some (.cells xs T (0,0))∧((v.alloc (.cells xs T)).alloc (.cells cs E)).drew.ownsRow v.heap.size E 6 (.slice (some ⟨v.heap.size+1,0,none⟩) n n) n ss∧
  Below v.heap.size v ((v.alloc (.cells xs T)).alloc (.cells cs E)).drew∧v.heap.size<((v.alloc (.cells xs T)).alloc (.cells cs E)).drew.heap.size:=by
 have hs:cs.size=n*6:=by rw [<-hn,<-hcs];simp
 have h1:=World.ownsRow_lit (e:=E) (size:=6) (v.alloc (.cells xs T)) cs n (base:=v.heap.size) (by simp) hm hs;rw [hcs] at h1;simp only [World.size_alloc] at h1;refine ⟨?_,h1,(((Below.refl v.heap.size v).alloc (Nat.le_refl _) _).alloc (by simp) _).drew,?_⟩
 ·show ((v.alloc (.cells xs T)).alloc (.cells cs E)).heap[v.heap.size]?=_;rw [heap_alloc_old _ _ (by simp)];exact heap_alloc_new v _
 ·show _<((v.alloc (.cells xs T)).alloc (.cells cs E)).heap.size;simp;omega
theorem bV {w:World} {g n:Nat} {es:List EntM} (h:RowC w (some ⟨g,0,none⟩) n 6 (av es)) (hn:es.length=n) (k:Nat) (x:EntM) (hx:es[k]?=some x) (j:Nat) (v:Value) (hj:j<6) (hv:(bZ x)[j]?=some v):
 w.cell? ⟨g,k*6+j,none⟩=some v:=by
 have hk:k<es.length:=(List.getElem?_eq_some_iff.1 hx).1;rcases h.2 with h0 | ⟨b',off',e,_,hc⟩
 ·omega
 ·simp at e;obtain ⟨rfl,rfl⟩:=e;have:=hc (k*6+j) v (by
   rw [ei es k j hk hj];obtain ⟨_,rfl⟩:=List.getElem?_eq_some_iff.1 hx;exact hv)
  rw [Nat.zero_add] at this;exact this
theorem fT {w w':World} {r:Option Nat} (h:Below w.heap.size w w'):w.grownBy w' r:=
 ⟨h.os,h.tape,h.output,h.size,fun i hi _=>h.block i hi⟩
theorem fI (w:World) (r:Option Nat):w.grownBy w.drew r:=fT (Below.refl _ _).drew
theorem mw {B:Nat} {a w:World} {g:Nat} (h:Below B a w) (hg:B<=g) (x y z u:Value):Below B a ((((w.setCell ⟨g,0,none⟩ x).setCell ⟨g,1,none⟩ y).setCell ⟨g,2,none⟩ z).setCell ⟨g,3,none⟩ u):=
 (cA h hg x y z).setCell (p:=⟨g,3,none⟩) hg u
theorem cS {v:World} {p:Nat} {cs:Array Value} {T:TypeId} (h:v.heap[p]?=some (.cells cs T (0,0))) (i:Nat) (x:Value) (hx:cs[i]?=some x):v.cell? ⟨p,i,none⟩=some x:=by
 simp [World.cell?,h,hx]
def Keeps (w w':World) (x y z:Nat):Prop:=
 w'.os=w.os∧w'.tape=w.tape∧w'.output=w.output∧w.heap.size<=w'.heap.size∧∀i,i<w.heap.size->i≠x->i≠y->i≠z->w'.heap[i]?=w.heap[i]?
theorem Keeps.refl (w:World) (x y z:Nat):Keeps w w x y z:=⟨rfl,rfl,rfl,Nat.le_refl _,fun _ _ _ _ _=>rfl⟩
theorem Keeps.of_below {w w':World} (x y z:Nat) (h:Below w.heap.size w w'):Keeps w w' x y z:=⟨h.os,h.tape,h.output,h.size,fun i hi _ _ _=>h.block i hi⟩
theorem Keeps.of_gb {w w':World} {r:Nat} (x y z:Nat) (h:w.grownBy w' (some r)) (hr:r=x∨r=y∨r=z):Keeps w w' x y z:=
 ⟨h.os,h.tape,h.output,h.size,fun i hi h1 h2 h3=>h.block i hi (by
  simp only [ne_eq,Option.some.injEq];rcases hr with rfl | rfl | rfl <;> (intro e;subst e;contradiction))⟩
theorem Keeps.trans {a b c:World} {x y z:Nat} (h:Keeps a b x y z) (k:Keeps b c x y z):Keeps a c x y z:=
 ⟨k.1.trans h.1,k.2.1.trans h.2.1,k.2.2.1.trans h.2.2.1,Nat.le_trans h.2.2.2.1 k.2.2.2.1,fun i hi h1 h2 h3=>(k.2.2.2.2 i (Nat.lt_of_lt_of_le hi h.2.2.2.1) h1 h2 h3).trans (h.2.2.2.2 i hi h1 h2 h3)⟩
theorem Keeps.heap {w w':World} {x y z i:Nat} {o:Obj} (h:Keeps w w' x y z) (hi:w.heap[i]?=some o) (h1:i≠x) (h2:i≠y) (h3:i≠z):w'.heap[i]?=some o:=
 (h.2.2.2.2 i (Array.getElem?_eq_some_iff.1 hi).1 h1 h2 h3).trans hi
theorem Keeps.below {w w' a:World} {B x y z:Nat} (hb:Below B a w) (h:Keeps w w' x y z) (hB:B<=w.heap.size) (h1:B<=x) (h2:B<=y) (h3:B<=z):Below B a w':=
 hb.trans ⟨h.1,h.2.1,h.2.2.1,h.2.2.2.1,fun k hk=>h.2.2.2.2 k (by omega) (by omega) (by omega) (by omega)⟩
def gu (k:KM) (gi gd gp:Nat):Array Value:=
 #[.int .i64 k.i.sets,.int .i64 k.i.ways,.slice (some ⟨gi,0,none⟩) k.i.es.length k.i.es.length,.int .i64 k.d.sets,.int .i64 k.d.ways,.slice (some ⟨gd,0,none⟩) k.d.es.length k.d.es.length,.int .i64 k.p.sets,.int .i64 k.p.ways,.slice (some ⟨gp,0,none⟩) k.p.es.length k.p.es.length]
def RowsAt (w:World) (base gi gd gp:Nat) (k:KM):Prop:=
 w.ownsRow base 136 6 (.slice (some ⟨gi,0,none⟩) k.i.es.length k.i.es.length) k.i.es.length (av k.i.es)∧
 w.ownsRow base 136 6 (.slice (some ⟨gd,0,none⟩) k.d.es.length k.d.es.length) k.d.es.length (av k.d.es)∧
 w.ownsRow base 151 6 (.slice (some ⟨gp,0,none⟩) k.p.es.length k.p.es.length) k.p.es.length (av k.p.es)∧gi≠gd∧gi≠gp∧gd≠gp
theorem RowsAt.keep {w w':World} {base gi gd gp:Nat} {k:KM} (h:RowsAt w base gi gd gp k) (hb:Below w.heap.size w w'):RowsAt w' base gi gd gp k:=
 ⟨ae h.1 hb,ae h.2.1 hb,ae h.2.2.1 hb,h.2.2.2⟩
theorem en {e:TypeId} {size:Nat} {w w':World} {base n r g c:Nat} {cs:List Value} (h:w.ownsRow base e size (.slice (some ⟨g,0,none⟩) n c) n cs) (hg:w.grownBy w' (some r)) (hr:g≠r):w'.ownsRow base e size (.slice (some ⟨g,0,none⟩) n c) n cs:=by
 refine h.kept hg (.inr ?_);simp [Value.ownBlock];exact hr
theorem RowsAt.putP {w w':World} {base gi gd gp:Nat} {k:KM} {es:List EntM} (h:RowsAt w base gi gd gp k) (hg:w.grownBy w' (some gp)) (hl:es.length=k.p.es.length) (ho:w'.ownsRow base 151 6 (.slice (some ⟨gp,0,none⟩) k.p.es.length k.p.es.length) k.p.es.length (av es)):
 RowsAt w' base gi gd gp ⟨k.i,k.d,⟨k.p.sets,k.p.ways,es⟩⟩:=by
 obtain ⟨h1,h2,h3,d1,d2,d3⟩:=h;refine ⟨en h1 hg d2,en h2 hg d3,?_,d1,d2,d3⟩;simp only;rw [hl];exact ho
theorem RowsAt.putI {w w':World} {base gi gd gp:Nat} {k:KM} {es:List EntM} (h:RowsAt w base gi gd gp k) (hg:w.grownBy w' (some gi)) (hl:es.length=k.i.es.length) (ho:w'.ownsRow base 136 6 (.slice (some ⟨gi,0,none⟩) k.i.es.length k.i.es.length) k.i.es.length (av es)):
 RowsAt w' base gi gd gp ⟨⟨k.i.sets,k.i.ways,es⟩,k.d,k.p⟩:=by
 obtain ⟨h1,h2,h3,d1,d2,d3⟩:=h;refine ⟨?_,en h2 hg (Ne.symm d1),en h3 hg (Ne.symm d2),d1,d2,d3⟩;simp only;rw [hl];exact ho
theorem RowsAt.putD {w w':World} {base gi gd gp:Nat} {k:KM} {es:List EntM} (h:RowsAt w base gi gd gp k) (hg:w.grownBy w' (some gd)) (hl:es.length=k.d.es.length) (ho:w'.ownsRow base 136 6 (.slice (some ⟨gd,0,none⟩) k.d.es.length k.d.es.length) k.d.es.length (av es)):
 RowsAt w' base gi gd gp ⟨k.i,⟨k.d.sets,k.d.ways,es⟩,k.p⟩:=by
 obtain ⟨h1,h2,h3,d1,d2,d3⟩:=h;refine ⟨en h1 hg d1,?_,en h3 hg (Ne.symm d3),d1,d2,d3⟩;simp only;rw [hl];exact ho
def SetAt (w:World) (b base gi gd gp:Nat) (k:KM):Prop:=
 w.heap[b]?=some (.cells (gu k gi gd gp) 85 (0,0))∧RowsAt w base gi gd gp k∧b≠gi∧b≠gd∧b≠gp
theorem SetAt.keep {w w':World} {b base gi gd gp:Nat} {k:KM} (h:SetAt w b base gi gd gp k) (hb:Below w.heap.size w w'):SetAt w' b base gi gd gp k:=
 ⟨aC h.1 hb (Array.getElem?_eq_some_iff.1 h.1).1,h.2.1.keep hb,h.2.2⟩
theorem SetAt.lt {w:World} {b base gi gd gp:Nat} {k:KM} (h:SetAt w b base gi gd gp k):b<w.heap.size:=(Array.getElem?_eq_some_iff.1 h.1).1
theorem SetAt.cellI {w:World} {b base gi gd gp:Nat} {k:KM} (h:SetAt w b base gi gd gp k):
 w.cell? ⟨b,0,none⟩=some (.int .i64 k.i.sets)∧w.cell? ⟨b,0+1,none⟩=some (.int .i64 k.i.ways)∧w.cell? ⟨b,0+2,none⟩=some (.slice (some ⟨gi,0,none⟩) k.i.es.length k.i.es.length):=
 ⟨cS h.1 0 _ rfl,cS h.1 1 _ rfl,cS h.1 2 _ rfl⟩
theorem SetAt.cellD {w:World} {b base gi gd gp:Nat} {k:KM} (h:SetAt w b base gi gd gp k):
 w.cell? ⟨b,3,none⟩=some (.int .i64 k.d.sets)∧w.cell? ⟨b,3+1,none⟩=some (.int .i64 k.d.ways)∧w.cell? ⟨b,3+2,none⟩=some (.slice (some ⟨gd,0,none⟩) k.d.es.length k.d.es.length):=
 ⟨cS h.1 3 _ rfl,cS h.1 4 _ rfl,cS h.1 5 _ rfl⟩
theorem SetAt.cellP {w:World} {b base gi gd gp:Nat} {k:KM} (h:SetAt w b base gi gd gp k):
 w.cell? ⟨b,6,none⟩=some (.int .i64 k.p.sets)∧w.cell? ⟨b,6+1,none⟩=some (.int .i64 k.p.ways)∧w.cell? ⟨b,6+2,none⟩=some (.slice (some ⟨gp,0,none⟩) k.p.es.length k.p.es.length):=
 ⟨cS h.1 6 _ rfl,cS h.1 7 _ rfl,cS h.1 8 _ rfl⟩
theorem db (level:Int) (w:World) (hl:level=0∨level=1∨level=2):
 Calls Tryz.prog 99 #[.int .i64 level] w fun e w'=>e=.returned (.int .u64 (dN level-1))∧w'=w:=by
 rcases hl with rfl | rfl | rfl;all_goals
  go_enter Tryz.func99,Tryz.ntmps99;go_wp2_with (go_at_call 84;refine (bp 15 32767 _ (by omega)).mono ?_;rintro e w' ⟨rfl,rfl⟩);go_ret;exact ⟨br (by decide),rfl⟩
theorem iy (va level:Int) (w:World) (hv0:0<=va) (hv1:va<=18446744073709551615) (hl:level=0∨level=1∨level=2):
 Calls Tryz.prog 85 #[.int .u64 va,.int .i64 level] w fun e w'=>e=.returned (.int .u64 (bP va level))∧∃n,w'=w.drewN n:=by
 rcases hl with rfl | rfl | rfl
 ·have H:Hid (bits .and .u64 (va/64) 511=bP va 0):=bS 9 (va/64) 511 rfl (by omega) (by omega) (by omega);go_enter Tryz.func85,Tryz.ntmps85;go_wp2_with fail;go_quiet ((go_at_call 99;exact Calls.quiet_of_same (db 0 _ (by omega))));go_wp2_with fail;go_ret;exact ⟨br H.out,nq,rfl⟩
 ·have H:Hid (bits .and .u64 (va/512) 63=bP va 1):=bS 6 (va/512) 63 rfl (by omega) (by omega) (by omega);go_enter Tryz.func85,Tryz.ntmps85;go_wp2_with fail;go_quiet ((go_at_call 99;exact Calls.quiet_of_same (db 1 _ (by omega))));go_wp2_with fail;go_ret;exact ⟨br H.out,nq,rfl⟩
 ·have H:Hid (bits .and .u64 (va/4096) 7=bP va 2):=bS 3 (va/4096) 7 rfl (by omega) (by omega) (by omega);go_enter Tryz.func85,Tryz.ntmps85;go_wp2_with fail;go_quiet ((go_at_call 99;exact Calls.quiet_of_same (db 2 _ (by omega))));go_wp2_with fail;go_ret;exact ⟨br H.out,nq,rfl⟩
theorem eh (satp:Int) (w:World) (h0:0<=satp) (h1:satp<=18446744073709551615):
 Calls Tryz.prog 66 #[.int .u64 satp] w fun e w'=>e=.returned (.int .u64 (au satp))∧w'=w:=by
 have H:Hid (bits .and .u64 (satp/17592186044416) 65535=au satp):=bS 16 (satp/17592186044416) 65535 rfl (by omega) (by omega) (by omega);go_enter Tryz.func66,Tryz.ntmps66;go_wp2_with (go_at_call 84;refine (bp 16 65535 _ (by omega)).mono ?_;rintro e w' ⟨rfl,rfl⟩);go_ret;exact ⟨br H.out,rfl⟩
theorem jR (x level:Int) (w:World) (h0:0<=x) (h1:x<=18446744073709551615):
 Calls Tryz.prog 142 #[.int .u64 x,.int .i64 level] w fun e w'=>e=.returned (.bool (aH x level == 2))∧w'=w:=by
 go_enter Tryz.func142,Tryz.ntmps142;go_wp2_with (go_at_call 115;refine (eS x level _ h0 h1).mono ?_;rintro e w' ⟨rfl,rfl⟩);go_ret;exact ⟨ah (by simp),rfl⟩
theorem jS (x level:Int) (w:World) (h0:0<=x) (h1:x<=18446744073709551615):
 Calls Tryz.prog 143 #[.int .u64 x,.int .i64 level] w fun e w'=>e=.returned (.bool (aH x level == 1))∧w'=w:=by
 go_enter Tryz.func143,Tryz.ntmps143;go_wp2_with (go_at_call 115;refine (eS x level _ h0 h1).mono ?_;rintro e w' ⟨rfl,rfl⟩);go_ret;exact ⟨ah (by simp),rfl⟩
theorem iz (k:Int) (w:World):
 Calls Tryz.prog 36 #[.int .i64 k] w fun e w'=>e=.returned (.bool (decide (0<=k∧k<=255)))∧w'=w:=by
 by_cases h:0<=k
 ·go_enter Tryz.func36,Tryz.ntmps36;go_wp2_with fail;go_ret;exact ⟨ah (by simp [h]),rfl⟩
 ·go_enter Tryz.func36,Tryz.ntmps36;go_wp2_with fail;go_ret;exact ⟨ah (by simp;omega),rfl⟩
theorem ly (x:Int) (w:World) (h0:0<=x) (h1:x<=18446744073709551615):
 Calls Tryz.prog 105 #[.int .u64 x] w fun e w'=>e=.returned (.int .u64 (bj x))∧w'=w:=by
 go_enter Tryz.func105,Tryz.ntmps105;go_wp2_with (go_at_call 113;refine (iC x _ h0 h1).mono ?_;rintro e w' ⟨rfl,rfl⟩);go_ret;exact ⟨rfl,rfl⟩
end Go.Proofs.YtfgogedgolgnaaaGreat
