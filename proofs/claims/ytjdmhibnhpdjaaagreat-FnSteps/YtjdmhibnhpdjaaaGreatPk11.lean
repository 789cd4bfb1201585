import Derived.Test.YtjdmhibnhpdjaaaGreatPk10
namespace Go.Proofs.YtjdmhibnhpdjaaaGreat
open Go.RowKit
set_option linter.unusedVariables false
set_option maxHeartbeats 6400000
set_option maxRecDepth 20000
section
attribute [local go_sem ↓] Go.wp_at_zero Go.wp_at_succ
theorem tr (a:Option Addr) (len cap:Nat) (mode:Int) (sum mxr:Bool) (satp:Int) (v:Value) (k:KM) (kind va pick:Int) (w:World) (h:KAt w v k)
 (hgood:iP k=true) (h0:0<=kind) (h1:kind<=2) (h2:0<=mode) (h3:mode<=2) (h4:0<=pick) (h5:pick<=255) (hs0:0<=satp) (hs1:satp<=18446744073709551615) (hon:onM mode satp=true) (hv0:0<=va) (hv1:va<=18446744073709551615) (hcan:jN va=false):
 Calls Tryz.prog 102 #[.slice a len cap,kg mode sum mxr satp,v,VI kind,VU va,VI pick] w fun e w'=>(∃x,e=.returned x∧TransOwn w.heap.size w' x ((bW kind,0),k))∧Bw w w':=by
 have HK:=hid fun u (hu:Bw w u)=>kF v k u (h.keep hu);have HL:=hid fun u (hu:Bw w u)=>lY v k u (h.keep hu);have HO:Hid (∀u,Calls Tryz.prog 124 #[kg mode sum mxr satp] u fun e w'=>e=.returned (.bool true)∧Bw u w'):=fun u=>by have:=qw mode sum mxr satp u hs0 hs1;rw [hon] at this;exact this
 have HC:Hid (∀u:World,Calls Tryz.prog 128 #[VU va] u fun e w'=>e=.returned (.bool false)∧Bw u w'):=fun u=>by
  have:=ko va u hv0 hv1;rw [hcan] at this;refine this.mono ?_;rintro e w' ⟨rfl,n,rfl⟩;exact ⟨rfl,below_drewN brf n⟩
 obtain ⟨a1,c1,a2,c2,a3,c3,rfl,_⟩:=h;clear hcan;have HF:=hid fun (u:World)=>mN kind u;generalize bW kind=pf at HF |-;rw [hgood] at HK;clear hgood hon;obtain ⟨v1,Ev1,n1,H1,H2,H3,l1⟩:=al3 w #[VI mode,.bool sum,.bool mxr,VU satp] #[VI k.i.sets,VI k.i.ways,.slice a1 k.i.es.length c1,VI k.d.sets,VI k.d.ways,.slice a2 k.d.es.length c2,VI k.p.sets,VI k.p.ways,.slice a3 k.p.es.length c3] #[VI 0,VU 0,VI 0,VI 0,SN,VI 0,VI 0,SN,VI 0,VI 0,SN] 205 35 208;unfold kg at HO |-;go_enter Tryz.func102,Tryz.ntmps102;go_upto_region 1 with fail;rw [Ev1.out];clear Ev1;obtain ⟨⟨d0,d1,d2,d3⟩,_⟩:=ig H1.out;obtain ⟨b0,b1,b2,b3,b4,b5,b6,b7,b8⟩:=jr H2.out;go_cut [49] (fun s49 wx=>s49=.bool false∧Bw v1 wx)
 case first=>
  go_wp2_with fail;refine (HK.out v1 n1).mono ?_;rintro e v2 ⟨rfl,n2⟩;obtain ⟨⟨d0,d1,d2,d3⟩,_⟩:=ig (gZ H1 n2).out;go_wp2;go_meet;refine ⟨?_,n2⟩;simp;omega
 obtain ⟨rfl,n2⟩:=hcut;generalize wc=v2 at n2 |-;have l2:=n2.size;have n12:=bst n1 n2;have K1:=gZ H1 n2;have K2:=gZ H2 n2;have K3:=gZ H3 n2;clear d0 d1 d2 d3 b0 b1 b2 b3 b4 b5 b6 b7 b8;obtain ⟨⟨d0,d1,d2,d3⟩,_⟩:=ig K1.out;obtain ⟨b0,b1,b2,b3,b4,b5,b6,b7,b8⟩:=jr K2.out;have s0:w.heap.size+1+1<v2.heap.size:=by omega
 clear n1 n2 H1 H2 H3;go_wp2_with fail;refine (HL.out v2 n12).mono ?_;rintro e v3 ⟨⟨x,rfl,g1,e1,g2,e2,g3,e3,rfl,o1,o2,o3⟩,n3⟩;have l3:=n3.size;have n13:=bst n12 n3;have P1:=gZ K1 n3;have P2:=gZ K2 n3;have P3:=gZ K3 n3;have O1:Hid _:=o1;have O2:Hid _:=o2;have O3:Hid _:=o3;clear o1 o2 o3 n12 n3 K1 K2 K3 d0 d1 d2 d3 b0 b1 b2 b3 b4 b5 b6 b7 b8;obtain ⟨⟨d0,d1,d2,d3⟩,_⟩:=ig P1.out;have t0:w.heap.size<v3.heap.size:=by omega
 have t1:w.heap.size+1<v3.heap.size:=by omega
 have t2:w.heap.size+1+1<v3.heap.size:=by omega
 go_wp2_with fail;obtain ⟨v4,Ev4,n4,H4,l4⟩:=al1 v3 #[VI 0,VU 0,VI k.i.sets,VI k.i.ways,SL g1 k.i.es.length e1,VI k.d.sets,VI k.d.ways,SL g2 k.d.es.length e2,VI k.p.sets,VI k.p.ways,SL g3 k.p.es.length e3] 208;rw [Ev4.out];clear Ev4;refine (HO.out v4).mono ?_;rintro e v5 ⟨rfl,n5⟩;have l5:=n5.size;have n45:=bst n4 n5;have n15:=bst n13 n45;have Q1:=gZ P1 n45;have Q2:=gZ P2 n45;have Q3:=gZ P3 n45;have Q4:=gZ H4 n5;have U1:=ab O1.out n45;have U2:=ab O2.out n45;have U3:=ab O3.out n45;have a1':=eh O1.out;have a2':=eh O2.out;have a3':=eh O3.out;have V1:Hid _:=U1;have V2:Hid _:=U2;have V3:Hid _:=U3;have A1:Hid _:=a1';have A2:Hid _:=a2';have A3:Hid _:=a3';have LL:=hid l3;clear U1 U2 U3 a1' a2' a3' O1 O2 O3 n4 n5 P1 P2 P3 H4 d0 d1 d2 d3;go_wp2_with fail;refine (HC.out v5).mono ?_;rintro e v6 ⟨rfl,n6⟩;have l6:=n6.size;have n16:=bst n15 n6;have R3:=gZ Q3 n6;have R4:=gZ Q4 n6;have W1:Hid _:=ab V1.out n6;have W2:Hid _:=ab V2.out n6;have W3:Hid _:=ab V3.out n6;clear n6 n15 V1 V2 V3 Q1 Q2 Q3 Q4;obtain ⟨j0,j1,j2,j3,j4,j5,j6,j7,j8,j9,j10⟩:=jo R3.out;obtain ⟨m0,m1,m2,m3,m4,m5,m6,m7,m8,m9,m10⟩:=jo R4.out;have ff:=jT R3.out;have f0:=ff 0;have f1:=ff 1;have f2:=ff 2;have f3:=ff 3;have f4:=ff 4;have f5:=ff 5;have f6:=ff 6;have f7:=ff 7;have f8:=ff 8;have f9:=ff 9;have f10:=ff 10;have gg:=jT R4.out;have g0':=gg 0;have g1':=gg 1;clear ff gg;have ne1:v3.heap.size≠w.heap.size+1+1:=by omega
 have ne2:w.heap.size+1+1≠v3.heap.size:=by omega
 go_wp2_with fail;refine (HF.out v6).mono ?_;rintro e v7 ⟨rfl,rfl⟩;go_wp2_with fail;obtain ⟨_,z1,z1'⟩:=A1.out;obtain ⟨_,z2,z2'⟩:=A2.out;obtain ⟨_,z3,z3'⟩:=A3.out;have gO:=hZ (aM v7 (some v3.heap.size)) 0 (VI pf);refine bodyPost_ret (v:=.agg #[VI pf,VU 0,VI k.i.sets,VI k.i.ways,SL g1 k.i.es.length e1,VI k.d.sets,VI k.d.ways,SL g2 k.d.es.length e2,VI k.p.sets,VI k.p.ways,SL g3 k.p.es.length e3]) (by simp [results,Tryz.results102,go_sem,j0,j1,j2,j3,j4,j5,j6,j7,j8,j9,j10]) rfl
  ⟨⟨_,rfl,_,_,_,rfl,ir (iX (iX W1.out gO (by omega)) (tR _ (w.heap.size+1+1) _ _ _ _ _ _ _ _ _ _ _) (by omega)) (by omega),ir (iX (iX W2.out gO (by omega)) (tR _ (w.heap.size+1+1) _ _ _ _ _ _ _ _ _ _ _) (by omega)) (by omega),ir (iX (iX W3.out gO (by omega)) (tR _ (w.heap.size+1+1) _ _ _ _ _ _ _ _ _ _ _) (by omega)) (by omega)⟩,tQ (n16.setCell (p:=(AD v3.heap.size 0)) (by simp only;omega) _) (by omega) _ _ _ _ _ _ _ _ _ _ _⟩
end
theorem vx (a:Option Addr) (len cap:Nat) (zs:List Int) (mode:Int) (sum mxr:Bool) (satp:Int) (v:Value) (k:KM) (kind va pick:Int) (w:World) (h:KAt w v k) (hB:Byt w a len zs) (hlen:len<=1048576) (hcap:len<=cap) (hcm:cap<=9223372036854775807)
 (hv0:0<=va) (hv1:va<=18446744073709551615) (hs0:0<=satp) (hs1:satp<=18446744073709551615):
 Calls Tryz.prog 102 #[.slice a len cap,kg mode sum mxr satp,v,VI kind,VU va,VI pick] w fun e w'=>(∃x,e=.returned x∧TransOwn w.heap.size w' x (ay zs mode sum mxr satp k kind va pick))∧Bw w w':=by
 have hko:aE k.i∧aE k.d:=by
  obtain ⟨_,_,_,_,_,_,_,t1,t2,_⟩:=h;exact ⟨TlbAt.ok t1,TlbAt.ok t2⟩
 unfold ay;split
 ·rename_i hbad;exact vf a len cap mode sum mxr satp v k kind va pick w h hbad
 ·rename_i hbad;have hgood:iP k=true:=by
   cases hg:iP k
   ·exact absurd (.inl hg) hbad
   ·rfl
  have h0:0<=kind:=by omega
  have h1:kind<=2:=by omega
  have h2:0<=mode:=by omega
  have h3:mode<=2:=by omega
  have h4:0<=pick:=by omega
  have h5:pick<=255:=by omega
  split
  ·rename_i hon;exact vk a len cap mode sum mxr satp v k kind va pick w h hgood h0 h1 h2 h3 h4 h5 hs0 hs1 hon
  ·rename_i hon;have hon:onM mode satp=true:=by simpa using hon
   split
   ·rename_i hcan;exact tr a len cap mode sum mxr satp v k kind va pick w h hgood h0 h1 h2 h3 h4 h5 hs0 hs1 hon hv0 hv1 hcan
   ·rename_i hcan;have hcan:jN va=true:=by simpa using hcan
    by_cases hk:kind=0
    ·rw [show bS k kind=k.i from if_pos hk];split
     ·rename_i hf;have hl:=xK k.i va (aA satp) hko.1.1 hf;exact pZ.2 a len cap mode sum mxr satp v k kind va pick w h hgood h0 h1 h2 h3 h4 h5 hs0 hs1 hon hk hv0 hv1 hcan hf hl.1 hl.2
     ·rename_i hf;have:=pj.2 a len cap mode sum mxr satp v k kind va pick w h hgood h0 h1 h2 h3 h4 h5 hs0 hs1 hon hk zs hB hlen hcap hcm hv0 hv1 hcan (by simpa using hf);unfold mQ at this;rw [show bS k kind=k.i from if_pos hk] at this;exact this
    ·rw [show bS k kind=k.d from if_neg hk];split
     ·rename_i hf;have hl:=xK k.d va (aA satp) hko.2.1 hf;exact pZ.1 a len cap mode sum mxr satp v k kind va pick w h hgood h0 h1 h2 h3 h4 h5 hs0 hs1 hon hk hv0 hv1 hcan hf hl.1 hl.2
     ·rename_i hf;have:=pj.1 a len cap mode sum mxr satp v k kind va pick w h hgood h0 h1 h2 h3 h4 h5 hs0 hs1 hon hk zs hB hlen hcap hcm hv0 hv1 hcan (by simpa using hf);unfold mQ at this;rw [show bS k kind=k.d from if_neg hk] at this;exact this
theorem uX:(Tryz.prog.info? 160).map (·.size)=some 2:=by kernel_rfl
theorem Tryz.infoLk:(Tryz.prog.info? 202).map (fun i=>(i.zero,i.size,i.bytes))=some (some (.agg #[VI 0,VU 0]),2,16):=by kernel_rfl
theorem oX (ls:List (Int × Int)):∀u∈kE ls,u.oneCell'=true:=by
 induction ls with
 | nil=>intro u hu;cases hu
 | cons l ls ih=>
  intro u hu;simp only [kE,List.mem_cons] at hu;rcases hu with rfl | rfl | hu
  ·rfl
  ·rfl
  ·exact ih u hu
theorem uY (a b:List (Int × Int)):kE (a++b)=kE a++kE b:=by
 induction a with
 | nil=>rfl
 | cons l a ih=>simp [kE,ih]
theorem sO {base size n:Nat} {e:TypeId} {w:World} {s:Value} {cs:List Value} (h:w.ownsRow base e size s n cs):∃a c,s=.slice a n c:=by
 have h1:=h.1;rcases h.2 with ⟨h2,h3⟩ | ⟨g',cap',cur,h2,_⟩
 ·exact ⟨none,0,by rw [h2,h3]⟩
 ·exact ⟨some (AD g' 0),cap',h2⟩
def oY (q:PtrM) (r:(Int × Int) × KM):Array Value:=#[VI r.1.1,VU r.1.2,VI r.2.i.sets,VI r.2.i.ways,.slice q.a1 r.2.i.es.length q.c1,VI r.2.d.sets,VI r.2.d.ways,.slice q.a2 r.2.d.es.length q.c2,VI r.2.p.sets,VI r.2.p.ways,.slice q.a3 r.2.p.es.length q.c3]
theorem TransOwn.open {base:Nat} {w:World} {x:Value} {r:(Int × Int) × KM} (h:TransOwn base w x r) (p:PtrM):∃a1 c1 a2 c2 a3 c3,x=.agg (oY (pK p a1 c1 a2 c2 a3 c3) r)∧KRows base w (pK p a1 c1 a2 c2 a3 c3) r.2:=by
 obtain ⟨s1,s2,s3,rfl,o1,o2,o3⟩:=h;obtain ⟨a1,c1,rfl⟩:=sO o1;obtain ⟨a2,c2,rfl⟩:=sO o2;obtain ⟨a3,c3,rfl⟩:=sO o3;exact ⟨a1,c1,a2,c2,a3,c3,rfl,o1,o2,o3⟩
theorem zA {P:Program} {fn:Func} {R:Ending->World->Prop} {a:Act} {w:World} {s t:Tmp} {T U:TypeId} {b c:Nat} {V W:Value} (hr:fn.results=#[ResultVar.cell s T,ResultVar.cell t U]) (hs:a.tmps[s]?=some (PT b 0)) (ht:a.tmps[t]?=some (PT c 0)) (hl:(loadVar T (AD b 0)).run P w=.ok V w) (hm:(loadVar U (AD c 0)).run P w=.ok W w) (hd:a.defers=[]) (hR:R (.returned (.tuple #[V,W])) w):bodyPost P fn R .ret a w:=by
 refine bodyPost_ret (v:=.tuple #[V,W]) ?_ hd hR;simp [results,hr,hs,ht,asAddr,hl,hm,Sem.run_bind]
theorem rZ (p:PtrM) (al:Option Addr) (cl:Nat) (pick:Int) (r:RunM) (kind va:Int) (w:World) (hr:RunIn w p al cl r) (hk:ROk r) (hpk:0<=pick∧pick<=255) (hkd:0<=kind∧kind<=2) (hv:inU va) (hll:r.looks.length<=7):
 Calls Tryz.prog 78 #[.agg (gU p al cl true pick r),VI kind,VU va] w fun e w'=>(∃p' al' cl',e=.returned (.tuple #[.agg (gU p' al' cl' true pick (bC true pick r kind va)),kW (aw true pick r.h kind va).1])∧RunIn w' p' al' cl' (bC true pick r kind va)∧From w.heap.size p p'∧FromL w.heap.size al al')∧Bw w w':=by
 have hmem:=lS hk.h.v.size;have HI:=hid hr;have HOK:=hid hk;have HLk:=hid hr.looks;have HLa:=hid hr.looka;have HP:Hid (∀g cap,(gU p al cl true pick r).setIfInBounds 25 (SL g (r.looks.length+1) cap)=gU p (some (AD g 0)) cap true pick ⟨r.h,r.cause,r.tval,r.looks++[(kind,va)],r.fenced,r.fence⟩):=fun g cap=>by
  unfold gU;simp
 have hsz:=iK p al cl true pick r;have g25:(gU p al cl true pick r)[25]?=some (.slice al r.looks.length cl):=rfl;have HO:=hid (jI p al cl true pick r);generalize gU p al cl true pick r=C at *;obtain ⟨N,hN⟩:∃N,r.looks.length=N:=⟨_,rfl⟩;rw [hN] at HLk HLa HP g25 hll;have HN:=hid hN;clear hr hN hk;go_enter Tryz.func78,Tryz.ntmps78;go_upto_region 1 with fail;obtain ⟨v1,Ev1,F⟩:=ax3 w C gc #[VI 0,VU 0] 58 58 160;rw [Ev1.out];clear Ev1;obtain ⟨h3,h6,h7,l1,n1⟩:=F;have H3:Hid _:=h3;have H6:Hid _:=h6;have H7:Hid _:=h7;have b1:w.heap.size<v1.heap.size:=by omega
 have b2:w.heap.size+1<v1.heap.size:=by omega
 have b3:w.heap.size+2<v1.heap.size:=by omega
 have c25:=gX h3 25 g25;have OE:=OwnC.new 202 2 v1 [] 0 rfl (by decide);have nE:=(Below.refl v1.heap.size v1).alloc nle (Obj.cells #[] 202);clear h3 h6 h7 l1;go_upto_region 2 with (at_builtin;first
  | (refine mJ _ rfl (.tmp 9) (.tmp 11) 54 rfl 202 Tryz.underlying54 (.agg #[VI 0,VU 0]) 2 16 Tryz.infoLk rfl (by decide) v1.heap.size v1.heap.size 0 0 [] rfl OE al N cl (kE r.looks) rfl HLa.out.1 HLa.out.2 (RowC.keep (RowC.keep HLk.out n1) nE) (oX _) (by omega) (by omega) v1.heap.size v1 nE nle ?_;intro g2 cap2 v2 o2 n2;have n3:=(Below.refl v2.heap.size v2).alloc nle (Obj.cells #[VI kind,VU va] 202);have n23:=bst n2 n3;simp only [Nat.zero_add,List.nil_append] at o2 |-;have o3:=OwnC.keep o2 n3 o2.facts.2.2.1;have q3:=(OwnC.new 202 2 v2 (kE [(kind,va)]) 1 rfl (by decide)).row;have z2:=n2.size;clear OE nE)
  | (refine mJ _ rfl (.tmp 12) (.tmp 16) 54 rfl 202 Tryz.underlying54 (.agg #[VI 0,VU 0]) 2 16 Tryz.infoLk rfl (by decide) v1.heap.size g2 N cap2 (kE r.looks) rfl o3 (some (AD v2.heap.size 0)) 1 1 (kE [(kind,va)]) rfl (fun h=>(by cases h)) (fun q hq=>by cases hq;rfl) q3 (oX _) (by omega) (by omega) v1.heap.size v1 n23 nle ?_;intro g4 cap4 v4 o4 n4;have k3:=ae H3.out n4 b1;have c25:=gX k3 25 g25;have f25:=ie k3 25;have b4:=ltl b1 n4.size;clear o2 o3 q3 n2 n3 n23 z2))
 have f4:=o4.facts;have hg1:=f4.2.1;have hg2:=f4.2.2.1;have HC4:Hid (N+1<=cap4∧cap4<=9223372036854775807):=⟨f4.2.2.2.1,by have:=f4.2.2.2.2;unfold maxLen at this;exact this⟩;have ng':g4≠w.heap.size:=by omega
 have K3:Hid _:=iI k3 25 (SL g4 (N+1) cap4);have K6:Hid _:=dz (ae H6.out n4 b2) 25 (SL g4 (N+1) cap4) (show w.heap.size+1≠w.heap.size by omega);have K7:Hid _:=dz (ae H7.out n4 b3) 25 (SL g4 (N+1) cap4) (show w.heap.size+2≠w.heap.size by omega);have n5:=eD (bst n1 n4) nle 25 (SL g4 (N+1) cap4);have O5:Hid (OwnC 202 2 (v4.setCell (AD w.heap.size 25) (SL g4 (N+1) cap4)) v1.heap.size g4 (N+1) cap4 (kE (r.looks++[(kind,va)]))):=by
  rw [uY];exact OwnC.gb o4 (hZ (aM v4 (some w.heap.size)) 25 (SL g4 (N+1) cap4)) ng'
 have z5:v1.heap.size<=(v4.setCell (AD w.heap.size 25) (SL g4 (N+1) cap4)).heap.size:=by simp;exact n4.size
 have hg3:g4<(v4.setCell (AD w.heap.size 25) (SL g4 (N+1) cap4)).heap.size:=by simp;exact hg2
 generalize v4.setCell (AD w.heap.size 25) (SL g4 (N+1) cap4)=v5 at K3 K6 K7 n5 O5 z5 hg3 |-;have HE:Hid _:=HP.out g4 cap4;have hsz2:(C.setIfInBounds 25 (SL g4 (N+1) cap4)).size=31:=by simp only [Array.size_setIfInBounds,hsz]
 have hone:=qE HO.out 25 (v:=SL g4 (N+1) cap4) rfl;generalize C.setIfInBounds 25 (SL g4 (N+1) cap4)=D at K3 HE hsz2 hone;clear o4 f4 k3 c25 f25 n4 H3 H6 H7 hg2 n1 HLk HLa;have HD:=HE.out;have g21:D[21]?=some (.bool true):=by rw [HD];rfl
 have g22:D[22]?=some (VI pick):=by rw [HD];rfl
 have g0:D[0]?=some (.slice p.am r.h.mem.length p.cm):=by rw [HD];rfl
 have HDh:Hid ((D.toList.drop 0).take 21=(bJ p r.h).toList):=by show _=_;rw [HD];rfl
 have HDk:Hid ((D.toList.drop 12).take 9=(kA p r.h.k).toList):=by show _=_;rw [HD];rfl
 clear HD;have c21:=gX K3.out 21 g21;have b5:w.heap.size<v5.heap.size:=by omega
 go_upto_region 3 with fail;clear c21;obtain ⟨M,hM⟩:∃M,r.h.mem.length=M:=⟨_,rfl⟩;rw [hM] at g0;have HPl:Hid (∀u,Bw w u->Calls Tryz.prog 100 #[.slice p.am M p.cm,kg r.h.mode r.h.sum r.h.mxr r.h.satp,VI kind,VU va] u fun e w'=>e=.returned (kW (aw true pick r.h kind va).1)∧Bw u w'):=fun u hu=>by
  have hB:=HI.out.h.mem.keep hu;rw [hM] at hB;exact vo p.am M p.cm r.h.mem r.h.mode r.h.sum r.h.mxr r.h.satp kind va u (by omega) (by have:=HI.out.h.memc.1;omega) HI.out.h.memc.2 HOK.out.h.satp.1 HOK.out.h.satp.2 hv.1 hv.2 hB
 have HCt:=hid fun u=>wC p r.h u;have HLh:=hid fun (u:World) (hu:u.heap[w.heap.size]?=some (.cells D 58 (0,0)))=>jB (P:=Tryz.prog) (T:=37) hu Tryz.underlying37 rfl (o:=0) (bJ p r.h).toList kq HDh.out rfl;have HLr:=hid fun (u:World) (hu:u.heap[w.heap.size]?=some (.cells D 58 (0,0)))=>iA (P:=Tryz.prog) (T:=58) hu Tryz.underlying58 rfl (by rw [hsz2];exact jC);have hMl:M<=4096:=by omega
 clear hM hmem;generalize bJ p r.h=E at *;have HTV:Hid (∃tv,kW (aw true pick r.h kind va).1=.agg tv∧tv.size=2∧tv.all (·.oneCell')=true):=⟨_,rfl,rfl,by simp [Value.oneCell']⟩;obtain ⟨tv,htv,tvs,tvo⟩:=HTV.out;rw [htv] at HPl;have HTw:Hid _:=htv;clear htv HTV;have HTo:=hid tvo;clear tvo;have HL0:Hid (∀u:World,u.heap[w.heap.size]?=some (.cells D 58 (0,0))->(Instr.loadAt 22 (PT w.heap.size 0)).run Tryz.prog u=.ok (.slice p.am M p.cm) u):=fun u hu=>by
  have h1:=gX hu 0 g0;go_simp
 have nD:=bdr v5;have hF:v5.drew.heap[w.heap.size]?=some (.cells D 58 (0,0)):=K3.out;refine ip (fun u=>u.heap[w.heap.size]?=some (.cells D 58 (0,0))) 10 ?_;refine ic 0 21 (.agg D) rfl hF ?_ (hy:=fun u hu=>iw rfl (HLr.out u hu))
 go_frame
 refine ic 1 22 (PT w.heap.size 0) rfl hF ?_;refine ic 2 23 (PT w.heap.size 0) rfl hF ?_
 go_frame
 refine ic 3 24 (.slice p.am M p.cm) rfl hF ?_ (hy:=fun u hu=>iw rfl (HL0.out u hu));refine ic 4 25 (PT w.heap.size 0) rfl hF ?_
 go_frame
 refine ic 5 26 (.agg E) rfl hF ?_ (hy:=fun u hu=>iw rfl (HLh.out u hu));refine ic 7 28 (VI kind) rfl hF ?_;refine ic 8 29 (VU va) rfl hF ?_
 go_frame
 refine jD 6 27 rfl (f:=101) (args:=#[.agg E]) ?_;refine Calls.mono (HCt.out v5.drew) ?_;rintro e u6 ⟨rfl,m6⟩;replace m6:=bst nD m6;refine ⟨_,rfl,fun _=>ae K3.out m6 b5,?_⟩
 go_frame
 refine jD 9 30 rfl (f:=100) (args:=#[.slice p.am M p.cm,kg r.h.mode r.h.sum r.h.mxr r.h.satp,VI kind,VU va]) ?_;refine (HPl.out u6 (bst n5 m6)).mono ?_;rintro e v6 ⟨rfl,n6⟩;replace n6:=bst m6 n6;refine ⟨_,rfl,fun _=>ae K3.out n6 b5,?_⟩
 go_frame
 have L6:Hid _:=ae K6.out n6 (by omega);have L7:Hid _:=ae K7.out n6 (by omega);have n7:=bst n5 n6;have O7:Hid _:=OwnC.keep O5.out n6 hg3;have HS6:Hid _:=iC (P:=Tryz.prog) (T:=58) (V:=D) L6.out (by rw [hsz2];exact jC) (by rw [hsz2,iz]) hone;have M6:Hid _:=fG (V:=D) L6.out (by rw [hsz2,iz]);have M7:Hid _:=me L7.out 0 D.toList (show w.heap.size+2≠w.heap.size+1 by omega);have n8:=dU (show w.heap.size<=w.heap.size+1 by omega) D.toList 0 v6 n7;have O8:Hid _:=OwnC.gb O7.out (iq (w.heap.size+1) D.toList 0 v6 v6 (aM v6 _)) (show g4≠w.heap.size+1 by omega);have HS7:Hid _:=iC (P:=Tryz.prog) (T:=160) (V:=tv) M7.out (by rw [tvs];exact uX) tvs HTo.out;have N7:Hid _:=fG (V:=tv) M7.out tvs;have N6:Hid _:=me M6.out 0 tv.toList (show w.heap.size+1≠w.heap.size+2 by omega);have n9:=dU (show w.heap.size<=w.heap.size+2 by omega) tv.toList 0 _ n8;have O9:Hid _:=OwnC.gb O8.out (iq (w.heap.size+2) tv.toList 0 _ _ (aM _ _)) (show g4≠w.heap.size+2 by omega);refine fe 10 6 21 rfl HS6.out ?_;refine fe 11 7 30 rfl HS7.out ?_;refine dQ ?_;go_wp2_with fail;refine zA (b:=w.heap.size+1) (c:=w.heap.size+2) Tryz.results78 rfl rfl (iH (P:=Tryz.prog) N6.out Tryz.underlying58 rfl (by rw [hsz2];exact jC)) (iH (P:=Tryz.prog) N7.out Tryz.underlying160 rfl (by rw [tvs];exact uX)) rfl ?_;refine ⟨⟨p,some (AD g4 0),cap4,by rw [HE.out,HTw.out];rfl,?_,fun q hq=>.inl hq,fun q hq=>by cases hq;exact .inr (show w.heap.size<=g4 by omega)⟩,n9⟩;refine ⟨HI.out.h.keep n9,?_,?_,⟨fun h=>(by cases h),fun q hq=>by cases hq;rfl⟩,?_,fun q hq=>by cases hq;exact (OwnC.facts O9.out).2.2.1⟩
 ·show RowC _ _ (r.looks++[(kind,va)]).length 2 _;rw [List.length_append,HN.out];exact OwnC.row O9.out
 ·show (r.looks++[(kind,va)]).length<=_∧_;rw [List.length_append,HN.out];exact HC4.out
 ·show (r.looks++[(kind,va)]).length<=_;rw [List.length_append,HN.out];show N+1<=8;omega
theorem sQ (y:Int):((gY y).sets=1∨(gY y).sets=2∨(gY y).sets=4∨(gY y).sets=8)∧(1<=(gY y).ways∧(gY y).ways<=4)∧((gY y).es.length:Int)=(gY y).sets*(gY y).ways∧(gY y).es.length<=32:=by
 have hm:y%4=0∨y%4=1∨y%4=2∨y%4=3:=by omega
 have hw:y/4%4=0∨y/4%4=1∨y/4%4=2∨y/4%4=3:=by omega
 unfold gY;rcases hm with h | h | h | h <;> rcases hw with k | k | k | k <;> rw [h,k] <;> simp only [List.length_replicate] <;> decide
theorem nH (y:Int):aE (gY y):=by
 obtain ⟨h1,h2,h3,h4⟩:=sQ y;refine ⟨?_,by omega,by omega,by omega⟩;intro e he;unfold gY at he;have:=(List.mem_replicate.1 he).2;subst this;simp [bO,dZ]
theorem xO (y:Int) (p:Bool):ah (gY y) p=true:=by
 obtain ⟨h1,h2,h3,h4⟩:=sQ y;unfold ah;rw [Bool.and_eq_true];refine ⟨by simp only [mM,decide_eq_true_eq];exact ⟨h1,h2.1,h2.2,h3⟩,bP _ p _ 0 (fun j x hx=>?_)⟩;have hm:=List.mem_of_getElem? hx;unfold gY at hm;have:=(List.mem_replicate.1 hm).2;subst this;simp [aQ,dZ]
theorem zD (b:List Int) (hb:∀i:Nat,0<=b[i]?.getD 0∧b[i]?.getD 0<=255):∀(m i a:Nat) (mem:List Int),(∀z∈mem,0<=z∧z<=255)->(pw b m i a mem).length=mem.length∧∀z∈pw b m i a mem,0<=z∧z<=255
 | 0,i,a,mem,h=>⟨rfl,h⟩
 | m+1,i,a,mem,h=>by
  rw [pw];split
  ·have:=zD b hb m (i+1) (a+1) (mem.set a (atM b i)) (fun z hz=>by
    rcases List.mem_or_eq_of_mem_set hz with hz | rfl
    ·exact h z hz
    ·exact hb i)
   rw [List.length_set] at this;exact this
  ·exact zD b hb m (i+1) (a+1) mem h
theorem Au (b:List Int) (hb:∀i:Nat,0<=b[i]?.getD 0∧b[i]?.getD 0<=255):∀(n i:Nat) (mem:List Int),(∀z∈mem,0<=z∧z<=255)->(my b n i mem).1.length=mem.length∧∀z∈(my b n i mem).1,0<=z∧z<=255
 | 0,i,mem,h=>⟨rfl,h⟩
 | n+1,i,mem,h=>by
  have h1:=zD b hb (atM b (i+2)).toNat (i+3) (tf b i) mem h;have h2:=Au b hb n (i+3+(atM b (i+2)).toNat) _ h1.2;rw [my];exact ⟨h2.1.trans h1.1,h2.2⟩
theorem qg {zs:List Int} (h:∀i:Nat,0<=zs[i]?.getD 0∧zs[i]?.getD 0<=255) (i:Nat):inU (jb zs i):=by
 unfold jb;have:=dV ((List.range 8).map fun k=>atM zs (i+k)) 8 (fun z hz=>by
  simp only [List.mem_map] at hz;obtain ⟨j,_,rfl⟩:=hz;exact h _) (by simp)
 unfold inU;omega
theorem wN {zs:List Int} (h:∀i:Nat,0<=zs[i]?.getD 0∧zs[i]?.getD 0<=255):HOk (iY zs):=by
 have h3:=h 3;have hm:=Au zs h (atM zs 87).toNat 88 (List.replicate (64*(1+(atM zs 3%64).toNat)) 0) (fun z hz=>by rw [(List.mem_replicate.1 hz).2];omega);rw [List.length_replicate] at hm;have hmode:0<=iS (atM zs 4)∧iS (atM zs 4)<=2:=by
  unfold iS;split <;> omega
 have hsat:dt (if dt (jb zs 23)=true then jb zs 23 else 0)=true:=by
  split
  ·assumption
  ·rfl
 refine ⟨(jY _).2 ⟨?_,?_,?_,hmode,hmode,hsat,?_,?_,?_⟩,?_,?_,qg h 7,?_,?_,?_,?_,⟨nH _,nH _,nH _⟩⟩
 ·show eA (tp zs).1.length=true;unfold tp;rw [hm.1];simp only [eA,decide_eq_true_eq];have:(atM zs 3%64).toNat<=63:=by omega
  omega
 ·simp [iY,mU]
 ·rfl
 ·show (jb zs 15/4*4)%4=0;omega
 ·show 0<=(0:Int)∧(0:Int)<=63;omega
 ·show iP ⟨gY (atM zs 0),gY (atM zs 1),gY (atM zs 2)⟩=true;simp only [iP,xO,Bool.and_self]
 ·show aO (tp zs).1;intro i;unfold tp;cases hx:(my zs (atM zs 87).toNat 88 (List.replicate (64*(1+(atM zs 3%64).toNat)) 0)).1[i]? with
  | none=>exact ⟨by simp,by simp⟩
  | some x=>
   have:=hm.2 x (List.mem_of_getElem? hx);simpa using this
 ·show tT (mU zs);intro i;cases hx:(mU zs)[i]? with
  | none=>exact ⟨by simp,by simp⟩
  | some x=>
   have hmem:=List.mem_of_getElem? hx;simp only [mU,List.mem_cons,List.mem_map] at hmem;have:inU x:=by
    rcases hmem with rfl | ⟨j,_,rfl⟩
    ·simp [inU]
    ·exact qg h _
   simpa [inU] using this
 ·show inU (if dt (jb zs 23)=true then jb zs 23 else 0);split
  ·exact qg h 23
  ·simp [inU]
 ·show inU (jb zs 15/4*4);have:=qg h 15;unfold inU at this |-;omega
 ·show inU 0;simp [inU]
 ·show inU 0;simp [inU]
end Go.Proofs.YtjdmhibnhpdjaaaGreat
