import Derived.Test.YtjdmhibnhpdjaaaGreatPk11
namespace Go.Proofs.YtjdmhibnhpdjaaaGreat
open Go.RowKit
set_option linter.unusedVariables false
set_option maxHeartbeats 6400000
set_option maxRecDepth 20000
theorem BW (q:PtrM) (r:(Int × Int) × KM):(oY q r).all (·.oneCell')=true:=by simp [oY,Value.oneCell']
theorem uN (p q:PtrM) (al:Option Addr) (cl:Nat) (plain:Bool) (pick:Int) (r:RunM) (k:KM):mn (gU p al cl plain pick r) 12 (kA q k).toList=gU (pK p q.a1 q.c1 q.a2 q.c2 q.a3 q.c3) al cl plain pick (aR r (withK r.h k)):=by
 simp [mn,gU,kA,pK,withK,aR]
theorem BY:(Tryz.prog.info? 208).map (·.size)=some 11:=by kernel_rfl
theorem rn (p:PtrM) (al:Option Addr) (cl:Nat) (pick:Int) (r:RunM) (kind va:Int) (w:World) (hr:RunIn w p al cl r) (hk:ROk r) (hpk:0<=pick∧pick<=255) (hkd:0<=kind∧kind<=2) (hv:inU va) (hll:r.looks.length<=7):
 Calls Tryz.prog 78 #[.agg (gU p al cl false pick r),VI kind,VU va] w fun e w'=>(∃p' al' cl',e=.returned (.tuple #[.agg (gU p' al' cl' false pick (bC false pick r kind va)),kW (aw false pick r.h kind va).1])∧RunIn w' p' al' cl' (bC false pick r kind va)∧From w.heap.size p p'∧FromL w.heap.size al al')∧Bw w w':=by
 have hmem:=lS hk.h.v.size;have HI:Hid (RunIn w p al cl r):=hr;have HOK:Hid (ROk r):=hk;have HLk:Hid (RowC w al r.looks.length 2 (kE r.looks)):=hr.looks;have HLa:Hid ((al=none->r.looks.length=0∧cl=0)∧∀q,al=some q->q.spot=none):=hr.looka;have HP:Hid (∀g cap,(gU p al cl false pick r).setIfInBounds 25 (SL g (r.looks.length+1) cap)=gU p (some (AD g 0)) cap false pick ⟨r.h,r.cause,r.tval,r.looks++[(kind,va)],r.fenced,r.fence⟩):=fun g cap=>by
  unfold gU;simp
 have hsz:=iK p al cl false pick r;have g25:(gU p al cl false pick r)[25]?=some (.slice al r.looks.length cl):=rfl;have HO:Hid ((gU p al cl false pick r).all (·.oneCell')=true):=jI p al cl false pick r;generalize gU p al cl false pick r=C at *;obtain ⟨N,hN⟩:∃N,r.looks.length=N:=⟨_,rfl⟩;rw [hN] at HLk HLa HP g25 hll;have HN:Hid (r.looks.length=N):=hN;clear hr hN hk;go_enter Tryz.func78,Tryz.ntmps78;go_upto_region 1 with fail;obtain ⟨v1,Ev1,F⟩:=ax3 w C gc #[VI 0,VU 0] 58 58 160;rw [Ev1.out];clear Ev1;obtain ⟨h3,h6,h7,l1,n1⟩:=F;have H3:Hid _:=h3;have H6:Hid _:=h6;have H7:Hid _:=h7;have b1:w.heap.size<v1.heap.size:=by omega
 have b2:w.heap.size+1<v1.heap.size:=by omega
 have b3:w.heap.size+2<v1.heap.size:=by omega
 have c25:=gX h3 25 g25;have OE:=OwnC.new 202 2 v1 [] 0 rfl (by decide);have nE:=(Below.refl v1.heap.size v1).alloc nle (Obj.cells #[] 202);clear h3 h6 h7 l1;go_upto_region 2 with (at_builtin;first
  | (refine mJ _ rfl (.tmp 9) (.tmp 11) 54 rfl 202 Tryz.underlying54 (.agg #[VI 0,VU 0]) 2 16 Tryz.infoLk rfl (by decide) v1.heap.size v1.heap.size 0 0 [] rfl OE al N cl (kE r.looks) rfl HLa.out.1 HLa.out.2 (RowC.keep (RowC.keep HLk.out n1) nE) (oX _) (by omega) (by omega) v1.heap.size v1 nE nle ?_;intro g2 cap2 v2 o2 n2;have n3:=(Below.refl v2.heap.size v2).alloc nle (Obj.cells #[VI kind,VU va] 202);have n23:=bst n2 n3;simp only [Nat.zero_add,List.nil_append] at o2 |-;have o3:=OwnC.keep o2 n3 o2.facts.2.2.1;have q3:=(OwnC.new 202 2 v2 (kE [(kind,va)]) 1 rfl (by decide)).row;have z2:=n2.size;clear OE nE)
  | (refine mJ _ rfl (.tmp 12) (.tmp 16) 54 rfl 202 Tryz.underlying54 (.agg #[VI 0,VU 0]) 2 16 Tryz.infoLk rfl (by decide) v1.heap.size g2 N cap2 (kE r.looks) rfl o3 (some (AD v2.heap.size 0)) 1 1 (kE [(kind,va)]) rfl (fun h=>(by cases h)) (fun q hq=>by cases hq;rfl) q3 (oX _) (by omega) (by omega) v1.heap.size v1 n23 nle ?_;intro g4 cap4 v4 o4 n4;have k3:=ae H3.out n4 b1;have c25:=gX k3 25 g25;have f25:=ie k3 25;have b4:=ltl b1 n4.size;clear o2 o3 q3 n2 n3 n23 z2))
 have f4:=o4.facts;have hg1:v1.heap.size<=g4:=f4.2.1;have hg2:g4<v4.heap.size:=f4.2.2.1;have HC4:Hid (N+1<=cap4∧cap4<=9223372036854775807):=⟨f4.2.2.2.1,by have:=f4.2.2.2.2;unfold maxLen at this;exact this⟩;have ng':g4≠w.heap.size:=by omega
 have K3:Hid _:=iI k3 25 (SL g4 (N+1) cap4);have K6:Hid _:=dz (ae H6.out n4 b2) 25 (SL g4 (N+1) cap4) (show w.heap.size+1≠w.heap.size by omega);have K7:Hid _:=dz (ae H7.out n4 b3) 25 (SL g4 (N+1) cap4) (show w.heap.size+2≠w.heap.size by omega);have n5:=eD (bst n1 n4) nle 25 (SL g4 (N+1) cap4);have O5:Hid (OwnC 202 2 (v4.setCell (AD w.heap.size 25) (SL g4 (N+1) cap4)) v1.heap.size g4 (N+1) cap4 (kE (r.looks++[(kind,va)]))):=by
  rw [uY];exact OwnC.gb o4 (hZ (aM v4 (some w.heap.size)) 25 (SL g4 (N+1) cap4)) ng'
 have z5:v1.heap.size<=(v4.setCell (AD w.heap.size 25) (SL g4 (N+1) cap4)).heap.size:=by simp;exact n4.size
 have hg3:g4<(v4.setCell (AD w.heap.size 25) (SL g4 (N+1) cap4)).heap.size:=by simp;exact hg2
 generalize v4.setCell (AD w.heap.size 25) (SL g4 (N+1) cap4)=v5 at K3 K6 K7 n5 O5 z5 hg3 |-;have HE:Hid _:=HP.out g4 cap4;have hsz2:(C.setIfInBounds 25 (SL g4 (N+1) cap4)).size=31:=by simp only [Array.size_setIfInBounds,hsz]
 have hone:=qE HO.out 25 (v:=SL g4 (N+1) cap4) rfl;generalize C.setIfInBounds 25 (SL g4 (N+1) cap4)=D at K3 HE hsz2 hone;clear o4 f4 k3 c25 f25 n4 H3 H6 H7 hg2 n1 HLk HLa;have HD:=HE.out;have g21:D[21]?=some (.bool false):=by rw [HD];rfl
 have g22:D[22]?=some (VI pick):=by rw [HD];rfl
 have g0:D[0]?=some (.slice p.am r.h.mem.length p.cm):=by rw [HD];rfl
 have HDh:Hid ((D.toList.drop 0).take 21=(bJ p r.h).toList):=by show _=_;rw [HD];rfl
 have HDk:Hid ((D.toList.drop 12).take 9=(kA p r.h.k).toList):=by show _=_;rw [HD];rfl
 clear HD;have c21:=gX K3.out 21 g21;have b5:w.heap.size<v5.heap.size:=by omega
 go_upto_region 4 with fail;clear c21;obtain ⟨M,hM⟩:∃M,r.h.mem.length=M:=⟨_,rfl⟩;rw [hM] at g0;obtain ⟨X,hX⟩:∃X,aw false pick r.h kind va=X:=⟨_,rfl⟩;have HX:Hid (aw false pick r.h kind va=X):=hX;have HPl:Hid (∀u,Bw w u->Calls Tryz.prog 102 #[.slice p.am M p.cm,kg r.h.mode r.h.sum r.h.mxr r.h.satp,.agg (kA p r.h.k),VI kind,VU va,VI pick] u fun e w'=>(∃x,e=.returned x∧TransOwn u.heap.size w' x X)∧Bw u w'):=fun u hu=>by
  have hB:=HI.out.h.mem.keep hu;rw [hM] at hB;have:=vx p.am M p.cm r.h.mem r.h.mode r.h.sum r.h.mxr r.h.satp (.agg (kA p r.h.k)) r.h.k kind va pick u (HI.out.h.ks.keep hu) hB (by omega) (by have:=HI.out.h.memc.1;omega) HI.out.h.memc.2 hv.1 hv.2 HOK.out.h.satp.1 HOK.out.h.satp.2;rw [<-hX];exact this
 have HKok:Hid (kOk X.2):=by
  have:=(bu HOK.out.h false hpk hkd hv).1.ks;rw [hX] at this;exact this
 have HCt:Hid (∀u,Calls Tryz.prog 101 #[.agg (bJ p r.h)] u fun e w'=>e=.returned (kg r.h.mode r.h.sum r.h.mxr r.h.satp)∧Bw u w'):=fun u=>wC p r.h u;have HLh:Hid (∀u:World,u.heap[w.heap.size]?=some (.cells D 58 (0,0))->(Instr.loadAt 37 (PT w.heap.size 0)).run Tryz.prog u=.ok (.agg (bJ p r.h)) u):=fun u hu=>jB (P:=Tryz.prog) (T:=37) hu Tryz.underlying37 rfl (o:=0) (bJ p r.h).toList kq HDh.out rfl;have HLc:Hid (∀u:World,u.heap[w.heap.size]?=some (.cells D 58 (0,0))->(Instr.loadAt 35 (PT w.heap.size 12)).run Tryz.prog u=.ok (.agg (kA p r.h.k)) u):=fun u hu=>jB (P:=Tryz.prog) (T:=35) hu Tryz.underlying35 rfl (o:=12) (kA p r.h.k).toList kI HDk.out rfl;have hMl:M<=4096:=by omega
 clear hM hmem hX;generalize bJ p r.h=E at *;generalize kA p r.h.k=G at *;have HL0:Hid (∀u:World,u.heap[w.heap.size]?=some (.cells D 58 (0,0))->(Instr.loadAt 22 (PT w.heap.size 0)).run Tryz.prog u=.ok (.slice p.am M p.cm) u):=fun u hu=>by
  have h1:=gX hu 0 g0;go_simp
 have HL22:Hid (∀u:World,u.heap[w.heap.size]?=some (.cells D 58 (0,0))->(Instr.loadAt 2 (PT w.heap.size 22)).run Tryz.prog u=.ok (VI pick) u):=fun u hu=>by
  have h1:=gX hu 22 g22;go_simp
 have nD:=bdr v5;have hF:v5.drew.heap[w.heap.size]?=some (.cells D 58 (0,0)):=K3.out;refine ip (fun u=>u.heap[w.heap.size]?=some (.cells D 58 (0,0))) 15 ?_;refine ic 0 31 (PT w.heap.size 0) rfl hF ?_;refine ic 1 32 (PT w.heap.size 0) rfl hF ?_
 go_frame
 refine ic 2 33 (.slice p.am M p.cm) rfl hF ?_ (hy:=fun u hu=>iw rfl (HL0.out u hu));refine ic 3 34 (PT w.heap.size 0) rfl hF ?_
 go_frame
 refine ic 4 35 (.agg E) rfl hF ?_ (hy:=fun u hu=>iw rfl (HLh.out u hu));refine ic 6 37 (PT w.heap.size 0) rfl hF ?_;refine ic 7 38 (PT w.heap.size 12) rfl hF ?_
 go_frame
 refine ic 8 39 (.agg G) rfl hF ?_ (hy:=fun u hu=>iw rfl (HLc.out u hu));refine ic 9 40 (VI kind) rfl hF ?_;refine ic 10 41 (VU va) rfl hF ?_;refine ic 11 42 (PT w.heap.size 22) rfl hF ?_
 go_frame
 refine ic 12 43 (VI pick) rfl hF ?_ (hy:=fun u hu=>iw rfl (HL22.out u hu))
 go_frame
 refine CZ 5 13 14 36 44 8 (kg r.h.mode r.h.sum r.h.mxr r.h.satp) (Z:=#[VI 0,VU 0,VI 0,VI 0,SN,VI 0,VI 0,SN,VI 0,VI 0,SN]) (T:=208) (f:=101) (g:=102) (args:=#[.agg E]) (brgs:=#[.slice p.am M p.cm,kg r.h.mode r.h.sum r.h.mxr r.h.satp,.agg G,VI kind,VU va,VI pick]) (fun u y v=>TransOwn u.heap.size v y X)
  rfl rfl rfl ⟨by kernel_rfl,by kernel_rfl,by kernel_rfl,by decide,by decide⟩ ⟨by kernel_rfl,by kernel_rfl,by kernel_rfl⟩ (by kernel_rfl) (by kernel_rfl) (by kernel_rfl) (by kernel_rfl) (by kernel_rfl) (by kernel_rfl) rfl (by kernel_rfl) (by kernel_rfl) (fun u=>by kernel_rfl) (fun p u=>by kernel_rfl) (fun u=>by kernel_rfl) (fun p u=>by kernel_rfl) (fun b u=>by kernel_rfl)
  (fun u hu=>ae K3.out (bst nD hu) b5) (fun u hu=>HCt.out u) (fun u hu=>(HPl.out u (bst n5 (bst nD hu))).mono fun e w' h=>⟨h.1,h.2⟩) ?_
 intro y pb u v v6 hu hy hb hpu hpb hpz hn;have n6:=bst nD hn;have lu:=hu.size;have e13:TransOwn v5.heap.size v6 y X:=by
  obtain ⟨s1,s2,s3,h0,h1,h2,h3⟩:=hy;exact ⟨s1,s2,s3,h0,ab (ir h1 lu) hb,ab (ir h2 lu) hb,ab (ir h3 lu) hb⟩
 obtain ⟨a1,c1,a2,c2,a3,c3,hp1,hKR⟩:=e13.open p;subst hp1
 go_frame
 replace hpb:v5.heap.size<=pb:=hpb;clear e13 hy hu hb hpu hn lu hF;have q1:(oY (pK p a1 c1 a2 c2 a3 c3) X).size=11:=rfl;have q2:(kA (pK p a1 c1 a2 c2 a3 c3) X.2).size=9:=rfl;have HTo:Hid ((oY (pK p a1 c1 a2 c2 a3 c3) X).all (·.oneCell')=true):=BW _ _;have t0:(oY (pK p a1 c1 a2 c2 a3 c3) X)[0]?=some (VI X.1.1):=rfl;have t1:(oY (pK p a1 c1 a2 c2 a3 c3) X)[1]?=some (VU X.1.2):=rfl;have HTk:Hid (((oY (pK p a1 c1 a2 c2 a3 c3) X).toList.drop 2).take 9=(kA (pK p a1 c1 a2 c2 a3 c3) X.2).toList):=rfl;have HKo:Hid ((kA (pK p a1 c1 a2 c2 a3 c3) X.2).all (·.oneCell')=true):=xX _ _;have HEk:Hid (mn D 12 (kA (pK p a1 c1 a2 c2 a3 c3) X.2).toList=gU (pK p a1 c1 a2 c2 a3 c3) (some (AD g4 0)) cap4 false pick (bC false pick r kind va)):=by
  show _=_;rw [HE.out,uN];unfold bC;rw [HX.out];rfl
 have HRs:Hid ((gU (pK p a1 c1 a2 c2 a3 c3) (some (AD g4 0)) cap4 false pick (bC false pick r kind va)).size=31∧(gU (pK p a1 c1 a2 c2 a3 c3) (some (AD g4 0)) cap4 false pick (bC false pick r kind va)).all (·.oneCell')=true):=⟨rfl,jI _ _ _ _ _ _⟩;have HKR:Hid (KRows v5.heap.size v6 (pK p a1 c1 a2 c2 a3 c3) X.2):=hKR;have HKl:Hid ((kA (pK p a1 c1 a2 c2 a3 c3) X.2).toList.toArray=kA (pK p a1 c1 a2 c2 a3 c3) X.2):=rfl;clear hKR;generalize hTA:oY (pK p a1 c1 a2 c2 a3 c3) X=TA at *;generalize kA (pK p a1 c1 a2 c2 a3 c3) X.2=KA at *;generalize hRA:gU (pK p a1 c1 a2 c2 a3 c3) (some (AD g4 0)) cap4 false pick (bC false pick r kind va)=RA at HEk HRs;have HRA:Hid _:=hRA;clear hTA hRA;have nb1:w.heap.size≠pb:=by omega
 have nb2:w.heap.size+1≠pb:=by omega
 have nb3:w.heap.size+2≠pb:=by omega
 have L3:Hid _:=ae K3.out n6 b5;have L6:Hid _:=ae K6.out n6 (by omega);have L7:Hid _:=ae K7.out n6 (by omega);have n7:=bst n5 n6;have O7:Hid _:=OwnC.keep O5.out n6 hg3;have gT:=iq pb TA.toList 0 v6 v6 (aM v6 _);have HSt:Hid _:=iC (P:=Tryz.prog) (T:=208) (V:=TA) hpz (by rw [q1];exact BY) (by rw [q1];rfl) HTo.out;have Mp:Hid _:=fG (V:=TA) hpz (by rw [q1];rfl);have M3:Hid _:=kX L3.out gT nb1;have M6:Hid _:=kX L6.out gT nb2;have M7:Hid _:=kX L7.out gT nb3;have n8:=dU (show w.heap.size<=pb by omega) TA.toList 0 v6 n7;have O8:Hid _:=OwnC.gb O7.out gT (show g4≠pb by omega);have KR8:Hid (KRows v5.heap.size (v6.setCells pb 0 TA.toList) (pK p a1 c1 a2 c2 a3 c3) X.2):=KRows.set HKR.out hpz (by decide) gT;have hpl2:pb<(v6.setCells pb 0 TA.toList).heap.size:=(hpl Mp.out);refine fe 15 8 44 rfl HSt.out ?_;refine dQ ?_;go_upto_region 5 with fail;generalize v6.setCells pb 0 TA.toList=v7 at Mp M3 M6 M7 n8 O8 KR8 hpl2 |-;have HLt:Hid _:=jB (P:=Tryz.prog) (T:=35) Mp.out Tryz.underlying35 rfl (o:=2) KA.toList kI HTk.out (by rw [Array.length_toList];exact q2);rw [HKl.out] at HLt;have gK:=iq w.heap.size KA.toList 12 v7 v7 (aM v7 _);have HSk:Hid _:=kn (P:=Tryz.prog) (T:=35) M3.out (o:=12) (V:=KA) (by rw [q2];exact kI) (by rw [q2,hsz2];omega) HKo.out;have P3:Hid _:=bD w.heap.size KA.toList 12 v7 D _ _ M3.out (by rw [hsz2,Array.length_toList,q2];omega);rw [HEk.out] at P3;have Pp:Hid _:=kX Mp.out gK (Ne.symm nb1);have P6:Hid _:=kX M6.out gK (show w.heap.size+1≠w.heap.size by omega);have P7:Hid _:=kX M7.out gK (show w.heap.size+2≠w.heap.size by omega);have n9:=dU (Nat.le_refl w.heap.size) KA.toList 12 v7 n8;have O9:Hid _:=OwnC.gb O8.out gK ng';have KR9:Hid (KRows v5.heap.size (v7.setCells w.heap.size 12 KA.toList) (pK p a1 c1 a2 c2 a3 c3) X.2):=KRows.gb KR8.out gK b5;go_upto_region 6 with (first
  | ((with_reducible refine iE ?_ HLt.out ?_);(exact rfl))
  | ((with_reducible refine it ?_ ?_ HSk.out ?_);(exact rfl);(exact rfl)))
 generalize v7.setCells w.heap.size 12 KA.toList=v8 at P3 Pp P6 P7 n9 O9 KR9 |-;have b8:w.heap.size<v8.heap.size:=(hpl P3.out);have b8p:pb<v8.heap.size:=(hpl Pp.out);have b86:w.heap.size+1<v8.heap.size:=(hpl P6.out);have b87:w.heap.size+2<v8.heap.size:=(hpl P7.out);have hRs:=HRs.out.1;have HLr:Hid (∀u:World,u.heap[w.heap.size]?=some (.cells RA 58 (0,0))->(Instr.loadAt 58 (PT w.heap.size 0)).run Tryz.prog u=.ok (.agg RA) u):=fun u hu=>iA (P:=Tryz.prog) (T:=58) hu Tryz.underlying58 rfl (by rw [hRs];exact jC);have HL0:Hid (∀u:World,u.heap[pb]?=some (.cells TA 208 (0,0))->(Instr.loadAt 2 (PT pb 0)).run Tryz.prog u=.ok (VI X.1.1) u):=fun u hu=>by
  have:=gX hu 0 t0;go_simp
 have HL1:Hid (∀u:World,u.heap[pb]?=some (.cells TA 208 (0,0))->(Instr.loadAt 27 (PT pb 1)).run Tryz.prog u=.ok (VU X.1.2) u):=fun u hu=>by
  have:=gX hu 1 t1;go_simp
 refine wp_region_held_drew (S:=fun w'=>w'.heap[w.heap.size]?=some (.cells RA 58 (0,0))∧w'.heap[pb]?=some (.cells TA 208 (0,0))) (by kernel_rfl) ⟨P3.out,Pp.out⟩ (fun hHeld=>?_);refine wpAnyH_take (i:=0) rfl (by kernel_rfl) (by kernel_rfl) (by kernel_rfl) (fun _ _ _ h=>h) (.inl ⟨by rfl,fun u hu=>iw rfl (HLr.out u hu.1)⟩) hHeld ?_;simp only [Act.put,List.setIfInBounds_toArray];refine wpAnyH_take (i:=1) (v:=PT pb 0) rfl (by kernel_rfl) (by kernel_rfl) (by kernel_rfl) (fun _ _ _ h=>h) (.inl ⟨by rfl,fun u hu=>by kernel_rfl⟩) hHeld ?_;simp only [Act.put];refine wpAnyH_take (i:=2) rfl (by kernel_rfl) (by kernel_rfl) (by kernel_rfl) (fun _ _ _ h=>h) (.inl ⟨by rfl,fun u hu=>iw rfl (HL0.out u hu.2)⟩) hHeld ?_;simp only [Act.put];refine wpAnyH_take (i:=3) (v:=PT pb 1) rfl (by kernel_rfl) (by kernel_rfl) (by kernel_rfl) (fun _ _ _ h=>h) (.inl ⟨by rfl,fun u hu=>by kernel_rfl⟩) hHeld ?_;simp only [Act.put];refine wpAnyH_take (i:=4) rfl (by kernel_rfl) (by kernel_rfl) (by kernel_rfl) (fun _ _ _ h=>h) (.inl ⟨by rfl,fun u hu=>iw rfl (HL1.out u hu.2)⟩) hHeld ?_;simp only [Act.put];refine wpAnyH_take (i:=5) (v:=.agg #[VI X.1.1,VU X.1.2]) rfl (by kernel_rfl) (by kernel_rfl) (by kernel_rfl) (fun _ _ _ h=>h) (.inl ⟨by rfl,fun u hu=>by kernel_rfl⟩) hHeld ?_;simp only [Act.put];have Q3:v8.drew.heap[w.heap.size]?=some (.cells RA 58 (0,0)):=P3.out;have Qp:v8.drew.heap[pb]?=some (.cells TA 208 (0,0)):=Pp.out;have Q6:v8.drew.heap[w.heap.size+1]?=some (.cells gc 58 (0,0)):=P6.out;have Q7:v8.drew.heap[w.heap.size+2]?=some (.cells #[VI 0,VU 0] 160 (0,0)):=P7.out;have nA:Bw w v8.drew:=n9.drew;have OA:Hid (OwnC 202 2 v8.drew v1.heap.size g4 (N+1) cap4 (kE (r.looks++[(kind,va)]))):=O9.out;have KRA:Hid (KRows v5.heap.size v8.drew (pK p a1 c1 a2 c2 a3 c3) X.2):=KR9.out;generalize v8.drew=v9 at Q3 Qp Q6 Q7 nA OA KRA |-;have tvs:(#[VI X.1.1,VU X.1.2]).size=2:=rfl;have g6:=iq (w.heap.size+1) RA.toList 0 v9 v9 (aM v9 _);have M6:Hid _:=fG (V:=RA) Q6 (by rw [hRs,iz]);have M7:Hid _:=kX Q7 g6 (show w.heap.size+2≠w.heap.size+1 by omega);have M3:Hid _:=kX Q3 g6 (show w.heap.size≠w.heap.size+1 by omega);have Mp:Hid _:=kX Qp g6 (show pb≠w.heap.size+1 by omega);have nB:=dU (show w.heap.size<=w.heap.size+1 by omega) RA.toList 0 v9 nA;have OB:Hid _:=OwnC.gb OA.out g6 (show g4≠w.heap.size+1 by omega);have KRB:Hid (KRows v5.heap.size (v9.setCells (w.heap.size+1) 0 RA.toList) (pK p a1 c1 a2 c2 a3 c3) X.2):=KRows.gb KRA.out g6 (by omega);refine uR 6 rfl (by kernel_rfl) (b:=w.heap.size+1) (o:=0) rfl rfl (iC (P:=Tryz.prog) (T:=58) (V:=RA) Q6 (by rw [hRs];exact jC) (by rw [hRs,iz]) HRs.out.2) ⟨M3.out,Mp.out⟩ ?_;have g7:=iq (w.heap.size+2) (#[VI X.1.1,VU X.1.2]).toList 0 _ _ (aM (v9.setCells (w.heap.size+1) 0 RA.toList) _);have N7:Hid _:=fG (V:=#[VI X.1.1,VU X.1.2]) M7.out tvs;have N6:Hid _:=kX M6.out g7 (show w.heap.size+1≠w.heap.size+2 by omega);have nC:=dU (show w.heap.size<=w.heap.size+2 by omega) (#[VI X.1.1,VU X.1.2]).toList 0 _ nB;have OC:Hid _:=OwnC.gb OB.out g7 (show g4≠w.heap.size+2 by omega);have KRC:=KRows.gb KRB.out g7 (show w.heap.size+2<v5.heap.size by omega);refine uR 7 rfl (by kernel_rfl) (b:=w.heap.size+2) (o:=0) rfl rfl (iC (P:=Tryz.prog) (T:=160) (V:=#[VI X.1.1,VU X.1.2]) M7.out (by rw [tvs];exact uX) tvs (by simp [Value.oneCell'])) ⟨kX M3.out g7 (by omega),kX Mp.out g7 (by omega)⟩ ?_;refine wpAnyH_done (by kernel_rfl) ?_ _;go_wp2_with fail;refine zA (b:=w.heap.size+1) (c:=w.heap.size+2) Tryz.results78 rfl rfl (iH (P:=Tryz.prog) N6.out Tryz.underlying58 rfl (by rw [hRs];exact jC)) (iH (P:=Tryz.prog) N7.out Tryz.underlying160 rfl (by rw [tvs];exact uX)) rfl ?_;have hkp:=KRows.ptrs KRC;refine ⟨⟨pK p a1 c1 a2 c2 a3 c3,some (AD g4 0),cap4,by rw [HRA.out,HX.out];rfl,?_,Ax fun q hq=>Nat.le_trans (show w.heap.size<=v5.heap.size by omega) (hkp q hq).1,fun q hq=>by cases hq;exact .inr (show w.heap.size<=g4 by omega)⟩,nC⟩;have hk:=HI.out.h.keep nC;refine ⟨⟨hk.mem,hk.memc,hk.regs,hk.regc,hk.rega,?_,EU hk.low fun q hq=>(hkp q hq).2⟩,?_,?_,⟨fun h=>(by cases h),fun q hq=>by cases hq;rfl⟩,?_,fun q hq=>by cases hq;exact (OwnC.facts OC.out).2.2.1⟩
 ·show KAt _ (.agg (kA (pK p a1 c1 a2 c2 a3 c3) (aw false pick r.h kind va).2)) (aw false pick r.h kind va).2;rw [HX.out];exact KRows.at KRC HKok.out
 ·show RowC _ _ (r.looks++[(kind,va)]).length 2 _;rw [List.length_append,HN.out];exact OwnC.row OC.out
 ·show (r.looks++[(kind,va)]).length<=_∧_;rw [List.length_append,HN.out];exact HC4.out
 ·show (r.looks++[(kind,va)]).length<=_;rw [List.length_append,HN.out];show N+1<=8;omega
theorem pe (plain:Bool) (p:PtrM) (al:Option Addr) (cl:Nat) (pick:Int) (r:RunM) (kind va:Int) (w:World) (hr:RunIn w p al cl r) (hk:ROk r) (hpk:0<=pick∧pick<=255) (hkd:0<=kind∧kind<=2) (hv:inU va) (hll:r.looks.length<=7):
 Calls Tryz.prog 78 #[.agg (gU p al cl plain pick r),VI kind,VU va] w fun e w'=>(∃p' al' cl',e=.returned (.tuple #[.agg (gU p' al' cl' plain pick (bC plain pick r kind va)),kW (aw plain pick r.h kind va).1])∧RunIn w' p' al' cl' (bC plain pick r kind va)∧From w.heap.size p p'∧FromL w.heap.size al al')∧Bw w w':=by
 cases plain
 ·exact rn p al cl pick r kind va w hr hk hpk hkd hv hll
 ·exact rZ p al cl pick r kind va w hr hk hpk hkd hv hll
def jL:List au->List Value
 | []=>[]
 | p::ps=>.int .u64 p.1::.int .i64 p.2.1::.int .u64 p.2.2::jL ps
theorem tK (ps:List au):(jL ps).length=ps.length*3:=by
 induction ps with
 | nil=>rfl
 | cons p ps ih=>simp [jL,ih];omega
theorem mF:∀(ps:List au) (i:Nat) (p:au),ps[i]?=some p->(jL ps)[i*3]?=some (VU p.1)∧(jL ps)[i*3+1]?=some (VI p.2.1)∧(jL ps)[i*3+2]?=some (VU p.2.2)
 | q::ps,0,p,h=>by
  simp at h;subst h;exact ⟨rfl,rfl,rfl⟩
 | q::ps,i+1,p,h=>by
  have:=mF ps i p (by simpa using h);rw [show (i+1)*3=i*3+3 by omega];simpa [jL] using this
theorem tL:∀(ps:List au) (i:Nat) (p:au) (x:Int),ps[i]?=some p->(jL ps).set (i*3+2) (VU x)=jL (ps.set i (p.1,p.2.1,x))
 | q::ps,0,p,x,h=>by
  simp at h;subst h;rfl
 | q::ps,i+1,p,x,h=>by
  have:=tL ps i p x (by simpa using h);rw [show (i+1)*3+2=i*3+2+1+1+1 by omega];simp only [jL,List.set_cons_succ,this]
theorem DT (va wd:Int):(jf va wd).length=1∨(jf va wd).length=2:=by
 unfold jf;split <;> simp
structure PartsAt (plain:Bool) (pick kind:Int) (r0:RunM) (cut:List au) (ri:RunM) (done rest:List au):Prop where
 eq:hU plain pick kind r0 cut=((hU plain pick kind ri rest).1,done++(hU plain pick kind ri rest).2)
 ok:ROk ri
 cause:ri.cause=0
 parts:aP (done++rest)
 looks:ri.looks.length+rest.length<=8
theorem PartsAt.step {plain:Bool} {pick kind:Int} {r0 ri:RunM} {cut done rest:List au} {q:au} (h:PartsAt plain pick kind r0 cut ri done (q::rest)) (hp:0<=pick∧pick<=255) (hk:0<=kind∧kind<=2) (h0:(aw plain pick ri.h kind q.1).1.1=0):
 PartsAt plain pick kind r0 cut (bC plain pick ri kind q.1) (done++[(q.1,q.2.1,(aw plain pick ri.h kind q.1).1.2)]) rest:=by
 have hq:=h.parts q (List.mem_append_right _ (List.mem_cons_self ..));refine ⟨?_,cz h.ok plain hp hk hq.1,h.cause,?_,?_⟩
 ·rw [h.eq,hU,if_pos h0];simp
 ·intro x hx;rw [List.append_assoc,List.mem_append] at hx;rcases hx with hx | hx
  ·exact h.parts x (List.mem_append_left _ hx)
  ·rcases List.mem_cons.1 hx with rfl | hx
   ·exact ⟨hq.1,hq.2.1,(bu h.ok.h plain hp hk hq.1).2.2⟩
   ·exact h.parts x (List.mem_append_right _ (List.mem_cons_of_mem _ hx))
 ·have:=h.looks;simp only [List.length_cons] at this;show (ri.looks++[(kind,q.1)]).length+rest.length<=8;rw [List.length_append,List.length_singleton];omega
theorem PartsAt.trap {plain:Bool} {pick kind:Int} {r0 ri:RunM} {cut done rest:List au} {q:au} (h:PartsAt plain pick kind r0 cut ri done (q::rest)) (h0:(aw plain pick ri.h kind q.1).1.1≠0):
 (hU plain pick kind r0 cut).1=bV (bC plain pick ri kind q.1) (aw plain pick ri.h kind q.1).1.1 q.1:=by
 rw [h.eq,hU,if_neg h0]
theorem PartsAt.done {plain:Bool} {pick kind:Int} {r0 ri:RunM} {cut done:List au} (h:PartsAt plain pick kind r0 cut ri done []):hU plain pick kind r0 cut=(ri,done):=by
 rw [h.eq,hU];simp
theorem pA (plain:Bool) (p:PtrM) (al:Option Addr) (cl:Nat) (pick:Int) (r:RunM) (kind va wd:Int) (w:World) (hr:RunIn w p al cl r) (hk:ROk r) (h0:r.cause=0) (hpk:0<=pick∧pick<=255) (hkd:0<=kind∧kind<=2) (hv:inU va) (hw:1<=wd∧wd<=8) (hll:r.looks.length<=6):
 Calls Tryz.prog 105 #[.agg (gU p al cl plain pick r),VI kind,VU va,VI wd] w fun e w'=>(∃p' al' cl' ga n c,e=.returned (.tuple #[.agg (gU p' al' cl' plain pick (iu plain pick r kind va wd).1),.slice ga n c])∧RunIn w' p' al' cl' (iu plain pick r kind va wd).1∧From w.heap.size p p'∧FromL w.heap.size al al'∧((iu plain pick r kind va wd).1.cause=0->n=(iu plain pick r kind va wd).2.length∧n<=2∧∃g,ga=some (AD g 0)∧RowC w' ga n 3 (jL (iu plain pick r kind va wd).2)))∧Bw w w':=by
 have HI:=hid hr;have HOK:=hid hk;have hp0:=iK p al cl plain pick r;have hw1:va%64<=63:=by omega
 have hw2:0<=va%64:=by omega
 obtain ⟨cut,hcut⟩:∃cut,jf va wd=cut:=⟨_,rfl⟩;have HC:=hid hcut;have HL:Hid (cut.length=1∨cut.length=2):=by rw [<-hcut];exact DT va wd
 have HPt:Hid (aP cut):=by rw [<-hcut];exact gu va wd hv hw
 have hv1:=hv.1;have hv2:=hv.2;clear hcut hr hk;generalize hC0:gU p al cl plain pick r=C at *;have HC0:Hid _:=hC0;clear hC0;go_enter Tryz.func105,Tryz.ntmps105;go_upto_region 1 with fail;have F:=mT w C gc 58 58;generalize (w.alloc (Obj.cells C 58)).alloc (Obj.cells gc 58)=v1 at F |-;obtain ⟨h3,h6,l1,n1⟩:=F;have H3:Hid _:=h3;have H6:Hid _:=h6;have b1:w.heap.size<v1.heap.size:=by omega
 have b2:w.heap.size+1<v1.heap.size:=by omega
 clear h3 h6 l1;by_cases hwl:64-va%64<wd;have hcv:cut=[(va,64-va%64,0),(IntKind.u64.wrap (va+(64-va%64)),wd-(64-va%64),0)]:=by
  rw [<-HC.out];unfold jf;rw [if_pos hwl];rfl
 have HN:Hid (cut.length=2):=by rw [hcv];rfl
 have hcc:(jL cut).toArray=#[VU va,VI (64-va%64),VU 0,VU (IntKind.u64.wrap (va+(64-va%64))),VI (wd-(64-va%64)),VU 0]:=by rw [hcv];rfl
 have HCC:Hid _:=hcc;clear hcv hcc;go_upto_region 5 with fail;have n2:=(Below.refl v1.heap.size v1).alloc nle (Obj.cells #[VU va,VI wd,VU 0] 252);have s2:=World.size_alloc v1 (Obj.cells #[VU va,VI wd,VU 0] 252);have n3:=(Below.refl (v1.alloc (Obj.cells #[VU va,VI wd,VU 0] 252)).heap.size (v1.alloc (Obj.cells #[VU va,VI wd,VU 0] 252))).alloc nle (Obj.cells (jL cut).toArray 252);have OG:Hid _:=OwnC.low (OwnC.new 252 3 (v1.alloc (Obj.cells #[VU va,VI wd,VU 0] 252)) (jL cut) 2 (by rw [tK,HN.out]) (by decide)) (show v1.heap.size<=_ by omega);have n23:=bst n2 n3;rw [HCC.out] at n3 OG n23;rw [s2] at OG;generalize (v1.alloc (Obj.cells #[VU va,VI wd,VU 0] 252)).alloc (Obj.cells #[VU va,VI (64-va%64),VU 0,VU (IntKind.u64.wrap (va+(64-va%64))),VI (wd-(64-va%64)),VU 0] 252)=vG at OG n23 |-;clear n2 n3 s2;have K3:Hid _:=ae H3.out n23 b1;have K6:Hid _:=ae H6.out n23 b2;have nG:=bst n1 n23;have hg:v1.heap.size<=v1.heap.size+1:=by omega
 have hgG:=(OwnC.facts OG.out).2.2.1;generalize v1.heap.size+1=g at OG hg hgG |-;obtain ⟨n,hn,hn2,hn3⟩:∃n:Nat,n=2∧1<=n∧n<=2:=⟨2,rfl,by omega,by omega⟩;rw [<-hn] at HN OG |-;clear hn
 rotate_left
 have hcv:cut=[(va,wd,0)]:=by rw [<-HC.out];unfold jf;rw [if_neg hwl]
 have HN:Hid (cut.length=1):=by rw [hcv];rfl
 have hcc:(jL cut).toArray=#[VU va,VI wd,VU 0]:=by rw [hcv];rfl
 have HCC:Hid _:=hcc;clear hcv hcc;go_upto_region 5 with fail;have n2:=(Below.refl v1.heap.size v1).alloc nle (Obj.cells (jL cut).toArray 252);have OG:Hid _:=OwnC.new 252 3 v1 (jL cut) 1 (by rw [tK,HN.out]) (by decide);rw [HCC.out] at n2 OG;generalize v1.alloc (Obj.cells #[VU va,VI wd,VU 0] 252)=vG at OG n2 |-;have K3:Hid _:=ae H3.out n2 b1;have K6:Hid _:=ae H6.out n2 b2;have nG:=bst n1 n2;have hg:v1.heap.size<=v1.heap.size:=nle;have hgG:=(OwnC.facts OG.out).2.2.1;obtain ⟨g,hge⟩:∃g,v1.heap.size=g:=⟨_,rfl⟩;have OG':Hid (OwnC 252 3 vG v1.heap.size g 1 1 (jL cut)):=by have:=OG.out;rw [hge] at this |-;exact this
 have hg':v1.heap.size<=g:=by omega
 have hgG':g<vG.heap.size:=by omega
 rw [hge];clear OG hg hgG hge n2;have OG:Hid _:=OG'.out;have hg:=hg';have hgG:=hgG';clear OG' hg' hgG';obtain ⟨n,hn,hn2,hn3⟩:∃n:Nat,n=1∧1<=n∧n<=2:=⟨1,rfl,by omega,by omega⟩;have HN':Hid (cut.length=n):=by rw [hn];exact HN
 have OG':Hid (OwnC 252 3 vG v1.heap.size g n n (jL cut)):=by rw [hn];exact OG
 rw [show Value.slice (some ⟨g,0,none⟩) 1 1=Value.slice (some ⟨g,0,none⟩) n n by rw [hn]];clear HN OG hn;have HN:Hid _:=HN'.out;have OG:Hid _:=OG'.out;clear HN' OG'
 rotate_left
 all_goals
  go_wp2;go_loopw [12] (fun iv wr=>∃(i:Nat) (ri:RunM) (pi:PtrM) (ai:Option Addr) (ci:Nat) (done rest:List au),iv=VI i∧done.length=i∧done.length+rest.length=n∧PartsAt plain pick kind r cut ri done rest∧wr.heap[w.heap.size]?=some (.cells (gU pi ai ci plain pick ri) 58 (0,0))∧wr.heap[w.heap.size+1]?=some (.cells gc 58 (0,0))∧OwnC 252 3 wr v1.heap.size g n n (jL (done++rest))∧RunIn wr pi ai ci ri∧(∀q,some q∈aH pi->(some q∈aH p∧q.block<w.heap.size)∨vG.heap.size<=q.block)∧(∀q,ai=some q->(al=some q∧q.block<w.heap.size)∨vG.heap.size<=q.block)∧vG.heap.size<=wr.heap.size∧Bw w wr) (fun iv _=>n-(intOf iv).toNat)
  case atStart=>exact ⟨0,r,p,al,cl,[],cut,rfl,rfl,by simpa using HN.out,⟨by simp,HOK.out,h0,by simpa using HPt.out,by rw [HN.out];omega⟩,by rw [HC0.out];exact K3.out,K6.out,OG.out,HI.out.keep nG,fun q hq=>.inl ⟨hq,HI.out.h.low q hq⟩,fun q hq=>.inl ⟨hq,HI.out.low q hq⟩,nle,nG⟩
  case round=>
   obtain ⟨i,ri,pi,ai,ci,done,rest,rfl,hdi,hdr,hPA,hB3,hB6,hOw,hIn,hA1,hA2,hVG,hBl⟩:=hrel;have HA1:Hid _:=hA1;have HA2:Hid _:=hA2;have HPA:=hid hPA;have HB3:Hid _:=hB3;have HB6:Hid _:=hB6;have HOw:=hid hOw;have HIn:=hid hIn;have b3:=(hpl hB3);have b6:=(hpl hB6);have bG:=hOw.facts.2.2.1;clear hPA hB3 hB6 hOw hIn hA1 hA2 K3 K6 OG nG;cases rest with
   | nil=>
    have hin:i=n:=by simp at hdr;omega
    subst hin;have HTP:=hid HPA.out.done;have HPM:Hid (iu plain pick r kind va wd=match ly ri.h.mem done with | none=>(ri,done) | some v=>(bV ri (aV kind) v,done)):=by
     show _=_;unfold iu;rw [HC.out,HTP.out,if_pos HPA.out.cause];cases ly ri.h.mem done <;> rfl
    rw [List.append_nil] at HOw;have hRs:=iK pi ai ci plain pick ri;have g0:(gU pi ai ci plain pick ri)[0]?=some (.slice pi.am ri.h.mem.length pi.cm):=rfl;have HRo:Hid ((gU pi ai ci plain pick ri).all (·.oneCell')=true):=jI _ _ _ _ _ _;have hml:=(lS HPA.out.ok.h.v.size).2.2;have HPo:Hid (aP done):=fun x hx=>HPA.out.parts x (List.mem_append_left _ hx);have HTpA:Hid (∀u c t,Calls Tryz.prog 77 #[.agg (gU pi ai ci plain pick ri),VI c,VU t] u fun e w'=>e=.returned (.agg (gU pi ai ci plain pick (bV ri c t)))∧Bw u w'):=fun u c t=>mV pi ai ci plain pick ri c t u;have HLr:Hid (∀u:World,u.heap[w.heap.size]?=some (.cells (gU pi ai ci plain pick ri) 58 (0,0))->(Instr.loadAt 58 (PT w.heap.size 0)).run Tryz.prog u=.ok (.agg (gU pi ai ci plain pick ri)) u):=fun u hu=>iA (P:=Tryz.prog) (T:=58) hu Tryz.underlying58 rfl (by rw [hRs];exact jC);generalize hRAe:gU pi ai ci plain pick ri=RA at HB3 hRs g0 HRo HTpA HLr;have HRA:Hid _:=hRAe;clear hRAe;generalize wr=wa at *;go_wp2;go_loopw [14] (fun jv wz=>∃j:Nat,jv=VI j∧j<=i∧ly ri.h.mem done=ly ri.h.mem (done.drop j)∧Bw wa wz) (fun jv _=>i-(intOf jv).toNat)
    case atStart=>exact ⟨0,rfl,Nat.zero_le _,by simp,brf⟩
    case round=>
     obtain ⟨j,rfl,hj,hout,hbz⟩:=hrel;have HOut:Hid _:=hout;clear hout;have K3:Hid _:=ae HB3.out hbz b3;have K6:Hid _:=ae HB6.out hbz b6;have OK':Hid (OwnC 252 3 wr v1.heap.size g i i (jL done)):=OwnC.keep HOw.out hbz bG;have IK:Hid (RunIn wr pi ai ci ri):=HIn.out.keep hbz;have nK:=bst hBl hbz;have bz:=hbz.size;by_cases hjl:j<i
     ·obtain ⟨q,hq⟩:∃q,done[j]?=some q:=⟨_,geg (by omega)⟩;have hqo:=HPo.out q (List.mem_of_getElem? hq);obtain ⟨x1,x2,x3⟩:=mF _ j q hq;have y0:=gX K3.out 0 g0;have y1:=il OK'.out _ _ x1;have y2:=il OK'.out _ _ x2;have y3:=il OK'.out _ _ x3;have HY1:Hid (wr.cell? ⟨g,j*3,none⟩=some (VU q.1)):=y1;have hdr:done.drop j=q::done.drop (j+1):=by
       rw [List.drop_eq_getElem_cons (by omega)];congr 1;rw [geg (by omega)] at hq;exact Option.some.inj hq
      obtain ⟨ib,hib⟩:∃ib,eM ri.h.mem.length q.2.2 q.2.1=ib:=⟨_,rfl⟩;have HIB:Hid (eM ri.h.mem.length q.2.2 q.2.1=ib):=hib;have HIn1:Hid (∀u:World,Calls Tryz.prog 138 #[.slice pi.am ri.h.mem.length pi.cm,VU q.2.2,VI q.2.1] u fun e w'=>e=.returned (.bool ib)∧w'=u):=fun u=>by
       have:=rB pi.am ri.h.mem.length pi.cm q.2.2 q.2.1 u (by omega) hqo.2.2.1 hqo.2.2.2 (by omega) (by omega);rw [hib] at this;exact this
      have HDr:Hid (ly ri.h.mem done=if ib=true then ly ri.h.mem (done.drop (j+1)) else some q.1):=by
       show _=_;rw [HOut.out,hdr,ly,hib]
      have hJlt:(j:Int)<(i:Int):=by omega
      have hJ0:(0:Int)<=(j:Int):=by omega
      have hqu:=hqo.1;clear x1 x2 x3 hib hdr hqo hq;go_upto_region 16 with fail;have ne:=jF wr;have lw:w.heap.size<wr.heap.size:=by omega
      have lg:g<wr.heap.size:=by omega
      have z0:=io y0 lw;have z2:=io y2 lg;have z3:=io y3 lg;clear y0 y1 y2 y3;refine iR (by kernel_rfl) (by kernel_rfl) ?_;repeat (go_big_quiet_step ((go_at_call 138;exact nI _ (HIn1.out _))))
      refine wpQuiet_nil ?_;rintro _ ⟨u,rfl⟩;have hu:=u.h;generalize u.w=vz at hu |-;clear ne z0 z2 z3;cases ib with
      | true=>
       go_wp2;go_roundw
       case rel=>exact ⟨j+1,by go_num,by omega,by rw [HDr.out];rfl,bst hbz hu⟩
       case measure=>simp [intOf];omega
      | false=>
       have HPN:Hid (iu plain pick r kind va wd=(bV ri (aV kind) q.1,done)):=by
        show _=_;rw [HPM.out,HDr.out];rfl
       have M3:Hid _:=ae K3.out hu (by omega);have M6:Hid _:=ae K6.out hu (by omega);have cq:=Below.cell2 hu HY1.out lg;have nM:=bst nK hu;have IM:Hid (RunIn vz pi ai ci ri):=IK.out.keep hu;have bz':=hu.size;have hRT:=iK pi ai ci plain pick (bV ri (aV kind) q.1);have HRTo:Hid ((gU pi ai ci plain pick (bV ri (aV kind) q.1)).all (·.oneCell')=true):=jI _ _ _ _ _ _;have HTp:Hid (∀u,Calls Tryz.prog 77 #[.agg RA,VI (aV kind),VU q.1] u fun e w'=>e=.returned (.agg (gU pi ai ci plain pick (bV ri (aV kind) q.1)))∧Bw u w'):=fun u=>HTpA.out u _ _;generalize hRTe:gU pi ai ci plain pick (bV ri (aV kind) q.1)=RT at hRT HRTo HTp;have HRT:Hid _:=hRTe;clear hRTe;have HLq:Hid (∀u:World,u.cell? ⟨g,j*3,none⟩=some (VU q.1)->(Instr.loadAt 27 (.pointer (some ⟨g,j*3,none⟩))).run Tryz.prog u=.ok (VU q.1) u):=fun u hu=>by go_simp
       go_upto_region 17 with fail;have hF6:vz.drew.heap[w.heap.size]?=some (.cells RA 58 (0,0))∧vz.drew.cell? ⟨g,j*3,none⟩=some (VU q.1):=⟨M3.out,by simpa using cq⟩;refine ip (fun u=>u.heap[w.heap.size]?=some (.cells RA 58 (0,0))∧u.cell? ⟨g,j*3,none⟩=some (VU q.1)) 10 ?_;refine ic 0 96 (.agg RA) rfl hF6 ?_ (hy:=fun u hu=>iw rfl (HLr.out u hu.1));refine ic 1 97 (VI kind) rfl hF6 ?_;refine ic 3 99 (SL g i i) rfl hF6 ?_;refine ic 4 100 (VI j) rfl hF6 ?_
       go_frame
       refine ic 5 101 (.pointer (some ⟨g,j*3,none⟩)) rfl hF6 ?_ (hy:=fun u hu=>(by have h1:=hJlt;have h2:=hJ0;go_simp));refine ic 6 102 (.pointer (some ⟨g,j*3,none⟩)) rfl hF6 ?_
       go_frame
       refine ic 7 103 (VU q.1) rfl hF6 ?_ (hy:=fun u hu=>iw rfl (HLq.out u hu.2))
       go_frame
       refine kM 9 105 (SL g i i) rfl (.inr hF6) ?_
       go_frame
       refine jD 2 98 rfl (f:=139) (args:=#[VI kind]) ?_;refine (ox kind vz.drew).mono ?_;rintro e v5 ⟨rfl,rfl⟩;refine ⟨_,rfl,fun _=>hF6,?_⟩
       go_frame
       refine jD 8 104 rfl (f:=77) (args:=#[.agg RA,VI (aV kind),VU q.1]) ?_;refine (HTp.out vz.drew).mono ?_;rintro e v6 ⟨rfl,n6'⟩;have n6:Bw vz v6:=bst ((brf).drew) n6';have R6:Hid _:=ae M6.out n6 (by omega);have n7:=bst nM n6;have I6:Hid (RunIn v6 pi ai ci ri):=IM.out.keep n6;refine ⟨_,rfl,fun _=>⟨ae M3.out n6 (by omega),Below.cell2 n6 cq (by omega)⟩,?_⟩
       go_frame
       have gS:=iq (w.heap.size+1) RT.toList 0 v6 v6 (aM v6 _);have e1:=fG (V:=RT) R6.out (by rw [hRT,iz]);have e2:=dU (show w.heap.size<=w.heap.size+1 by omega) RT.toList 0 v6 n7;refine fe 10 8 104 rfl (iC (P:=Tryz.prog) (T:=58) (V:=RT) R6.out (by rw [hRT];exact jC) (by rw [hRT,iz]) HRTo.out) ?_;refine kM 11 9 (SL g i i) rfl (.inl (by kernel_rfl)) ?_
       go_frame
       refine dQ ?_;go_wp2_with fail;refine uG (b:=w.heap.size+1) (W:=SL g i i) Tryz.results105 rfl rfl (iH (P:=Tryz.prog) e1 Tryz.underlying58 rfl (by rw [hRT];exact jC)) rfl ?_;have k6:=I6.out.gb gS (fun q hq=>by have:=HA1.out q hq;omega) (fun q hq=>by have:=HA2.out q hq;omega);rw [HPN.out];exact ⟨⟨pi,ai,ci,some (AD g 0),i,i,by rw [HRT.out],⟨k6.h,k6.looks,k6.lookc,k6.looka,k6.lookl,k6.low⟩,fun q hq=>(HA1.out q hq).imp And.left (fun h=>Nat.le_trans (by omega) h),fun q hq=>(HA2.out q hq).imp And.left (fun h=>Nat.le_trans (by omega) h),fun h=>absurd h (cM kind)⟩,e2⟩
     ·have hji:j=i:=by omega
      subst hji;have HPN:Hid (iu plain pick r kind va wd=(ri,done)):=by
       show _=_;rw [HPM.out,HOut.out,List.drop_of_length_le (by omega)];rfl
      go_upto_region 18 with fail;have HSr:Hid _:=iC (P:=Tryz.prog) (T:=58) (V:=RA) K6.out (by rw [hRs];exact jC) (by rw [hRs,iz]) HRo.out;have HL2:Hid _:=HLr.out wr K3.out;have e1:=fG (V:=RA) K6.out (by rw [hRs,iz]);have e2:=dU (show w.heap.size<=w.heap.size+1 by omega) RA.toList 0 wr nK;have gS:=iq (w.heap.size+1) RA.toList 0 wr wr (aM wr _);go_wp2_with (first
       | ((with_reducible refine iE ?_ HL2.out ?_);(exact rfl))
       | ((with_reducible refine it ?_ ?_ HSr.out ?_);(exact rfl);(exact rfl)))
      refine uG (b:=w.heap.size+1) (W:=SL g j j) Tryz.results105 rfl rfl (iH (P:=Tryz.prog) e1 Tryz.underlying58 rfl (by rw [hRs];exact jC)) rfl ?_;rw [HPN.out];exact ⟨⟨pi,ai,ci,some (AD g 0),j,j,by rw [HRA.out],IK.out.gb gS (fun q hq=>by have:=HA1.out q hq;omega) (fun q hq=>by have:=HA2.out q hq;omega),fun q hq=>(HA1.out q hq).imp And.left (fun h=>Nat.le_trans (by omega) h),fun q hq=>(HA2.out q hq).imp And.left (fun h=>Nat.le_trans (by omega) h),fun _=>⟨hdi.symm,hn3,g,rfl,OwnC.row (OwnC.gb OK'.out gS (by omega))⟩⟩,e2⟩
   | cons q rest=>
    have hlt:i<n:=by simp at hdr;omega
    have hq:(done++q::rest)[i]?=some q:=by rw [<-hdi];simp
    have HQ:Hid ((done++q::rest)[i]?=some q):=hq;have hqo:=HPA.out.parts q (List.mem_append_right _ (List.mem_cons_self ..));have HQo:Hid _:=hqo;obtain ⟨x1,x2,x3⟩:=mF _ i q hq;have HX1:Hid _:=x1;have q1:=hqo.1.1;have q2:=hqo.1.2;clear x1 x2 x3 hqo hq;have hIlt:(i:Int)<(n:Int):=by omega
    have hI0:(0:Int)<=(i:Int):=by omega
    go_upto_region 9 with fail;have F2:=iV wr #[VI 0,VU 0] 160;generalize wr.alloc (Obj.cells #[VI 0,VU 0] 160)=v2 at F2 |-;obtain ⟨hT2,l2,n2⟩:=F2;have b2T:wr.heap.size<v2.heap.size:=by omega
    clear l2;have HT2:Hid _:=hT2;have J3:Hid _:=ae HB3.out n2 b3;have J6:Hid _:=ae HB6.out n2 b6;have OJ:Hid (OwnC 252 3 v2 v1.heap.size g n n (jL (done++q::rest))):=OwnC.keep HOw.out n2 bG;have IJ:Hid (RunIn v2 pi ai ci ri):=HIn.out.keep n2;have nJ:=bst hBl n2;have hRs:=iK pi ai ci plain pick ri;have cq:=il OJ.out _ _ HX1.out;have HLr:Hid (∀u:World,u.heap[w.heap.size]?=some (.cells (gU pi ai ci plain pick ri) 58 (0,0))->(Instr.loadAt 58 (PT w.heap.size 0)).run Tryz.prog u=.ok (.agg (gU pi ai ci plain pick ri)) u):=fun u hu=>iA (P:=Tryz.prog) (T:=58) hu Tryz.underlying58 rfl (by rw [hRs];exact jC);have HLq:Hid (∀u:World,u.cell? ⟨g,i*3,none⟩=some (VU q.1)->(Instr.loadAt 27 (.pointer (some ⟨g,i*3,none⟩))).run Tryz.prog u=.ok (VU q.1) u):=fun u hu=>by go_simp
    have HTr:Hid (∀u,Bw v2 u->Calls Tryz.prog 78 #[.agg (gU pi ai ci plain pick ri),VI kind,VU q.1] u fun e w'=>(∃p' al' cl',e=.returned (.tuple #[.agg (gU p' al' cl' plain pick (bC plain pick ri kind q.1)),kW (aw plain pick ri.h kind q.1).1])∧RunIn w' p' al' cl' (bC plain pick ri kind q.1)∧From u.heap.size pi p'∧FromL u.heap.size ai al')∧Bw u w'):=fun u hu=>pe plain pi ai ci pick ri kind q.1 u (IJ.out.keep hu) HPA.out.ok hpk hkd HQo.out.1 (by have:=HPA.out.looks;simp only [List.length_cons] at this;omega);have hF:v2.drew.heap[w.heap.size]?=some (.cells (gU pi ai ci plain pick ri) 58 (0,0))∧v2.drew.cell? ⟨g,i*3,none⟩=some (VU q.1):=⟨J3.out,by simpa using cq⟩;refine ip (fun u=>u.heap[w.heap.size]?=some (.cells (gU pi ai ci plain pick ri) 58 (0,0))∧u.cell? ⟨g,i*3,none⟩=some (VU q.1)) 11 ?_;refine ic 0 46 (.agg (gU pi ai ci plain pick ri)) rfl hF ?_ (hy:=fun u hu=>iw rfl (HLr.out u hu.1));refine ic 1 47 (VI kind) rfl hF ?_;refine ic 2 48 (SL g n n) rfl hF ?_;refine ic 3 49 (VI i) rfl hF ?_
    go_frame
    refine ic 4 50 (.pointer (some ⟨g,i*3,none⟩)) rfl hF ?_ (hy:=fun u hu=>(by have h1:=hIlt;have h2:=hI0;go_simp));refine ic 5 51 (.pointer (some ⟨g,i*3,none⟩)) rfl hF ?_
    go_frame
    refine ic 6 52 (VU q.1) rfl hF ?_ (hy:=fun u hu=>iw rfl (HLq.out u hu.2))
    go_frame
    refine jD 7 53 rfl (f:=78) (args:=#[.agg (gU pi ai ci plain pick ri),VI kind,VU q.1]) ?_;refine (HTr.out v2.drew ((brf).drew)).mono ?_;rintro e v3 ⟨⟨p',al',cl',rfl,hIn3,hFr,hFl⟩,n3'⟩;have HFr:Hid (∀q,some q∈aH p'->((some q∈aH p∧q.block<w.heap.size)∨vG.heap.size<=q.block)∧q.block≠wr.heap.size):=fun q hq=>by
     rcases hFr q hq with h | h
     ·exact ⟨HA1.out q h,Nat.ne_of_lt (HIn.out.h.low q h)⟩
     ·have h':v2.heap.size<=q.block:=h;exact ⟨.inr (by omega),by omega⟩
    have HFl:Hid (∀q,al'=some q->((al=some q∧q.block<w.heap.size)∨vG.heap.size<=q.block)∧q.block≠wr.heap.size):=fun q hq=>by
     rcases hFl q hq with h | h
     ·exact ⟨HA2.out q h,Nat.ne_of_lt (HIn.out.low q h)⟩
     ·have h':v2.heap.size<=q.block:=h;exact ⟨.inr (by omega),by omega⟩
    clear hFr hFl;have n3:Bw v2 v3:=bst ((brf).drew) n3';have L3:Hid _:=ae J3.out n3 (by omega);have L6:Hid _:=ae J6.out n3 (by omega);have LT:Hid _:=ae HT2.out n3 b2T;have OL:=hid (OwnC.keep OJ.out n3 (by omega));have nL:=bst nJ n3;have HIL:=hid hIn3;obtain ⟨X,hX⟩:∃X,aw plain pick ri.h kind q.1=X:=⟨_,rfl⟩;have HX:=hid hX;have hRL:=iK p' al' cl' plain pick (bC plain pick ri kind q.1);have HRo:Hid ((gU p' al' cl' plain pick (bC plain pick ri kind q.1)).all (·.oneCell')=true):=jI _ _ _ _ _ _;have HTs:Hid (∃tv,kW (aw plain pick ri.h kind q.1).1=.agg tv∧tv.size=2∧tv.all (·.oneCell')=true∧tv[0]?=some (VI X.1.1)∧tv[1]?=some (VU X.1.2)):=by rw [hX];exact ⟨_,rfl,rfl,by simp [Value.oneCell'],rfl,rfl⟩
    obtain ⟨tv,htv,tvs,tvo,tv0,tv1⟩:=HTs.out;clear HTs;rw [htv];refine ⟨_,rfl,fun _=>⟨L3.out,by have:=il OL.out _ _ HX1.out;simpa using this⟩,?_⟩;have hF3:v3.heap[w.heap.size]?=some (.cells (gU pi ai ci plain pick ri) 58 (0,0))∧v3.cell? ⟨g,i*3,none⟩=some (VU q.1):=⟨L3.out,by have:=il OL.out _ _ HX1.out;simpa using this⟩;generalize hRLe:gU p' al' cl' plain pick (bC plain pick ri kind q.1)=RL at hRL HRo |-;have HRL:Hid _:=hRLe;clear hRLe hX htv hIn3 n3'
    go_frame
    refine kM 8 45 (.tuple #[.agg RL,.agg tv]) rfl (.inr hF3) ?_
    go_frame
    refine kM 9 54 (.agg RL) rfl (.inr hF3) ?_
    go_frame
    refine kM 10 55 (.agg tv) rfl (.inr hF3) ?_
    go_frame
    have gR:=iq w.heap.size RL.toList 0 v3 v3 (aM v3 _);have M3:Hid _:=fG (V:=RL) L3.out (by rw [hRL,hRs]);have M6:Hid _:=kX L6.out gR (show w.heap.size+1≠w.heap.size by omega);have MT:Hid _:=kX LT.out gR (show wr.heap.size≠w.heap.size by omega);have nM:=dU (Nat.le_refl w.heap.size) RL.toList 0 v3 nL;have OM:=hid (OwnC.gb OL.out gR (show g≠w.heap.size by omega));refine fe 11 4 54 rfl (iC (P:=Tryz.prog) (T:=58) (V:=RL) L3.out (by rw [hRL];exact jC) (by rw [hRL,hRs]) HRo.out) ?_;have gT:=iq wr.heap.size tv.toList 0 _ _ (aM (v3.setCells w.heap.size 0 RL.toList) _);have NT:Hid _:=fG (V:=tv) MT.out tvs;have N3:Hid _:=kX M3.out gT (show w.heap.size≠wr.heap.size by omega);have N6:Hid _:=kX M6.out gT (show w.heap.size+1≠wr.heap.size by omega);have nN:=dU (show w.heap.size<=wr.heap.size by omega) tv.toList 0 _ nM;have ON:=hid (OwnC.gb OM.out gT (show g≠wr.heap.size by omega));refine fe 12 13 55 rfl (iC (P:=Tryz.prog) (T:=160) (V:=tv) MT.out (by rw [tvs];exact uX) tvs tvo) ?_;refine dQ ?_;have IN:=hid ((HIL.out.gb gR (fun q hq=>by have:=(HFr.out q hq).1;omega) (fun q hq=>by have:=(HFl.out q hq).1;omega)).gb gT (fun q hq=>(HFr.out q hq).2) (fun q hq=>(HFl.out q hq).2));have hVG4:vG.heap.size<=((v3.setCells w.heap.size 0 RL.toList).setCells wr.heap.size 0 tv.toList).heap.size:=by
     rw [jw,jw];have:=n3.size;omega
    generalize (v3.setCells w.heap.size 0 RL.toList).setCells wr.heap.size 0 tv.toList=v4 at NT N3 N6 nN ON IN hVG4 |-;clear L3 L6 LT OL nL HIL M3 M6 MT nM OM gR gT hF hF3 J3 J6 OJ IJ nJ HLr n2 n3 cq HT2;have cT0:=gX NT.out 0 tv0;have cT1:=gX NT.out 1 tv1;have bT4:=(hpl NT.out);by_cases hX0:X.1.1=0
    ·have hst:=HPA.out.step hpk hkd (by rw [HX.out];exact hX0);rw [HX.out] at hst;have HSt:Hid _:=hst;have HX0:=hid hX0;rw [hX0] at cT0 tv0;clear hst hX0;obtain ⟨_,_,y3⟩:=mF _ i q HQ.out;have cg:=il ON.out _ _ y3;have fg:=iy ON.out (i*3+2);have O5:Hid (OwnC 252 3 (v4.setCell ⟨g,i*3+2,none⟩ (VU X.1.2)) v1.heap.size g n n (jL ((done++[(q.1,q.2.1,X.1.2)])++rest))):=by
      have:=eX ON.out (i*3+2) (VU X.1.2);rw [tL _ i q X.1.2 HQ.out] at this;have e:(done++q::rest).set i (q.1,q.2.1,X.1.2)=(done++[(q.1,q.2.1,X.1.2)])++rest:=by
       rw [<-hdi,List.set_append_right _ _ nle];simp
      rw [e] at this;exact this
     have gG:=hZ (aM v4 (some g)) (i*3+2) (VU X.1.2);have P3:Hid _:=kX N3.out gG (show w.heap.size≠g by omega);have P6:Hid _:=kX N6.out gG (show w.heap.size+1≠g by omega);have n5:=eD nN (show w.heap.size<=g by omega) (i*3+2) (VU X.1.2);have I5:=hid (IN.out.gb gG (fun q hq=>by have:=(HFr.out q hq).1;omega) (fun q hq=>by have:=(HFl.out q hq).1;omega));have hVG5:vG.heap.size<=(v4.setCell ⟨g,i*3+2,none⟩ (VU X.1.2)).heap.size:=by simp;exact hVG4
     clear y3;go_wp2;go_roundw
     case rel=>exact ⟨i+1,bC plain pick ri kind q.1,p',al',cl',done++[(q.1,q.2.1,X.1.2)],rest,by go_num,by simp [hdi],by simp at hdr |-;omega,HSt.out,by rw [HRL.out];exact P3.out,P6.out,O5.out,I5.out,fun q hq=>(HFr.out q hq).1,fun q hq=>(HFl.out q hq).1,hVG5,n5⟩
     case measure=>simp [intOf];omega
    ·have HTR:Hid (iu plain pick r kind va wd=hU plain pick kind r cut∧(hU plain pick kind r cut).1=bV (bC plain pick ri kind q.1) X.1.1 q.1):=by
      have ht:=HPA.out.trap (by rw [HX.out];exact hX0);rw [HX.out] at ht;refine ⟨?_,ht⟩;unfold iu;rw [HC.out,if_neg (by rw [ht];exact hX0)]
     have hX0':(X.1.1 != 0)=true:=by simpa using hX0
     have HX0:=hid hX0;clear hX0;go_upto_region 11 with fail;have hF6:v4.drew.heap[w.heap.size]?=some (.cells RL 58 (0,0))∧v4.drew.cell? ⟨g,i*3,none⟩=some (VU q.1)∧v4.drew.heap[wr.heap.size]?=some (.cells tv 160 (0,0)):=⟨N3.out,by have:=il ON.out _ _ HX1.out;simpa using this,NT.out⟩;have HLr2:=hid fun (u:World) (hu:u.heap[w.heap.size]?=some (.cells RL 58 (0,0)))=>iA (P:=Tryz.prog) (T:=58) hu Tryz.underlying58 rfl (by rw [hRL];exact jC);have HLc:Hid (∀u:World,u.heap[wr.heap.size]?=some (.cells tv 160 (0,0))->(Instr.loadAt 2 (PT wr.heap.size 0)).run Tryz.prog u=.ok (VI X.1.1) u):=fun u hu=>by
      have:=gX hu 0 tv0;go_simp
     have HTp:Hid (∀u,Calls Tryz.prog 77 #[.agg RL,VI X.1.1,VU q.1] u fun e w'=>e=.returned (.agg (gU p' al' cl' plain pick (bV (bC plain pick ri kind q.1) X.1.1 q.1)))∧Bw u w'):=fun u=>by
      rw [<-HRL.out];exact mV p' al' cl' plain pick _ _ _ u
     have hRT:=iK p' al' cl' plain pick (bV (bC plain pick ri kind q.1) X.1.1 q.1);have HRTo:Hid ((gU p' al' cl' plain pick (bV (bC plain pick ri kind q.1) X.1.1 q.1)).all (·.oneCell')=true):=jI _ _ _ _ _ _;generalize hRTe:gU p' al' cl' plain pick (bV (bC plain pick ri kind q.1) X.1.1 q.1)=RT at HTp hRT HRTo;have HRT:Hid _:=hRTe;clear hRTe;refine ip (fun u=>u.heap[w.heap.size]?=some (.cells RL 58 (0,0))∧u.cell? ⟨g,i*3,none⟩=some (VU q.1)∧u.heap[wr.heap.size]?=some (.cells tv 160 (0,0))) 10 ?_;refine ic 0 59 (.agg RL) rfl hF6 ?_ (hy:=fun u hu=>iw rfl (HLr2.out u hu.1));refine ic 1 60 (PT wr.heap.size 0) rfl hF6 ?_
     go_frame
     refine ic 2 61 (VI X.1.1) rfl hF6 ?_ (hy:=fun u hu=>iw rfl (HLc.out u hu.2.2));refine ic 3 62 (SL g n n) rfl hF6 ?_;refine ic 4 63 (VI i) rfl hF6 ?_
     go_frame
     refine ic 5 64 (.pointer (some ⟨g,i*3,none⟩)) rfl hF6 ?_ (hy:=fun u hu=>(by have h1:=hIlt;have h2:=hI0;go_simp));refine ic 6 65 (.pointer (some ⟨g,i*3,none⟩)) rfl hF6 ?_
     go_frame
     refine ic 7 66 (VU q.1) rfl hF6 ?_ (hy:=fun u hu=>iw rfl (HLq.out u hu.2.1))
     go_frame
     refine kM 9 68 (SL g n n) rfl (.inr hF6) ?_
     go_frame
     refine jD 8 67 rfl (f:=77) (args:=#[.agg RL,VI X.1.1,VU q.1]) ?_;refine (HTp.out v4.drew).mono ?_;rintro e v6 ⟨rfl,n6'⟩;have n6:Bw v4 v6:=bst ((brf).drew) n6';have b64:=(hpl N6.out);have R6:Hid _:=ae N6.out n6 b64;have n7:=bst nN n6;have I6:=hid (IN.out.keep n6);refine ⟨_,rfl,fun _=>⟨ae N3.out n6 (by omega),by have:=il (OwnC.keep ON.out n6 (by omega)) _ _ HX1.out;simpa using this,ae NT.out n6 bT4⟩,?_⟩
     go_frame
     have gS:=iq (w.heap.size+1) RT.toList 0 v6 v6 (aM v6 _);have e1:=fG (V:=RT) R6.out (by rw [hRT,iz]);have e2:=dU (show w.heap.size<=w.heap.size+1 by omega) RT.toList 0 v6 n7;refine fe 10 8 67 rfl (iC (P:=Tryz.prog) (T:=58) (V:=RT) R6.out (by rw [hRT];exact jC) (by rw [hRT,iz]) HRTo.out) ?_;refine kM 11 9 (SL g n n) rfl (.inl (by kernel_rfl)) ?_
     go_frame
     refine dQ ?_;go_wp2_with fail;refine uG (b:=w.heap.size+1) (W:=SL g n n) Tryz.results105 rfl rfl (iH (P:=Tryz.prog) e1 Tryz.underlying58 rfl (by rw [hRT];exact jC)) rfl ?_;have k6:=I6.out.gb gS (fun q hq=>by have:=(HFr.out q hq).1;omega) (fun q hq=>by have:=(HFl.out q hq).1;omega);rw [HTR.out.1,HTR.out.2];exact ⟨⟨p',al',cl',some (AD g 0),n,n,by rw [HRT.out],⟨k6.h,k6.looks,k6.lookc,k6.looka,k6.lookl,k6.low⟩,fun q hq=>(HFr.out q hq).1.imp And.left (fun h=>Nat.le_trans (by omega) h),fun q hq=>(HFl.out q hq).1.imp And.left (fun h=>Nat.le_trans (by omega) h),fun h=>absurd h HX0.out⟩,e2⟩
end Go.Proofs.YtjdmhibnhpdjaaaGreat
