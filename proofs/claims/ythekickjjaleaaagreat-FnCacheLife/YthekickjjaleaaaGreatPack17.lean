import Derived.Test.YthekickjjaleaaaGreatPack12
import Derived.Test.YthekickjjaleaaaGreatPack16
import Derived.Test.YthekickjjaleaaaGreatPack13
namespace Go.Proofs.YthekickjjaleaaaGreat
open Go.RowKit
set_option linter.unusedVariables false
theorem pG:(Tryz.prog.info? 56).map (·.size)=some 2:=by kernel_rfl
theorem Tryz.infoLk:(Tryz.prog.info? 98).map (fun i=>(i.zero,i.size,i.bytes))=some (some (.agg #[.int .i64 0,.int .u64 0]),2,16):=by kernel_rfl
theorem iX (ls:List (Int × Int)):∀u∈dQ ls,u.oneCell'=true:=by
 induction ls with
 | nil=>intro u hu;cases hu
 | cons l ls ih=>
  intro u hu;simp only [dQ,List.mem_cons] at hu;rcases hu with rfl | rfl | hu
  ·rfl
  ·rfl
  ·exact ih u hu
theorem pH (a b:List (Int × Int)):dQ (a++b)=dQ a++dQ b:=by
 induction a with
 | nil=>rfl
 | cons l a ih=>simp [dQ,ih]
theorem mz {base size n:Nat} {e:TypeId} {w:World} {s:Value} {cs:List Value} (h:w.ownsRow base e size s n cs):∃a c,s=.slice a n c:=by
 have h1:=h.1;rcases h.2 with ⟨h2,h3⟩ | ⟨g',cap',cur,h2,_⟩
 ·exact ⟨none,0,by rw [h2,h3]⟩
 ·exact ⟨some ⟨g',0,none⟩,cap',h2⟩
def dz (q:PtrM) (r:(Int × Int) × KM):Array Value:=#[.int .i64 r.1.1,.int .u64 r.1.2,.int .i64 r.2.i.sets,.int .i64 r.2.i.ways,.slice q.a1 r.2.i.es.length q.c1,.int .i64 r.2.d.sets,.int .i64 r.2.d.ways,.slice q.a2 r.2.d.es.length q.c2,.int .i64 r.2.p.sets,.int .i64 r.2.p.ways,.slice q.a3 r.2.p.es.length q.c3]
theorem TransOwn.open {base:Nat} {w:World} {x:Value} {r:(Int × Int) × KM} (h:TransOwn base w x r) (p:PtrM):∃a1 c1 a2 c2 a3 c3,x=.agg (dz (pK p a1 c1 a2 c2 a3 c3) r)∧KRows base w (pK p a1 c1 a2 c2 a3 c3) r.2:=by
 obtain ⟨s1,s2,s3,rfl,o1,o2,o3⟩:=h;obtain ⟨a1,c1,rfl⟩:=mz o1;obtain ⟨a2,c2,rfl⟩:=mz o2;obtain ⟨a3,c3,rfl⟩:=mz o3;exact ⟨a1,c1,a2,c2,a3,c3,rfl,o1,o2,o3⟩
theorem sF {P:Program} {fn:Func} {R:Ending→World→Prop} {a:Act} {w:World} {s t:Tmp} {T U:TypeId} {b c:Nat} {V W:Value} (hr:fn.results=#[ResultVar.cell s T,ResultVar.cell t U]) (hs:a.tmps[s]?=some (.pointer (some ⟨b,0,none⟩))) (ht:a.tmps[t]?=some (.pointer (some ⟨c,0,none⟩))) (hl:(loadVar T ⟨b,0,none⟩).run P w=.ok V w) (hm:(loadVar U ⟨c,0,none⟩).run P w=.ok W w) (hd:a.defers=[]) (hR:R (.returned (.tuple #[V,W])) w):bodyPost P fn R .ret a w:=by
 refine bodyPost_ret (v:=.tuple #[V,W]) ?_ hd hR;simp [results,hr,hs,ht,asAddr,hl,hm,Sem.run_bind]
set_option maxRecDepth 20000 in
set_option maxHeartbeats 3200000 in
theorem lK (p:PtrM) (al:Option Addr) (cl:Nat) (pick:Int) (r:RunM) (kind va:Int) (w:World) (hr:RunIn w p al cl r) (hk:ROk r) (hpk:0≤pick∧pick≤255) (hkd:0≤kind∧kind≤2) (hv:inU va) (hll:r.looks.length≤7):
 Calls Tryz.prog 185 #[.agg (aD p al cl true pick r),.int .i64 kind,.int .u64 va] w fun e w'=>(∃p' al' cl',e=.returned (.tuple #[.agg (aD p' al' cl' true pick (cA true pick r kind va)),ej (bX true pick r.h kind va).1])∧RunIn w' p' al' cl' (cA true pick r kind va)∧From w.heap.size p p'∧FromL w.heap.size al al')∧Below w.heap.size w w':=by
 have hmem:=fc hk.h.v.size;have HI:Hid (RunIn w p al cl r):=hr;have HOK:Hid (ROk r):=hk;have HLk:Hid (RowC w al r.looks.length 2 (dQ r.looks)):=hr.looks;have HLa:Hid ((al=none→r.looks.length=0∧cl=0)∧∀q,al=some q→q.spot=none):=hr.looka;have HP:Hid (∀g cap,(aD p al cl true pick r).setIfInBounds 25 (.slice (some ⟨g,0,none⟩) (r.looks.length+1) cap)=aD p (some ⟨g,0,none⟩) cap true pick ⟨r.h,r.cause,r.tval,r.looks++[(kind,va)],r.fenced,r.fence⟩):=fun g cap=>by
  unfold aD;simp
 have hsz:=bf p al cl true pick r;have g25:(aD p al cl true pick r)[25]?=some (.slice al r.looks.length cl):=rfl;have HO:Hid ((aD p al cl true pick r).all (·.oneCell')=true):=cY p al cl true pick r;generalize aD p al cl true pick r=C at *;obtain ⟨N,hN⟩:∃N,r.looks.length=N:=⟨_,rfl⟩;rw [hN] at HLk HLa HP g25 hll;have HN:Hid (r.looks.length=N):=hN;clear hr hN hk;go_enter Tryz.func185,Tryz.ntmps185;go_upto_region 1 with fail;have F:=ts w C dk #[.int .i64 0,.int .u64 0] 93 93 56;generalize ((w.alloc (Obj.cells C 93)).alloc (Obj.cells dk 93)).alloc (Obj.cells #[.int .i64 0,.int .u64 0] 56)=v1 at F ⊢;obtain ⟨h3,h6,h7,l1,n1⟩:=F;have H3:Hid _:=h3;have H6:Hid _:=h6;have H7:Hid _:=h7;have b1:w.heap.size<v1.heap.size:=by omega
 have b2:w.heap.size+1<v1.heap.size:=by omega
 have b3:w.heap.size+2<v1.heap.size:=by omega
 have c25:=ag h3 25 g25;have OE:=OwnC.new 98 2 v1 [] 0 rfl (by decide);have nE:=(Below.refl v1.heap.size v1).alloc (Nat.le_refl _) (Obj.cells #[] 98);clear h3 h6 h7 l1;go_upto_region 2 with (at_builtin;first
  | (refine gj _ rfl (.tmp 9) (.tmp 11) 91 rfl 98 Tryz.underlying91 (.agg #[.int .i64 0,.int .u64 0]) 2 16 Tryz.infoLk rfl (by decide) v1.heap.size v1.heap.size 0 0 [] rfl OE al N cl (dQ r.looks) rfl HLa.out.1 HLa.out.2 (RowC.keep (RowC.keep HLk.out n1) nE) (iX _) (by omega) (by omega) v1.heap.size v1 nE (Nat.le_refl _) ?_;intro g2 cap2 v2 o2 n2;have n3:=(Below.refl v2.heap.size v2).alloc (Nat.le_refl _) (Obj.cells #[.int .i64 kind,.int .u64 va] 98);have n23:=Below.step n2 n3 (Nat.le_refl _);simp only [Nat.zero_add,List.nil_append] at o2 ⊢;have o3:=OwnC.keep o2 n3 o2.facts.2.2.1;have q3:=(OwnC.new 98 2 v2 (dQ [(kind,va)]) 1 rfl (by decide)).row;have z2:=n2.size;clear OE nE)
  | (refine gj _ rfl (.tmp 12) (.tmp 16) 91 rfl 98 Tryz.underlying91 (.agg #[.int .i64 0,.int .u64 0]) 2 16 Tryz.infoLk rfl (by decide) v1.heap.size g2 N cap2 (dQ r.looks) rfl o3 (some ⟨v2.heap.size,0,none⟩) 1 1 (dQ [(kind,va)]) rfl (fun h=>(by cases h)) (fun q hq=>by cases hq;rfl) q3 (iX _) (by omega) (by omega) v1.heap.size v1 n23 (Nat.le_refl _) ?_;intro g4 cap4 v4 o4 n4;have k3:=ab H3.out n4 b1;have c25:=ag k3 25 g25;have f25:=au k3 25;have b4:=Nat.lt_of_lt_of_le b1 n4.size;clear o2 o3 q3 n2 n3 n23 z2))
 have f4:=o4.facts;have hg1:v1.heap.size≤g4:=f4.2.1;have hg2:g4<v4.heap.size:=f4.2.2.1;have HC4:Hid (N+1≤cap4∧cap4≤9223372036854775807):=⟨f4.2.2.2.1,by have:=f4.2.2.2.2;unfold maxLen at this;exact this⟩;have ng':g4≠w.heap.size:=by omega
 have K3:Hid _:=cd k3 25 (.slice (some ⟨g4,0,none⟩) (N+1) cap4);have K6:Hid _:=cQ (ab H6.out n4 b2) 25 (.slice (some ⟨g4,0,none⟩) (N+1) cap4) (show w.heap.size+1≠w.heap.size by omega);have K7:Hid _:=cQ (ab H7.out n4 b3) 25 (.slice (some ⟨g4,0,none⟩) (N+1) cap4) (show w.heap.size+2≠w.heap.size by omega);have n5:=cI (Below.step n1 n4 (Nat.le_refl _)) (Nat.le_refl _) 25 (.slice (some ⟨g4,0,none⟩) (N+1) cap4);have O5:Hid (OwnC 98 2 (v4.setCell ⟨w.heap.size,25,none⟩ (.slice (some ⟨g4,0,none⟩) (N+1) cap4)) v1.heap.size g4 (N+1) cap4 (dQ (r.looks++[(kind,va)]))):=by
  rw [pH];exact OwnC.gb o4 (aq (az v4 (some w.heap.size)) 25 (.slice (some ⟨g4,0,none⟩) (N+1) cap4)) ng'
 have z5:v1.heap.size≤(v4.setCell ⟨w.heap.size,25,none⟩ (.slice (some ⟨g4,0,none⟩) (N+1) cap4)).heap.size:=by simp;exact n4.size
 have hg3:g4<(v4.setCell ⟨w.heap.size,25,none⟩ (.slice (some ⟨g4,0,none⟩) (N+1) cap4)).heap.size:=by simp;exact hg2
 generalize v4.setCell ⟨w.heap.size,25,none⟩ (.slice (some ⟨g4,0,none⟩) (N+1) cap4)=v5 at K3 K6 K7 n5 O5 z5 hg3 ⊢;have HE:Hid _:=HP.out g4 cap4;have hsz2:(C.setIfInBounds 25 (.slice (some ⟨g4,0,none⟩) (N+1) cap4)).size=31:=by simp only [Array.size_setIfInBounds,hsz]
 have hone:=jQ HO.out 25 (v:=.slice (some ⟨g4,0,none⟩) (N+1) cap4) rfl;generalize C.setIfInBounds 25 (.slice (some ⟨g4,0,none⟩) (N+1) cap4)=D at K3 HE hsz2 hone;clear o4 f4 k3 c25 f25 n4 H3 H6 H7 hg2 n1 HLk HLa;have HD:=HE.out;have g21:D[21]?=some (.bool true):=by rw [HD];rfl
 have g22:D[22]?=some (.int .i64 pick):=by rw [HD];rfl
 have g0:D[0]?=some (.slice p.am r.h.mem.length p.cm):=by rw [HD];rfl
 have HDh:Hid ((D.toList.drop 0).take 21=(aA p r.h).toList):=by show _=_;rw [HD];rfl
 have HDk:Hid ((D.toList.drop 12).take 9=(kA p r.h.k).toList):=by show _=_;rw [HD];rfl
 clear HD;have c21:=ag K3.out 21 g21;have b5:w.heap.size<v5.heap.size:=by omega
 go_upto_region 3 with fail;clear c21;obtain ⟨M,hM⟩:∃M,r.h.mem.length=M:=⟨_,rfl⟩;rw [hM] at g0;have HPl:Hid (∀u,Below w.heap.size w u→Calls Tryz.prog 28 #[.slice p.am M p.cm,dD r.h.mode r.h.sum r.h.mxr r.h.satp,.int .i64 kind,.int .u64 va] u fun e w'=>e=.returned (ej (bX true pick r.h kind va).1)∧Below u.heap.size u w'):=fun u hu=>by
  have hB:=HI.out.h.mem.keep hu;rw [hM] at hB;exact pP p.am M p.cm r.h.mem r.h.mode r.h.sum r.h.mxr r.h.satp kind va u (by omega) (by have:=HI.out.h.memc.1;omega) HI.out.h.memc.2 HOK.out.h.satp.1 HOK.out.h.satp.2 hv.1 hv.2 hB
 have HCt:Hid (∀u,Calls Tryz.prog 132 #[.agg (aA p r.h)] u fun e w'=>e=.returned (dD r.h.mode r.h.sum r.h.mxr r.h.satp)∧Below u.heap.size u w'):=fun u=>mt p r.h u;have HLh:Hid (∀u:World,u.heap[w.heap.size]?=some (.cells D 93 (0,0))→(Instr.loadAt 59 (.pointer (some ⟨w.heap.size,0,none⟩))).run Tryz.prog u=.ok (.agg (aA p r.h)) u):=fun u hu=>cw (P:=Tryz.prog) (T:=59) hu Tryz.underlying59 rfl (o:=0) (aA p r.h).toList eV HDh.out rfl;have HLr:Hid (∀u:World,u.heap[w.heap.size]?=some (.cells D 93 (0,0))→(Instr.loadAt 93 (.pointer (some ⟨w.heap.size,0,none⟩))).run Tryz.prog u=.ok (.agg D) u):=fun u hu=>aH (P:=Tryz.prog) (T:=93) hu Tryz.underlying93 rfl (by rw [hsz2];exact cD);have hMl:M≤4096:=by omega
 clear hM hmem;generalize aA p r.h=E at *;have HTV:Hid (∃tv,ej (bX true pick r.h kind va).1=.agg tv∧tv.size=2∧tv.all (·.oneCell')=true):=⟨_,rfl,rfl,by simp [Value.oneCell']⟩;obtain ⟨tv,htv,tvs,tvo⟩:=HTV.out;rw [htv] at HPl;have HTw:Hid _:=htv;clear htv HTV;have HTo:Hid (tv.all (·.oneCell')=true):=tvo;clear tvo;refine my [] 10 ?_ _ [(0,10)] (fun _ _ _=>True) (by kernel_rfl) (by kernel_rfl) (by kernel_rfl) rfl (by kernel_rfl) ?h3 ?r3 ?c3 ?q3
 case h3=>
  intro w0 hw0;have ne:=dZ w0;have l0:=hw0.size;have hb3:=ab K3.out hw0 b5;have lw:w.heap.size<w0.heap.size:=by omega
  have y0:=aR (ag hb3 0 g0) lw;have Hb3:Hid _:=hb3;have Hn0:Hid _:=Below.step n5 hw0 (Nat.le_refl _);clear hb3;simp only [tw,List.take_succ_cons,List.take_zero,List.drop_zero,List.append_nil];repeat (first
   | ((with_reducible refine lC ?_ (fun u=>HLr.out u.w (lG Hb3.out u)) ?_);(exact rfl);(simp only [Act.put,List.setIfInBounds_toArray,List.set_cons_succ,List.set_cons_zero]))
   | ((with_reducible refine lC ?_ (fun u=>HLh.out u.w (lG Hb3.out u)) ?_);(exact rfl);(simp only [Act.put,List.setIfInBounds_toArray,List.set_cons_succ,List.set_cons_zero]))
   | go_big_quiet_step ((first | (go_at_call 132;exact bP _ (HCt.out _)) | (go_at_call 28;exact bP _ (HPl.out _ (Below.step Hn0.out (Lies.h _) (Nat.le_refl _)))))))
  refine wpQuiet_nil ?_;exact rfl
 case r3=>intro c hc;cases hc
 case c3=>intro c hc;cases hc
 case q3=>
  intro pp v6 n6 hall;clear hall;simp only [fR,List.drop_succ_cons,List.drop_zero];have L3:Hid _:=ab K3.out n6 b5;have L6:Hid _:=ab K6.out n6 (by omega);have L7:Hid _:=ab K7.out n6 (by omega);have n7:=Below.step n5 n6 (Nat.le_refl _);have O7:Hid _:=OwnC.keep O5.out n6 hg3;have HS6:Hid _:=bu (P:=Tryz.prog) (T:=93) (V:=D) L6.out (by rw [hsz2];exact cD) (by rw [hsz2,aS]) hone;have M6:Hid _:=a6 (V:=D) L6.out (by rw [hsz2,aS]);have M7:Hid _:=fx L7.out 0 D.toList (show w.heap.size+2≠w.heap.size+1 by omega);have n8:=aZ (show w.heap.size≤w.heap.size+1 by omega) D.toList 0 v6 n7;have O8:Hid _:=OwnC.gb O7.out (aM (w.heap.size+1) D.toList 0 v6 v6 (az v6 _)) (show g4≠w.heap.size+1 by omega);have HS7:Hid _:=bu (P:=Tryz.prog) (T:=56) (V:=tv) M7.out (by rw [tvs];exact pG) tvs HTo.out;have N7:Hid _:=a6 (V:=tv) M7.out tvs;have N6:Hid _:=fx M6.out 0 tv.toList (show w.heap.size+1≠w.heap.size+2 by omega);have n9:=aZ (show w.heap.size≤w.heap.size+2 by omega) tv.toList 0 _ n8;have O9:Hid _:=OwnC.gb O8.out (aM (w.heap.size+2) tv.toList 0 _ _ (az _ _)) (show g4≠w.heap.size+2 by omega);go_wp2_with (first
   | ((with_reducible refine av ?_ ?_ HS6.out ?_);(exact rfl);(exact rfl))
   | ((with_reducible refine av ?_ ?_ HS7.out ?_);(exact rfl);(exact rfl)))
  refine sF (b:=w.heap.size+1) (c:=w.heap.size+2) Tryz.results185 rfl rfl (ba (P:=Tryz.prog) N6.out Tryz.underlying93 rfl (by rw [hsz2];exact cD)) (ba (P:=Tryz.prog) N7.out Tryz.underlying56 rfl (by rw [tvs];exact pG)) rfl ?_;refine ⟨⟨p,some ⟨g4,0,none⟩,cap4,by rw [HE.out,HTw.out];rfl,?_,fun q hq=>.inl hq,fun q hq=>by cases hq;exact .inr (show w.heap.size≤g4 by omega)⟩,n9⟩;refine ⟨HI.out.h.keep n9,?_,?_,⟨fun h=>(by cases h),fun q hq=>by cases hq;rfl⟩,?_,fun q hq=>by cases hq;exact (OwnC.facts O9.out).2.2.1⟩
  ·show RowC _ _ (r.looks++[(kind,va)]).length 2 _;rw [List.length_append,HN.out];exact OwnC.row O9.out
  ·show (r.looks++[(kind,va)]).length≤_∧_;rw [List.length_append,HN.out];exact HC4.out
  ·show (r.looks++[(kind,va)]).length≤_;rw [List.length_append,HN.out];show N+1≤8;omega
end Go.Proofs.YthekickjjaleaaaGreat
