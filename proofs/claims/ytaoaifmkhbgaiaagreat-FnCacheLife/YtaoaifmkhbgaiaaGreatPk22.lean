import Derived.Test.YtaoaifmkhbgaiaaGreatPk20
import Derived.Test.YtaoaifmkhbgaiaaGreatPk21
import Derived.Test.YtaoaifmkhbgaiaaGreatPk15
import Derived.Test.YtaoaifmkhbgaiaaGreatPk17
namespace Go.Proofs.YtaoaifmkhbgaiaaGreat
open Go.RowKit
set_option linter.unusedVariables false
theorem gc (a:Option Addr) (len cap:Nat) (zs:List Int) (mode:Int) (sum mxr:Bool) (satp:Int) (v:Value) (k:KM) (kind va pick:Int) (w:World) (h:KAt w v k) (hB:Byt w a len zs) (hlen:len≤1048576) (hcap:len≤cap) (hcm:cap≤9223372036854775807)
 (hv0:0≤va) (hv1:va≤18446744073709551615) (hs0:0≤satp) (hs1:satp≤18446744073709551615):
 Calls Tryz.prog 8 #[.slice a len cap,dx mode sum mxr satp,v,.int .i64 kind,.int .u64 va,.int .i64 pick] w fun e w'=>(∃x,e=.returned x∧TransOwn w.heap.size w' x (ak zs mode sum mxr satp k kind va pick))∧Below w.heap.size w w':=by
 have hko:ex k.i∧ex k.d:=by
  obtain ⟨_,_,_,_,_,_,_,t1,t2,_⟩:=h;exact ⟨TlbAt.ok t1,TlbAt.ok t2⟩
 unfold ak;split
 ·rename_i hbad;exact sG a len cap mode sum mxr satp v k kind va pick w h hbad
 ·rename_i hbad;have hgood:aV k=true:=by
   cases hg:aV k
   ·exact absurd (.inl hg) hbad
   ·rfl
  have h0:0≤kind:=by omega
  have h1:kind≤2:=by omega
  have h2:0≤mode:=by omega
  have h3:mode≤2:=by omega
  have h4:0≤pick:=by omega
  have h5:pick≤255:=by omega
  split
  ·rename_i hon;exact sI a len cap mode sum mxr satp v k kind va pick w h hgood h0 h1 h2 h3 h4 h5 hs0 hs1 hon
  ·rename_i hon;have hon:onM mode satp=true:=by simpa using hon
   split
   ·rename_i hcan;exact qI a len cap mode sum mxr satp v k kind va pick w h hgood h0 h1 h2 h3 h4 h5 hs0 hs1 hon hv0 hv1 hcan
   ·rename_i hcan;have hcan:bW va=true:=by simpa using hcan
    by_cases hk:kind=0
    ·rw [show cM k kind=k.i from if_pos hk];split
     ·rename_i hf;have hl:=qR k.i va (ay satp) hko.1.1 hf;exact me.2 a len cap mode sum mxr satp v k kind va pick w h hgood h0 h1 h2 h3 h4 h5 hs0 hs1 hon hk hv0 hv1 hcan hf hl.1 hl.2
     ·rename_i hf;have:=lm.2 a len cap mode sum mxr satp v k kind va pick w h hgood h0 h1 h2 h3 h4 h5 hs0 hs1 hon hk zs hB hlen hcap hcm hv0 hv1 hcan (by simpa using hf);unfold je at this;rw [show cM k kind=k.i from if_pos hk] at this;exact this
    ·rw [show cM k kind=k.d from if_neg hk];split
     ·rename_i hf;have hl:=qR k.d va (ay satp) hko.2.1 hf;exact me.1 a len cap mode sum mxr satp v k kind va pick w h hgood h0 h1 h2 h3 h4 h5 hs0 hs1 hon hk hv0 hv1 hcan hf hl.1 hl.2
     ·rename_i hf;have:=lm.1 a len cap mode sum mxr satp v k kind va pick w h hgood h0 h1 h2 h3 h4 h5 hs0 hs1 hon hk zs hB hlen hcap hcm hv0 hv1 hcan (by simpa using hf);unfold je at this;rw [show cM k kind=k.d from if_neg hk] at this;exact this
end Go.Proofs.YtaoaifmkhbgaiaaGreat

namespace Go.Proofs.YtaoaifmkhbgaiaaGreat
open Go.RowKit
set_option linter.unusedVariables false
theorem sy:(Tryz.prog.info? 43).map (·.size)=some 2:=by kernel_rfl
theorem Tryz.infoLk:(Tryz.prog.info? 225).map (fun i=>(i.zero,i.size,i.bytes))=some (some (.agg #[.int .i64 0,.int .u64 0]),2,16):=by kernel_rfl
theorem kX (ls:List (Int × Int)):∀u∈eQ ls,u.oneCell'=true:=by
 induction ls with
 | nil=>intro u hu;cases hu
 | cons l ls ih=>
  intro u hu;simp only [eQ,List.mem_cons] at hu;rcases hu with rfl | rfl | hu
  ·rfl
  ·rfl
  ·exact ih u hu
theorem sA (a b:List (Int × Int)):eQ (a++b)=eQ a++eQ b:=by
 induction a with
 | nil=>rfl
 | cons l a ih=>simp [eQ,ih]
theorem qf {base size n:Nat} {e:TypeId} {w:World} {s:Value} {cs:List Value} (h:w.ownsRow base e size s n cs):∃a c,s=.slice a n c:=by
 have h1:=h.1;rcases h.2 with ⟨h2,h3⟩ | ⟨g',cap',cur,h2,_⟩
 ·exact ⟨none,0,by rw [h2,h3]⟩
 ·exact ⟨some ⟨g',0,none⟩,cap',h2⟩
def cI (q:PtrM) (r:(Int × Int) × KM):Array Value:=#[.int .i64 r.1.1,.int .u64 r.1.2,.int .i64 r.2.i.sets,.int .i64 r.2.i.ways,.slice q.a1 r.2.i.es.length q.c1,.int .i64 r.2.d.sets,.int .i64 r.2.d.ways,.slice q.a2 r.2.d.es.length q.c2,.int .i64 r.2.p.sets,.int .i64 r.2.p.ways,.slice q.a3 r.2.p.es.length q.c3]
theorem TransOwn.open {base:Nat} {w:World} {x:Value} {r:(Int × Int) × KM} (h:TransOwn base w x r) (p:PtrM):∃a1 c1 a2 c2 a3 c3,x=.agg (cI (pK p a1 c1 a2 c2 a3 c3) r)∧KRows base w (pK p a1 c1 a2 c2 a3 c3) r.2:=by
 obtain ⟨s1,s2,s3,rfl,o1,o2,o3⟩:=h;obtain ⟨a1,c1,rfl⟩:=qf o1;obtain ⟨a2,c2,rfl⟩:=qf o2;obtain ⟨a3,c3,rfl⟩:=qf o3;exact ⟨a1,c1,a2,c2,a3,c3,rfl,o1,o2,o3⟩
theorem wA {P:Program} {fn:Func} {R:Ending→World→Prop} {a:Act} {w:World} {s t:Tmp} {T U:TypeId} {b c:Nat} {V W:Value} (hr:fn.results=#[ResultVar.cell s T,ResultVar.cell t U]) (hs:a.tmps[s]?=some (.pointer (some ⟨b,0,none⟩))) (ht:a.tmps[t]?=some (.pointer (some ⟨c,0,none⟩))) (hl:(loadVar T ⟨b,0,none⟩).run P w=.ok V w) (hm:(loadVar U ⟨c,0,none⟩).run P w=.ok W w) (hd:a.defers=[]) (hR:R (.returned (.tuple #[V,W])) w):bodyPost P fn R .ret a w:=by
 refine bodyPost_ret (v:=.tuple #[V,W]) ?_ hd hR;simp [results,hr,hs,ht,asAddr,hl,hm,Sem.run_bind]
set_option maxRecDepth 20000 in
set_option maxHeartbeats 3200000 in
theorem pE (p:PtrM) (al:Option Addr) (cl:Nat) (pick:Int) (r:RunM) (kind va:Int) (w:World) (hr:RunIn w p al cl r) (hk:ROk r) (hpk:0≤pick∧pick≤255) (hkd:0≤kind∧kind≤2) (hv:inU va) (hll:r.looks.length≤7):
 Calls Tryz.prog 146 #[.agg (aK p al cl true pick r),.int .i64 kind,.int .u64 va] w fun e w'=>(∃p' al' cl',e=.returned (.tuple #[.agg (aK p' al' cl' true pick (dm true pick r kind va)),eS (cV true pick r.h kind va).1])∧RunIn w' p' al' cl' (dm true pick r kind va)∧From w.heap.size p p'∧FromL w.heap.size al al')∧Below w.heap.size w w':=by
 have hmem:=fO hk.h.v.size;have HI:Hid (RunIn w p al cl r):=hr;have HOK:Hid (ROk r):=hk;have HLk:Hid (RowC w al r.looks.length 2 (eQ r.looks)):=hr.looks;have HLa:Hid ((al=none→r.looks.length=0∧cl=0)∧∀q,al=some q→q.spot=none):=hr.looka;have HP:Hid (∀g cap,(aK p al cl true pick r).setIfInBounds 25 (.slice (some ⟨g,0,none⟩) (r.looks.length+1) cap)=aK p (some ⟨g,0,none⟩) cap true pick ⟨r.h,r.cause,r.tval,r.looks++[(kind,va)],r.fenced,r.fence⟩):=fun g cap=>by
  unfold aK;simp
 have hsz:=bD p al cl true pick r;have g25:(aK p al cl true pick r)[25]?=some (.slice al r.looks.length cl):=rfl;have HO:Hid ((aK p al cl true pick r).all (·.oneCell')=true):=dU p al cl true pick r;generalize aK p al cl true pick r=C at *;obtain ⟨N,hN⟩:∃N,r.looks.length=N:=⟨_,rfl⟩;rw [hN] at HLk HLa HP g25 hll;have HN:Hid (r.looks.length=N):=hN;clear hr hN hk;go_enter Tryz.func146,Tryz.ntmps146;go_upto_region 1 with fail;have F:=xz w C ek #[.int .i64 0,.int .u64 0] 143 143 43;generalize ((w.alloc (Obj.cells C 143)).alloc (Obj.cells ek 143)).alloc (Obj.cells #[.int .i64 0,.int .u64 0] 43)=v1 at F ⊢;obtain ⟨h3,h6,h7,l1,n1⟩:=F;have H3:Hid _:=h3;have H6:Hid _:=h6;have H7:Hid _:=h7;have b1:w.heap.size<v1.heap.size:=by omega
 have b2:w.heap.size+1<v1.heap.size:=by omega
 have b3:w.heap.size+2<v1.heap.size:=by omega
 have c25:=ag h3 25 g25;have OE:=OwnC.new 225 2 v1 [] 0 rfl (by decide);have nE:=(Below.refl v1.heap.size v1).alloc (Nat.le_refl _) (Obj.cells #[] 225);clear h3 h6 h7 l1;go_upto_region 2 with (at_builtin;first
  | (refine iX _ rfl (.tmp 9) (.tmp 11) 141 rfl 225 Tryz.underlying141 (.agg #[.int .i64 0,.int .u64 0]) 2 16 Tryz.infoLk rfl (by decide) v1.heap.size v1.heap.size 0 0 [] rfl OE al N cl (eQ r.looks) rfl HLa.out.1 HLa.out.2 (RowC.keep (RowC.keep HLk.out n1) nE) (kX _) (by omega) (by omega) v1.heap.size v1 nE (Nat.le_refl _) ?_;intro g2 cap2 v2 o2 n2;have n3:=(Below.refl v2.heap.size v2).alloc (Nat.le_refl _) (Obj.cells #[.int .i64 kind,.int .u64 va] 225);have n23:=Below.step n2 n3 (Nat.le_refl _);simp only [Nat.zero_add,List.nil_append] at o2 ⊢;have o3:=OwnC.keep o2 n3 o2.facts.2.2.1;have q3:=(OwnC.new 225 2 v2 (eQ [(kind,va)]) 1 rfl (by decide)).row;have z2:=n2.size;clear OE nE)
  | (refine iX _ rfl (.tmp 12) (.tmp 16) 141 rfl 225 Tryz.underlying141 (.agg #[.int .i64 0,.int .u64 0]) 2 16 Tryz.infoLk rfl (by decide) v1.heap.size g2 N cap2 (eQ r.looks) rfl o3 (some ⟨v2.heap.size,0,none⟩) 1 1 (eQ [(kind,va)]) rfl (fun h=>(by cases h)) (fun q hq=>by cases hq;rfl) q3 (kX _) (by omega) (by omega) v1.heap.size v1 n23 (Nat.le_refl _) ?_;intro g4 cap4 v4 o4 n4;have k3:=ab H3.out n4 b1;have c25:=ag k3 25 g25;have f25:=aA k3 25;have b4:=Nat.lt_of_lt_of_le b1 n4.size;clear o2 o3 q3 n2 n3 n23 z2))
 have f4:=o4.facts;have hg1:v1.heap.size≤g4:=f4.2.1;have hg2:g4<v4.heap.size:=f4.2.2.1;have HC4:Hid (N+1≤cap4∧cap4≤9223372036854775807):=⟨f4.2.2.2.1,by have:=f4.2.2.2.2;unfold maxLen at this;exact this⟩;have ng':g4≠w.heap.size:=by omega
 have K3:Hid _:=da k3 25 (.slice (some ⟨g4,0,none⟩) (N+1) cap4);have K6:Hid _:=dJ (ab H6.out n4 b2) 25 (.slice (some ⟨g4,0,none⟩) (N+1) cap4) (show w.heap.size+1≠w.heap.size by omega);have K7:Hid _:=dJ (ab H7.out n4 b3) 25 (.slice (some ⟨g4,0,none⟩) (N+1) cap4) (show w.heap.size+2≠w.heap.size by omega);have n5:=dC (Below.step n1 n4 (Nat.le_refl _)) (Nat.le_refl _) 25 (.slice (some ⟨g4,0,none⟩) (N+1) cap4);have O5:Hid (OwnC 225 2 (v4.setCell ⟨w.heap.size,25,none⟩ (.slice (some ⟨g4,0,none⟩) (N+1) cap4)) v1.heap.size g4 (N+1) cap4 (eQ (r.looks++[(kind,va)]))):=by
  rw [sA];exact OwnC.gb o4 (ax (aE v4 (some w.heap.size)) 25 (.slice (some ⟨g4,0,none⟩) (N+1) cap4)) ng'
 have z5:v1.heap.size≤(v4.setCell ⟨w.heap.size,25,none⟩ (.slice (some ⟨g4,0,none⟩) (N+1) cap4)).heap.size:=by simp;exact n4.size
 have hg3:g4<(v4.setCell ⟨w.heap.size,25,none⟩ (.slice (some ⟨g4,0,none⟩) (N+1) cap4)).heap.size:=by simp;exact hg2
 generalize v4.setCell ⟨w.heap.size,25,none⟩ (.slice (some ⟨g4,0,none⟩) (N+1) cap4)=v5 at K3 K6 K7 n5 O5 z5 hg3 ⊢;have HE:Hid _:=HP.out g4 cap4;have hsz2:(C.setIfInBounds 25 (.slice (some ⟨g4,0,none⟩) (N+1) cap4)).size=31:=by simp only [Array.size_setIfInBounds,hsz]
 have hone:=mJ HO.out 25 (v:=.slice (some ⟨g4,0,none⟩) (N+1) cap4) rfl;generalize C.setIfInBounds 25 (.slice (some ⟨g4,0,none⟩) (N+1) cap4)=D at K3 HE hsz2 hone;clear o4 f4 k3 c25 f25 n4 H3 H6 H7 hg2 n1 HLk HLa;have HD:=HE.out;have g21:D[21]?=some (.bool true):=by rw [HD];rfl
 have g22:D[22]?=some (.int .i64 pick):=by rw [HD];rfl
 have g0:D[0]?=some (.slice p.am r.h.mem.length p.cm):=by rw [HD];rfl
 have HDh:Hid ((D.toList.drop 0).take 21=(aD p r.h).toList):=by show _=_;rw [HD];rfl
 have HDk:Hid ((D.toList.drop 12).take 9=(kA p r.h.k).toList):=by show _=_;rw [HD];rfl
 clear HD;have c21:=ag K3.out 21 g21;have b5:w.heap.size<v5.heap.size:=by omega
 go_upto_region 3 with fail;clear c21;obtain ⟨M,hM⟩:∃M,r.h.mem.length=M:=⟨_,rfl⟩;rw [hM] at g0;have HPl:Hid (∀u,Below w.heap.size w u→Calls Tryz.prog 14 #[.slice p.am M p.cm,dx r.h.mode r.h.sum r.h.mxr r.h.satp,.int .i64 kind,.int .u64 va] u fun e w'=>e=.returned (eS (cV true pick r.h kind va).1)∧Below u.heap.size u w'):=fun u hu=>by
  have hB:=HI.out.h.mem.keep hu;rw [hM] at hB;exact jD p.am M p.cm r.h.mem r.h.mode r.h.sum r.h.mxr r.h.satp kind va u (by omega) (by have:=HI.out.h.memc.1;omega) HI.out.h.memc.2 HOK.out.h.satp.1 HOK.out.h.satp.2 hv.1 hv.2 hB
 have HCt:Hid (∀u,Calls Tryz.prog 81 #[.agg (aD p r.h)] u fun e w'=>e=.returned (dx r.h.mode r.h.sum r.h.mxr r.h.satp)∧Below u.heap.size u w'):=fun u=>p8 p r.h u;have HLh:Hid (∀u:World,u.heap[w.heap.size]?=some (.cells D 143 (0,0))→(Instr.loadAt 48 (.pointer (some ⟨w.heap.size,0,none⟩))).run Tryz.prog u=.ok (.agg (aD p r.h)) u):=fun u hu=>co (P:=Tryz.prog) (T:=48) hu Tryz.underlying48 rfl (o:=0) (aD p r.h).toList fW HDh.out rfl;have HLr:Hid (∀u:World,u.heap[w.heap.size]?=some (.cells D 143 (0,0))→(Instr.loadAt 143 (.pointer (some ⟨w.heap.size,0,none⟩))).run Tryz.prog u=.ok (.agg D) u):=fun u hu=>aB (P:=Tryz.prog) (T:=143) hu Tryz.underlying143 rfl (by rw [hsz2];exact du);have hMl:M≤4096:=by omega
 clear hM hmem;generalize aD p r.h=E at *;have HTV:Hid (∃tv,eS (cV true pick r.h kind va).1=.agg tv∧tv.size=2∧tv.all (·.oneCell')=true):=⟨_,rfl,rfl,by simp [Value.oneCell']⟩;obtain ⟨tv,htv,tvs,tvo⟩:=HTV.out;rw [htv] at HPl;have HTw:Hid _:=htv;clear htv HTV;have HTo:Hid (tv.all (·.oneCell')=true):=tvo;clear tvo;refine qe [] 10 ?_ _ [(0,10)] (fun _ _ _=>True) (by kernel_rfl) (by kernel_rfl) (by kernel_rfl) rfl (by kernel_rfl) ?h3 ?r3 ?c3 ?q3
 case h3=>
  intro w0 hw0;have ne:=ej w0;have l0:=hw0.size;have hb3:=ab K3.out hw0 b5;have lw:w.heap.size<w0.heap.size:=by omega
  have y0:=aN (ag hb3 0 g0) lw;have Hb3:Hid _:=hb3;have Hn0:Hid _:=Below.step n5 hw0 (Nat.le_refl _);clear hb3;simp only [xB,List.take_succ_cons,List.take_zero,List.drop_zero,List.append_nil];repeat (first
   | ((with_reducible refine pz ?_ (fun u=>HLr.out u.w (pC Hb3.out u)) ?_);(exact rfl);(simp only [Act.put,List.setIfInBounds_toArray,List.set_cons_succ,List.set_cons_zero]))
   | ((with_reducible refine pz ?_ (fun u=>HLh.out u.w (pC Hb3.out u)) ?_);(exact rfl);(simp only [Act.put,List.setIfInBounds_toArray,List.set_cons_succ,List.set_cons_zero]))
   | go_big_quiet_step ((first | (go_at_call 81;exact cG _ (HCt.out _)) | (go_at_call 14;exact cG _ (HPl.out _ (Below.step Hn0.out (Lies.h _) (Nat.le_refl _)))))))
  refine wpQuiet_nil ?_;exact rfl
 case r3=>intro c hc;cases hc
 case c3=>intro c hc;cases hc
 case q3=>
  intro pp v6 n6 hall;clear hall;simp only [iG,List.drop_succ_cons,List.drop_zero];have L3:Hid _:=ab K3.out n6 b5;have L6:Hid _:=ab K6.out n6 (by omega);have L7:Hid _:=ab K7.out n6 (by omega);have n7:=Below.step n5 n6 (Nat.le_refl _);have O7:Hid _:=OwnC.keep O5.out n6 hg3;have HS6:Hid _:=bO (P:=Tryz.prog) (T:=143) (V:=D) L6.out (by rw [hsz2];exact du) (by rw [hsz2,a8]) hone;have M6:Hid _:=bs (V:=D) L6.out (by rw [hsz2,a8]);have M7:Hid _:=ia L7.out 0 D.toList (show w.heap.size+2≠w.heap.size+1 by omega);have n8:=bf (show w.heap.size≤w.heap.size+1 by omega) D.toList 0 v6 n7;have O8:Hid _:=OwnC.gb O7.out (aU (w.heap.size+1) D.toList 0 v6 v6 (aE v6 _)) (show g4≠w.heap.size+1 by omega);have HS7:Hid _:=bO (P:=Tryz.prog) (T:=43) (V:=tv) M7.out (by rw [tvs];exact sy) tvs HTo.out;have N7:Hid _:=bs (V:=tv) M7.out tvs;have N6:Hid _:=ia M6.out 0 tv.toList (show w.heap.size+1≠w.heap.size+2 by omega);have n9:=bf (show w.heap.size≤w.heap.size+2 by omega) tv.toList 0 _ n8;have O9:Hid _:=OwnC.gb O8.out (aU (w.heap.size+2) tv.toList 0 _ _ (aE _ _)) (show g4≠w.heap.size+2 by omega);go_wp2_with (first
   | ((with_reducible refine au ?_ ?_ HS6.out ?_);(exact rfl);(exact rfl))
   | ((with_reducible refine au ?_ ?_ HS7.out ?_);(exact rfl);(exact rfl)))
  refine wA (b:=w.heap.size+1) (c:=w.heap.size+2) Tryz.results146 rfl rfl (bj (P:=Tryz.prog) N6.out Tryz.underlying143 rfl (by rw [hsz2];exact du)) (bj (P:=Tryz.prog) N7.out Tryz.underlying43 rfl (by rw [tvs];exact sy)) rfl ?_;refine ⟨⟨p,some ⟨g4,0,none⟩,cap4,by rw [HE.out,HTw.out];rfl,?_,fun q hq=>.inl hq,fun q hq=>by cases hq;exact .inr (show w.heap.size≤g4 by omega)⟩,n9⟩;refine ⟨HI.out.h.keep n9,?_,?_,⟨fun h=>(by cases h),fun q hq=>by cases hq;rfl⟩,?_,fun q hq=>by cases hq;exact (OwnC.facts O9.out).2.2.1⟩
  ·show RowC _ _ (r.looks++[(kind,va)]).length 2 _;rw [List.length_append,HN.out];exact OwnC.row O9.out
  ·show (r.looks++[(kind,va)]).length≤_∧_;rw [List.length_append,HN.out];exact HC4.out
  ·show (r.looks++[(kind,va)]).length≤_;rw [List.length_append,HN.out];show N+1≤8;omega
end Go.Proofs.YtaoaifmkhbgaiaaGreat
