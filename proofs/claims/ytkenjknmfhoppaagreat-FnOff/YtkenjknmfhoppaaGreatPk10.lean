import Derived.Test.YtkenjknmfhoppaaGreatPk09
namespace Go.Proofs.YtkenjknmfhoppaaGreat
open Go.RowKit
set_option linter.unusedVariables false
set_option maxHeartbeats 6400000
set_option maxRecDepth 20000
theorem Bg:(Tryz.prog.info? 182).map (·.size)=some 2:=by kernel_rfl
theorem Tryz.infoLk:(Tryz.prog.info? 66).map (fun i=>(i.zero,i.size,i.bytes))=some (some (.agg #[VI 0,VU 0]),2,16):=by kernel_rfl
theorem ug (ls:List (Int × Int)):∀u∈fH ls,u.oneCell'=true:=by
 induction ls with
 | nil=>intro u hu;cases hu
 | cons l ls ih=>
  intro u hu;simp only [fH,List.mem_cons] at hu;rcases hu with rfl | rfl | hu
  ·rfl
  ·rfl
  ·exact ih u hu
theorem Bh (a b:List (Int × Int)):fH (a++b)=fH a++fH b:=by
 induction a with
 | nil=>rfl
 | cons l a ih=>simp [fH,ih]
theorem F6 {P:Program} {fn:Func} {R:Ending->World->Prop} {a:Act} {w:World} {s t:Tmp} {T U:TypeId} {b c:Nat} {V W:Value} (hr:fn.results=#[ResultVar.cell s T,ResultVar.cell t U]) (hs:a.tmps[s]?=some (PT b 0)) (ht:a.tmps[t]?=some (PT c 0)) (hl:(loadVar T (AD b 0)).run P w=.ok V w) (hm:(loadVar U (AD c 0)).run P w=.ok W w) (hd:a.defers=[]) (hR:R (.returned (.tuple #[V,W])) w):bodyPost P fn R .ret a w:=by
 refine bodyPost_ret (v:=.tuple #[V,W]) ?_ hd hR;simp [results,hr,hs,ht,asAddr,hl,hm,Sem.run_bind]
theorem qy (p:PtrM) (al:Option Addr) (cl:Nat) (pick:Int) (r:RunM) (kind va:Int) (w:World) (hr:RunIn w p al cl r) (hk:ROk r) (hpk:0<=pick∧pick<=255) (hkd:0<=kind∧kind<=2) (hv:inU va) (hll:r.looks.length<=7):
 Calls Tryz.prog 92 #[.agg (aF p al cl true pick r),VI kind,VU va] w fun e w'=>(∃p' al' cl',e=.returned (.tuple #[.agg (aF p' al' cl' true pick (bf true pick r kind va)),gL (aV true pick r.h kind va).1])∧RunIn w' p' al' cl' (bf true pick r kind va)∧From w.heap.size p p'∧FromL w.heap.size al al')∧Bw w w':=by
 have hmem:=iO hk.h.v.size;have HI:=hid hr;have HOK:=hid hk;have HLk:=hid hr.looks;have HLa:=hid hr.looka;have HP:Hid (∀g cap,(aF p al cl true pick r).setIfInBounds 25 (SL g (r.looks.length+1) cap)=aF p (some (AD g 0)) cap true pick ⟨r.h,r.cause,r.tval,r.looks++[(kind,va)],r.fenced,r.fence⟩):=fun g cap=>by
  unfold aF;simp
 have hsz:=bZ p al cl true pick r;have g25:(aF p al cl true pick r)[25]?=some (.slice al r.looks.length cl):=rfl;have HO:=hid (dO p al cl true pick r);generalize aF p al cl true pick r=C at *;obtain ⟨N,hN⟩:∃N,r.looks.length=N:=⟨_,rfl⟩;rw [hN] at HLk HLa HP g25 hll;have HN:=hid hN;clear hr hN hk;go_enter Tryz.func92,Tryz.ntmps92;go_upto_region 1 with fail;obtain ⟨v1,Ev1,F⟩:=ax3 w C eV #[VI 0,VU 0] 61 61 182;rw [Ev1.out];clear Ev1;obtain ⟨h3,h6,h7,l1,n1⟩:=F;have H3:Hid _:=h3;have H6:Hid _:=h6;have H7:Hid _:=h7;have b1:w.heap.size<v1.heap.size:=by omega
 have b2:w.heap.size+1<v1.heap.size:=by omega
 have b3:w.heap.size+2<v1.heap.size:=by omega
 have c25:=ab h3 25 g25;have OE:=OwnC.new 66 2 v1 [] 0 rfl (by decide);have nE:=(Below.refl v1.heap.size v1).alloc nle (Obj.cells #[] 66);clear h3 h6 h7 l1;go_upto_region 2 with (at_builtin;first
  | (refine hU _ rfl (.tmp 9) (.tmp 11) 57 rfl 66 Tryz.underlying57 (.agg #[VI 0,VU 0]) 2 16 Tryz.infoLk rfl (by decide) v1.heap.size v1.heap.size 0 0 [] rfl OE al N cl (fH r.looks) rfl HLa.out.1 HLa.out.2 (RowC.keep (RowC.keep HLk.out n1) nE) (ug _) (by omega) (by omega) v1.heap.size v1 nE nle ?_;intro g2 cap2 v2 o2 n2;have n3:=(Below.refl v2.heap.size v2).alloc nle (Obj.cells #[VI kind,VU va] 66);have n23:=bst n2 n3;simp only [Nat.zero_add,List.nil_append] at o2 |-;have o3:=OwnC.keep o2 n3 o2.facts.2.2.1;have q3:=(OwnC.new 66 2 v2 (fH [(kind,va)]) 1 rfl (by decide)).row;have z2:=n2.size;clear OE nE)
  | (refine hU _ rfl (.tmp 12) (.tmp 16) 57 rfl 66 Tryz.underlying57 (.agg #[VI 0,VU 0]) 2 16 Tryz.infoLk rfl (by decide) v1.heap.size g2 N cap2 (fH r.looks) rfl o3 (some (AD v2.heap.size 0)) 1 1 (fH [(kind,va)]) rfl (fun h=>(by cases h)) (fun q hq=>by cases hq;rfl) q3 (ug _) (by omega) (by omega) v1.heap.size v1 n23 nle ?_;intro g4 cap4 v4 o4 n4;have k3:=ae H3.out n4 b1;have c25:=ab k3 25 g25;have f25:=ap k3 25;have b4:=ltl b1 n4.size;clear o2 o3 q3 n2 n3 n23 z2))
 have f4:=o4.facts;have hg1:=f4.2.1;have hg2:=f4.2.2.1;have HC4:Hid (N+1<=cap4∧cap4<=9223372036854775807):=⟨f4.2.2.2.1,by have:=f4.2.2.2.2;unfold maxLen at this;exact this⟩;have ng':g4≠w.heap.size:=by omega
 have K3:Hid _:=bC k3 25 (SL g4 (N+1) cap4);have K6:Hid _:=cx (ae H6.out n4 b2) 25 (SL g4 (N+1) cap4) (show w.heap.size+1≠w.heap.size by omega);have K7:Hid _:=cx (ae H7.out n4 b3) 25 (SL g4 (N+1) cap4) (show w.heap.size+2≠w.heap.size by omega);have n5:=bP (bst n1 n4) nle 25 (SL g4 (N+1) cap4);have O5:Hid (OwnC 66 2 (v4.setCell (AD w.heap.size 25) (SL g4 (N+1) cap4)) v1.heap.size g4 (N+1) cap4 (fH (r.looks++[(kind,va)]))):=by
  rw [Bh];exact OwnC.gb o4 (au (ak v4 (some w.heap.size)) 25 (SL g4 (N+1) cap4)) ng'
 have z5:v1.heap.size<=(v4.setCell (AD w.heap.size 25) (SL g4 (N+1) cap4)).heap.size:=by simp;exact n4.size
 have hg3:g4<(v4.setCell (AD w.heap.size 25) (SL g4 (N+1) cap4)).heap.size:=by simp;exact hg2
 generalize v4.setCell (AD w.heap.size 25) (SL g4 (N+1) cap4)=v5 at K3 K6 K7 n5 O5 z5 hg3 |-;have HE:Hid _:=HP.out g4 cap4;have hsz2:(C.setIfInBounds 25 (SL g4 (N+1) cap4)).size=31:=by simp only [Array.size_setIfInBounds,hsz]
 have hone:=qx HO.out 25 (v:=SL g4 (N+1) cap4) rfl;generalize C.setIfInBounds 25 (SL g4 (N+1) cap4)=D at K3 HE hsz2 hone;clear o4 f4 k3 c25 f25 n4 H3 H6 H7 hg2 n1 HLk HLa;have HD:=HE.out;have g21:D[21]?=some (.bool true):=by rw [HD];rfl
 have g22:D[22]?=some (VI pick):=by rw [HD];rfl
 have g0:D[0]?=some (.slice p.am r.h.mem.length p.cm):=by rw [HD];rfl
 have HDh:Hid ((D.toList.drop 0).take 21=(aj p r.h).toList):=by show _=_;rw [HD];rfl
 have HDk:Hid ((D.toList.drop 12).take 9=(kA p r.h.k).toList):=by show _=_;rw [HD];rfl
 clear HD;have c21:=ab K3.out 21 g21;have b5:w.heap.size<v5.heap.size:=by omega
 go_upto_region 3 with fail;clear c21;obtain ⟨M,hM⟩:∃M,r.h.mem.length=M:=⟨_,rfl⟩;rw [hM] at g0;have HPl:Hid (∀u,Bw w u->Calls Tryz.prog 124 #[.slice p.am M p.cm,iH r.h.mode r.h.sum r.h.mxr r.h.satp,VI kind,VU va] u fun e w'=>e=.returned (gL (aV true pick r.h kind va).1)∧Bw u w'):=fun u hu=>by
  have hB:=HI.out.h.mem.keep hu;rw [hM] at hB;exact ux p.am M p.cm r.h.mem r.h.mode r.h.sum r.h.mxr r.h.satp kind va u (by omega) (by have:=HI.out.h.memc.1;omega) HI.out.h.memc.2 HOK.out.h.satp.1 HOK.out.h.satp.2 hv.1 hv.2 hB
 have HCt:=hid fun u=>vH p r.h u;have HLh:=hid fun (u:World) (hu:u.heap[w.heap.size]?=some (.cells D 61 (0,0)))=>ez (P:=Tryz.prog) (T:=43) hu Tryz.underlying43 rfl (o:=0) (aj p r.h).toList fm HDh.out rfl;have HLr:=hid fun (u:World) (hu:u.heap[w.heap.size]?=some (.cells D 61 (0,0)))=>aT (P:=Tryz.prog) (T:=61) hu Tryz.underlying61 rfl (by rw [hsz2];exact dx);have hMl:M<=4096:=by omega
 clear hM hmem;generalize aj p r.h=E at *;have HTV:Hid (∃tv,gL (aV true pick r.h kind va).1=.agg tv∧tv.size=2∧tv.all (·.oneCell')=true):=⟨_,rfl,rfl,by simp [Value.oneCell']⟩;obtain ⟨tv,htv,tvs,tvo⟩:=HTV.out;rw [htv] at HPl;have HTw:Hid _:=htv;clear htv HTV;have HTo:=hid tvo;clear tvo;have HL0:Hid (∀u:World,u.heap[w.heap.size]?=some (.cells D 61 (0,0))->(Instr.loadAt 22 (PT w.heap.size 0)).run Tryz.prog u=.ok (.slice p.am M p.cm) u):=fun u hu=>by
  have h1:=ab hu 0 g0;go_simp
 have nD:=bdr v5;have hF:v5.drew.heap[w.heap.size]?=some (.cells D 61 (0,0)):=K3.out;refine az (fun u=>u.heap[w.heap.size]?=some (.cells D 61 (0,0))) 10 ?_;refine ao 0 21 (.agg D) rfl hF ?_ (hy:=fun u hu=>aK rfl (HLr.out u hu))
 go_frame
 refine ao 1 22 (PT w.heap.size 0) rfl hF ?_;refine ao 2 23 (PT w.heap.size 0) rfl hF ?_
 go_frame
 refine ao 3 24 (.slice p.am M p.cm) rfl hF ?_ (hy:=fun u hu=>aK rfl (HL0.out u hu));refine ao 4 25 (PT w.heap.size 0) rfl hF ?_
 go_frame
 refine ao 5 26 (.agg E) rfl hF ?_ (hy:=fun u hu=>aK rfl (HLh.out u hu));refine ao 7 28 (VI kind) rfl hF ?_;refine ao 8 29 (VU va) rfl hF ?_
 go_frame
 refine cW 6 27 rfl (f:=54) (args:=#[.agg E]) ?_;refine Calls.mono (HCt.out v5.drew) ?_;rintro e u6 ⟨rfl,m6⟩;replace m6:=bst nD m6;refine ⟨_,rfl,fun _=>ae K3.out m6 b5,?_⟩
 go_frame
 refine cW 9 30 rfl (f:=124) (args:=#[.slice p.am M p.cm,iH r.h.mode r.h.sum r.h.mxr r.h.satp,VI kind,VU va]) ?_;refine (HPl.out u6 (bst n5 m6)).mono ?_;rintro e v6 ⟨rfl,n6⟩;replace n6:=bst m6 n6;refine ⟨_,rfl,fun _=>ae K3.out n6 b5,?_⟩
 go_frame
 have L6:Hid _:=ae K6.out n6 (by omega);have L7:Hid _:=ae K7.out n6 (by omega);have n7:=bst n5 n6;have O7:Hid _:=OwnC.keep O5.out n6 hg3;have HS6:Hid _:=aR (P:=Tryz.prog) (T:=61) (V:=D) L6.out (by rw [hsz2];exact dx) (by rw [hsz2,aS]) hone;have M6:Hid _:=aH (V:=D) L6.out (by rw [hsz2,aS]);have M7:Hid _:=iw L7.out 0 D.toList (show w.heap.size+2≠w.heap.size+1 by omega);have n8:=aJ (show w.heap.size<=w.heap.size+1 by omega) D.toList 0 v6 n7;have O8:Hid _:=OwnC.gb O7.out (aG (w.heap.size+1) D.toList 0 v6 v6 (ak v6 _)) (show g4≠w.heap.size+1 by omega);have HS7:Hid _:=aR (P:=Tryz.prog) (T:=182) (V:=tv) M7.out (by rw [tvs];exact Bg) tvs HTo.out;have N7:Hid _:=aH (V:=tv) M7.out tvs;have N6:Hid _:=iw M6.out 0 tv.toList (show w.heap.size+1≠w.heap.size+2 by omega);have n9:=aJ (show w.heap.size<=w.heap.size+2 by omega) tv.toList 0 _ n8;have O9:Hid _:=OwnC.gb O8.out (aG (w.heap.size+2) tv.toList 0 _ _ (ak _ _)) (show g4≠w.heap.size+2 by omega);refine ey 10 6 21 rfl HS6.out ?_;refine ey 11 7 30 rfl HS7.out ?_;refine dJ ?_;go_wp2_with fail;refine F6 (b:=w.heap.size+1) (c:=w.heap.size+2) Tryz.results92 rfl rfl (bE (P:=Tryz.prog) N6.out Tryz.underlying61 rfl (by rw [hsz2];exact dx)) (bE (P:=Tryz.prog) N7.out Tryz.underlying182 rfl (by rw [tvs];exact Bg)) rfl ?_;refine ⟨⟨p,some (AD g4 0),cap4,by rw [HE.out,HTw.out];rfl,?_,fun q hq=>.inl hq,fun q hq=>by cases hq;exact .inr (show w.heap.size<=g4 by omega)⟩,n9⟩;refine ⟨HI.out.h.keep n9,?_,?_,⟨fun h=>(by cases h),fun q hq=>by cases hq;rfl⟩,?_,fun q hq=>by cases hq;exact (OwnC.facts O9.out).2.2.1⟩
 ·show RowC _ _ (r.looks++[(kind,va)]).length 2 _;rw [List.length_append,HN.out];exact OwnC.row O9.out
 ·show (r.looks++[(kind,va)]).length<=_∧_;rw [List.length_append,HN.out];exact HC4.out
 ·show (r.looks++[(kind,va)]).length<=_;rw [List.length_append,HN.out];show N+1<=8;omega
def Hx:Prop:=∀(p:PtrM) (al:Option Addr) (cl:Nat) (pick:Int) (r:RunM) (kind va:Int) (w:World) (hr:RunIn w p al cl r) (hk:ROk r) (hpk:0<=pick∧pick<=255) (hkd:0<=kind∧kind<=2) (hv:inU va) (hll:r.looks.length<=7),Calls Tryz.prog 92 #[.agg (aF p al cl false pick r),VI kind,VU va] w fun e w'=>(∃p' al' cl',e=.returned (.tuple #[.agg (aF p' al' cl' false pick (bf false pick r kind va)),gL (aV false pick r.h kind va).1])∧RunIn w' p' al' cl' (bf false pick r kind va)∧From w.heap.size p p'∧FromL w.heap.size al al')∧Bw w w'
def PlC (plain:Bool):Prop:=plain=true∨Hx
theorem rd (y:Int):((ac y).sets=1∨(ac y).sets=2∨(ac y).sets=4∨(ac y).sets=8)∧(1<=(ac y).ways∧(ac y).ways<=4)∧((ac y).es.length:Int)=(ac y).sets*(ac y).ways∧(ac y).es.length<=32:=by
 have hm:y%4=0∨y%4=1∨y%4=2∨y%4=3:=by omega
 have hw:y/4%4=0∨y/4%4=1∨y/4%4=2∨y/4%4=3:=by omega
 unfold ac;rcases hm with h | h | h | h <;> rcases hw with k | k | k | k <;> rw [h,k] <;> simp only [List.length_replicate] <;> decide
theorem kB (y:Int):gy (ac y):=by
 obtain ⟨h1,h2,h3,h4⟩:=rd y;refine ⟨?_,by omega,by omega,by omega⟩;intro e he;unfold ac at he;have:=(List.mem_replicate.1 he).2;subst this;simp [iW,cZ]
theorem xC (y:Int) (p:Bool):aY (ac y) p=true:=by
 obtain ⟨h1,h2,h3,h4⟩:=rd y;unfold aY;rw [Bool.and_eq_true];refine ⟨by simp only [lE,decide_eq_true_eq];exact ⟨h1,h2.1,h2.2,h3⟩,il _ p _ 0 (fun j x hx=>?_)⟩;have hm:=List.mem_of_getElem? hx;unfold ac at hm;have:=(List.mem_replicate.1 hm).2;subst this;simp [dy,cZ]
theorem Aa (b:List Int) (hb:∀i:Nat,0<=b[i]?.getD 0∧b[i]?.getD 0<=255):∀(m i a:Nat) (mem:List Int),(∀z∈mem,0<=z∧z<=255)->(jW b m i a mem).length=mem.length∧∀z∈jW b m i a mem,0<=z∧z<=255
 | 0,i,a,mem,h=>⟨rfl,h⟩
 | m+1,i,a,mem,h=>by
  rw [jW];split
  ·have:=Aa b hb m (i+1) (a+1) (mem.set a (atM b i)) (fun z hz=>by
    rcases List.mem_or_eq_of_mem_set hz with hz | rfl
    ·exact h z hz
    ·exact hb i)
   rw [List.length_set] at this;exact this
  ·exact Aa b hb m (i+1) (a+1) mem h
theorem Bl (b:List Int) (hb:∀i:Nat,0<=b[i]?.getD 0∧b[i]?.getD 0<=255):∀(n i:Nat) (mem:List Int),(∀z∈mem,0<=z∧z<=255)->(gY b n i mem).1.length=mem.length∧∀z∈(gY b n i mem).1,0<=z∧z<=255
 | 0,i,mem,h=>⟨rfl,h⟩
 | n+1,i,mem,h=>by
  have h1:=Aa b hb (atM b (i+2)).toNat (i+3) (oQ b i) mem h;have h2:=Bl b hb n (i+3+(atM b (i+2)).toNat) _ h1.2;rw [gY];exact ⟨h2.1.trans h1.1,h2.2⟩
theorem mX {zs:List Int} (h:∀i:Nat,0<=zs[i]?.getD 0∧zs[i]?.getD 0<=255) (i:Nat):inU (cE zs i):=by
 unfold cE;have:=my ((List.range 8).map fun k=>atM zs (i+k)) 8 (fun z hz=>by
  simp only [List.mem_map] at hz;obtain ⟨j,_,rfl⟩:=hz;exact h _) (by simp)
 unfold inU;omega
theorem la {zs:List Int} (h:∀i:Nat,0<=zs[i]?.getD 0∧zs[i]?.getD 0<=255):HOk (aI zs):=by
 have h3:=h 3;have hm:=Bl zs h (atM zs 87).toNat 88 (List.replicate (64*(1+(atM zs 3%64).toNat)) 0) (fun z hz=>by rw [(List.mem_replicate.1 hz).2];omega);rw [List.length_replicate] at hm;have hmode:0<=co (atM zs 4)∧co (atM zs 4)<=2:=by
  unfold co;split <;> omega
 have hsat:du (if du (cE zs 23)=true then cE zs 23 else 0)=true:=by
  split
  ·assumption
  ·rfl
 refine ⟨(eh _).2 ⟨?_,?_,?_,hmode,hmode,hsat,?_,?_,?_⟩,?_,?_,mX h 7,?_,?_,?_,?_,⟨kB _,kB _,kB _⟩⟩
 ·show eR (pF zs).1.length=true;unfold pF;rw [hm.1];simp only [eR,decide_eq_true_eq];have:(atM zs 3%64).toNat<=63:=by omega
  omega
 ·simp [aI,jm]
 ·rfl
 ·show (cE zs 15/4*4)%4=0;omega
 ·show 0<=(0:Int)∧(0:Int)<=63;omega
 ·show cS ⟨ac (atM zs 0),ac (atM zs 1),ac (atM zs 2)⟩=true;simp only [cS,xC,Bool.and_self]
 ·show iN (pF zs).1;intro i;unfold pF;cases hx:(gY zs (atM zs 87).toNat 88 (List.replicate (64*(1+(atM zs 3%64).toNat)) 0)).1[i]? with
  | none=>exact ⟨by simp,by simp⟩
  | some x=>
   have:=hm.2 x (List.mem_of_getElem? hx);simpa using this
 ·show sC (jm zs);intro i;cases hx:(jm zs)[i]? with
  | none=>exact ⟨by simp,by simp⟩
  | some x=>
   have hmem:=List.mem_of_getElem? hx;simp only [jm,List.mem_cons,List.mem_map] at hmem;have:inU x:=by
    rcases hmem with rfl | ⟨j,_,rfl⟩
    ·simp [inU]
    ·exact mX h _
   simpa [inU] using this
 ·show inU (if du (cE zs 23)=true then cE zs 23 else 0);split
  ·exact mX h 23
  ·simp [inU]
 ·show inU (cE zs 15/4*4);have:=mX h 15;unfold inU at this |-;omega
 ·show inU 0;simp [inU]
 ·show inU 0;simp [inU]
end Go.Proofs.YtkenjknmfhoppaaGreat
