import Derived.Test.YtpdddbobhndbjaaGreatPk17
namespace Go.Proofs.YtpdddbobhndbjaaGreat
open Go.RowKit
set_option linter.unusedVariables false
set_option maxHeartbeats 6400000
set_option maxRecDepth 20000
theorem sH:(Tryz.prog.info? 128).map (·.size)=some 2:=by kernel_rfl
theorem Tryz.infoLk:(Tryz.prog.info? 169).map (fun i=>(i.zero,i.size,i.bytes))=some (some (.agg #[.int .i64 0,.int .u64 0]),2,16):=by kernel_rfl
theorem kt (ls:List (Int × Int)):∀u∈eL ls,u.oneCell'=true:=by
 induction ls with
 | nil=>intro u hu;cases hu
 | cons l ls ih=>
  intro u hu;simp only [eL,List.mem_cons] at hu;rcases hu with rfl | rfl | hu
  ·rfl
  ·rfl
  ·exact ih u hu
theorem sI (a b:List (Int × Int)):eL (a++b)=eL a++eL b:=by
 induction a with
 | nil=>rfl
 | cons l a ih=>simp [eL,ih]
theorem pJ {base size n:Nat} {e:TypeId} {w:World} {s:Value} {cs:List Value} (h:w.ownsRow base e size s n cs):∃a c,s=.slice a n c:=by
 have h1:=h.1;rcases h.2 with ⟨h2,h3⟩ | ⟨g',cap',cur,h2,_⟩
 ·exact ⟨none,0,by rw [h2,h3]⟩
 ·exact ⟨some ⟨g',0,none⟩,cap',h2⟩
def ku (q:PtrM) (r:(Int × Int) × KM):Array Value:=#[.int .i64 r.1.1,.int .u64 r.1.2,.int .i64 r.2.i.sets,.int .i64 r.2.i.ways,.slice q.a1 r.2.i.es.length q.c1,.int .i64 r.2.d.sets,.int .i64 r.2.d.ways,.slice q.a2 r.2.d.es.length q.c2,.int .i64 r.2.p.sets,.int .i64 r.2.p.ways,.slice q.a3 r.2.p.es.length q.c3]
theorem TransOwn.open {base:Nat} {w:World} {x:Value} {r:(Int × Int) × KM} (h:TransOwn base w x r) (p:PtrM):∃a1 c1 a2 c2 a3 c3,x=.agg (ku (pK p a1 c1 a2 c2 a3 c3) r)∧KRows base w (pK p a1 c1 a2 c2 a3 c3) r.2:=by
 obtain ⟨s1,s2,s3,rfl,o1,o2,o3⟩:=h;obtain ⟨a1,c1,rfl⟩:=pJ o1;obtain ⟨a2,c2,rfl⟩:=pJ o2;obtain ⟨a3,c3,rfl⟩:=pJ o3;exact ⟨a1,c1,a2,c2,a3,c3,rfl,o1,o2,o3⟩
theorem xe {P:Program} {fn:Func} {R:Ending->World->Prop} {a:Act} {w:World} {s t:Tmp} {T U:TypeId} {b c:Nat} {V W:Value} (hr:fn.results=#[ResultVar.cell s T,ResultVar.cell t U]) (hs:a.tmps[s]?=some (.pointer (some ⟨b,0,none⟩))) (ht:a.tmps[t]?=some (.pointer (some ⟨c,0,none⟩))) (hl:(loadVar T ⟨b,0,none⟩).run P w=.ok V w) (hm:(loadVar U ⟨c,0,none⟩).run P w=.ok W w) (hd:a.defers=[]) (hR:R (.returned (.tuple #[V,W])) w):bodyPost P fn R .ret a w:=by
 refine bodyPost_ret (v:=.tuple #[V,W]) ?_ hd hR;simp [results,hr,hs,ht,asAddr,hl,hm,Sem.run_bind]
theorem oM (p:PtrM) (al:Option Addr) (cl:Nat) (pick:Int) (r:RunM) (kind va:Int) (w:World) (hr:RunIn w p al cl r) (hk:ROk r) (hpk:0<=pick∧pick<=255) (hkd:0<=kind∧kind<=2) (hv:inU va) (hll:r.looks.length<=7):
 Calls Tryz.prog 63 #[.agg (aK p al cl true pick r),.int .i64 kind,.int .u64 va] w fun e w'=>(∃p' al' cl',e=.returned (.tuple #[.agg (aK p' al' cl' true pick (bX true pick r kind va)),fu (br true pick r.h kind va).1])∧RunIn w' p' al' cl' (bX true pick r kind va)∧From w.heap.size p p'∧FromL w.heap.size al al')∧Bw w w':=by
 have hmem:=gy hk.h.v.size;have HI:=hid hr;have HOK:=hid hk;have HLk:=hid hr.looks;have HLa:=hid hr.looka;have HP:Hid (∀g cap,(aK p al cl true pick r).setIfInBounds 25 (.slice (some ⟨g,0,none⟩) (r.looks.length+1) cap)=aK p (some ⟨g,0,none⟩) cap true pick ⟨r.h,r.cause,r.tval,r.looks++[(kind,va)],r.fenced,r.fence⟩):=fun g cap=>by
  unfold aK;simp
 have hsz:=bx p al cl true pick r;have g25:(aK p al cl true pick r)[25]?=some (.slice al r.looks.length cl):=rfl;have HO:=hid (dn p al cl true pick r);generalize aK p al cl true pick r=C at *;obtain ⟨N,hN⟩:∃N,r.looks.length=N:=⟨_,rfl⟩;rw [hN] at HLk HLa HP g25 hll;have HN:=hid hN;clear hr hN hk;go_enter Tryz.func63,Tryz.ntmps63;go_upto_region 1 with fail;obtain ⟨v1,Ev1,F⟩:=ax3 w C ey #[.int .i64 0,.int .u64 0] 51 51 128;rw [Ev1.out];clear Ev1;obtain ⟨h3,h6,h7,l1,n1⟩:=F;have H3:Hid _:=h3;have H6:Hid _:=h6;have H7:Hid _:=h7;have b1:w.heap.size<v1.heap.size:=by omega
 have b2:w.heap.size+1<v1.heap.size:=by omega
 have b3:w.heap.size+2<v1.heap.size:=by omega
 have c25:=ab h3 25 g25;have OE:=OwnC.new 169 2 v1 [] 0 rfl (by decide);have nE:=(Below.refl v1.heap.size v1).alloc nle (Obj.cells #[] 169);clear h3 h6 h7 l1;go_upto_region 2 with (at_builtin;first
  | (refine iR _ rfl (.tmp 9) (.tmp 11) 47 rfl 169 Tryz.underlying47 (.agg #[.int .i64 0,.int .u64 0]) 2 16 Tryz.infoLk rfl (by decide) v1.heap.size v1.heap.size 0 0 [] rfl OE al N cl (eL r.looks) rfl HLa.out.1 HLa.out.2 (RowC.keep (RowC.keep HLk.out n1) nE) (kt _) (by omega) (by omega) v1.heap.size v1 nE nle ?_;intro g2 cap2 v2 o2 n2;have n3:=(Below.refl v2.heap.size v2).alloc nle (Obj.cells #[.int .i64 kind,.int .u64 va] 169);have n23:=bst n2 n3;simp only [Nat.zero_add,List.nil_append] at o2 |-;have o3:=OwnC.keep o2 n3 o2.facts.2.2.1;have q3:=(OwnC.new 169 2 v2 (eL [(kind,va)]) 1 rfl (by decide)).row;have z2:=n2.size;clear OE nE)
  | (refine iR _ rfl (.tmp 12) (.tmp 16) 47 rfl 169 Tryz.underlying47 (.agg #[.int .i64 0,.int .u64 0]) 2 16 Tryz.infoLk rfl (by decide) v1.heap.size g2 N cap2 (eL r.looks) rfl o3 (some ⟨v2.heap.size,0,none⟩) 1 1 (eL [(kind,va)]) rfl (fun h=>(by cases h)) (fun q hq=>by cases hq;rfl) q3 (kt _) (by omega) (by omega) v1.heap.size v1 n23 nle ?_;intro g4 cap4 v4 o4 n4;have k3:=ae H3.out n4 b1;have c25:=ab k3 25 g25;have f25:=ay k3 25;have b4:=Nat.lt_of_lt_of_le b1 n4.size;clear o2 o3 q3 n2 n3 n23 z2))
 have f4:=o4.facts;have hg1:=f4.2.1;have hg2:=f4.2.2.1;have HC4:Hid (N+1<=cap4∧cap4<=9223372036854775807):=⟨f4.2.2.2.1,by have:=f4.2.2.2.2;unfold maxLen at this;exact this⟩;have ng':g4≠w.heap.size:=by omega
 have K3:Hid _:=bt k3 25 (.slice (some ⟨g4,0,none⟩) (N+1) cap4);have K6:Hid _:=bM (ae H6.out n4 b2) 25 (.slice (some ⟨g4,0,none⟩) (N+1) cap4) (show w.heap.size+1≠w.heap.size by omega);have K7:Hid _:=bM (ae H7.out n4 b3) 25 (.slice (some ⟨g4,0,none⟩) (N+1) cap4) (show w.heap.size+2≠w.heap.size by omega);have n5:=bN (bst n1 n4) nle 25 (.slice (some ⟨g4,0,none⟩) (N+1) cap4);have O5:Hid (OwnC 169 2 (v4.setCell ⟨w.heap.size,25,none⟩ (.slice (some ⟨g4,0,none⟩) (N+1) cap4)) v1.heap.size g4 (N+1) cap4 (eL (r.looks++[(kind,va)]))):=by
  rw [sI];exact OwnC.gb o4 (ak (aq v4 (some w.heap.size)) 25 (.slice (some ⟨g4,0,none⟩) (N+1) cap4)) ng'
 have z5:v1.heap.size<=(v4.setCell ⟨w.heap.size,25,none⟩ (.slice (some ⟨g4,0,none⟩) (N+1) cap4)).heap.size:=by simp;exact n4.size
 have hg3:g4<(v4.setCell ⟨w.heap.size,25,none⟩ (.slice (some ⟨g4,0,none⟩) (N+1) cap4)).heap.size:=by simp;exact hg2
 generalize v4.setCell ⟨w.heap.size,25,none⟩ (.slice (some ⟨g4,0,none⟩) (N+1) cap4)=v5 at K3 K6 K7 n5 O5 z5 hg3 |-;have HE:Hid _:=HP.out g4 cap4;have hsz2:(C.setIfInBounds 25 (.slice (some ⟨g4,0,none⟩) (N+1) cap4)).size=31:=by simp only [Array.size_setIfInBounds,hsz]
 have hone:=mf HO.out 25 (v:=.slice (some ⟨g4,0,none⟩) (N+1) cap4) rfl;generalize C.setIfInBounds 25 (.slice (some ⟨g4,0,none⟩) (N+1) cap4)=D at K3 HE hsz2 hone;clear o4 f4 k3 c25 f25 n4 H3 H6 H7 hg2 n1 HLk HLa;have HD:=HE.out;have g21:D[21]?=some (.bool true):=by rw [HD];rfl
 have g22:D[22]?=some (.int .i64 pick):=by rw [HD];rfl
 have g0:D[0]?=some (.slice p.am r.h.mem.length p.cm):=by rw [HD];rfl
 have HDh:Hid ((D.toList.drop 0).take 21=(ax p r.h).toList):=by show _=_;rw [HD];rfl
 have HDk:Hid ((D.toList.drop 12).take 9=(kA p r.h.k).toList):=by show _=_;rw [HD];rfl
 clear HD;have c21:=ab K3.out 21 g21;have b5:w.heap.size<v5.heap.size:=by omega
 go_upto_region 3 with fail;clear c21;obtain ⟨M,hM⟩:∃M,r.h.mem.length=M:=⟨_,rfl⟩;rw [hM] at g0;have HPl:Hid (∀u,Bw w u->Calls Tryz.prog 84 #[.slice p.am M p.cm,dV r.h.mode r.h.sum r.h.mxr r.h.satp,.int .i64 kind,.int .u64 va] u fun e w'=>e=.returned (fu (br true pick r.h kind va).1)∧Bw u w'):=fun u hu=>by
  have hB:=HI.out.h.mem.keep hu;rw [hM] at hB;exact sT p.am M p.cm r.h.mem r.h.mode r.h.sum r.h.mxr r.h.satp kind va u (by omega) (by have:=HI.out.h.memc.1;omega) HI.out.h.memc.2 HOK.out.h.satp.1 HOK.out.h.satp.2 hv.1 hv.2 hB
 have HCt:=hid fun u=>tT p r.h u;have HLh:=hid fun (u:World) (hu:u.heap[w.heap.size]?=some (.cells D 51 (0,0)))=>dw (P:=Tryz.prog) (T:=41) hu Tryz.underlying41 rfl (o:=0) (ax p r.h).toList fx HDh.out rfl;have HLr:=hid fun (u:World) (hu:u.heap[w.heap.size]?=some (.cells D 51 (0,0)))=>be (P:=Tryz.prog) (T:=51) hu Tryz.underlying51 rfl (by rw [hsz2];exact cZ);have hMl:M<=4096:=by omega
 clear hM hmem;generalize ax p r.h=E at *;have HTV:Hid (∃tv,fu (br true pick r.h kind va).1=.agg tv∧tv.size=2∧tv.all (·.oneCell')=true):=⟨_,rfl,rfl,by simp [Value.oneCell']⟩;obtain ⟨tv,htv,tvs,tvo⟩:=HTV.out;rw [htv] at HPl;have HTw:Hid _:=htv;clear htv HTV;have HTo:=hid tvo;clear tvo;have HL0:Hid (∀u:World,u.heap[w.heap.size]?=some (.cells D 51 (0,0))->(Instr.loadAt 22 (.pointer (some ⟨w.heap.size,0,none⟩))).run Tryz.prog u=.ok (.slice p.am M p.cm) u):=fun u hu=>by
  have h1:=ab hu 0 g0;go_simp
 have nD:=bdr v5;have hF:v5.drew.heap[w.heap.size]?=some (.cells D 51 (0,0)):=K3.out;refine aN (fun u=>u.heap[w.heap.size]?=some (.cells D 51 (0,0))) 10 (by kernel_rfl) ?_;refine lj 0 21 (.agg D) rfl hF ?_ (hy:=fun u hu=>aX rfl (HLr.out u hu));simp only [aPt,sTa,sCs,sCz];refine lj 1 22 (.pointer (some ⟨w.heap.size,0,none⟩)) rfl hF ?_;refine lj 2 23 (.pointer (some ⟨w.heap.size,0,none⟩)) rfl hF ?_;simp only [aPt,sTa,sCs,sCz];refine lj 3 24 (.slice p.am M p.cm) rfl hF ?_ (hy:=fun u hu=>aX rfl (HL0.out u hu));refine lj 4 25 (.pointer (some ⟨w.heap.size,0,none⟩)) rfl hF ?_;simp only [aPt,sTa,sCs,sCz];refine lj 5 26 (.agg E) rfl hF ?_ (hy:=fun u hu=>aX rfl (HLh.out u hu));refine lj 7 28 (.int .i64 kind) rfl hF ?_;refine lj 8 29 (.int .u64 va) rfl hF ?_;simp only [aPt,sTa,sCs,sCz];refine uB 6 27 rfl (f:=85) (args:=#[.agg E]) ?_;refine Calls.mono (HCt.out v5.drew) ?_;rintro e u6 ⟨rfl,m6⟩;replace m6:=bst nD m6;refine ⟨_,rfl,fun _=>ae K3.out m6 b5,?_⟩;simp only [aPt,sTa,sCs,sCz];refine uB 9 30 rfl (f:=84) (args:=#[.slice p.am M p.cm,dV r.h.mode r.h.sum r.h.mxr r.h.satp,.int .i64 kind,.int .u64 va]) ?_;refine (HPl.out u6 (bst n5 m6)).mono ?_;rintro e v6 ⟨rfl,n6⟩;replace n6:=bst m6 n6;refine ⟨_,rfl,fun _=>ae K3.out n6 b5,?_⟩;simp only [aPt,sTa,sCs,sCz];have L6:Hid _:=ae K6.out n6 (by omega);have L7:Hid _:=ae K7.out n6 (by omega);have n7:=bst n5 n6;have O7:Hid _:=OwnC.keep O5.out n6 hg3;have HS6:Hid _:=bh (P:=Tryz.prog) (T:=51) (V:=D) L6.out (by rw [hsz2];exact cZ) (by rw [hsz2,aU]) hone;have M6:Hid _:=aT (V:=D) L6.out (by rw [hsz2,aU]);have M7:Hid _:=gQ L7.out 0 D.toList (show w.heap.size+2≠w.heap.size+1 by omega);have n8:=aS (show w.heap.size<=w.heap.size+1 by omega) D.toList 0 v6 n7;have O8:Hid _:=OwnC.gb O7.out (aJ (w.heap.size+1) D.toList 0 v6 v6 (aq v6 _)) (show g4≠w.heap.size+1 by omega);have HS7:Hid _:=bh (P:=Tryz.prog) (T:=128) (V:=tv) M7.out (by rw [tvs];exact sH) tvs HTo.out;have N7:Hid _:=aT (V:=tv) M7.out tvs;have N6:Hid _:=gQ M6.out 0 tv.toList (show w.heap.size+1≠w.heap.size+2 by omega);have n9:=aS (show w.heap.size<=w.heap.size+2 by omega) tv.toList 0 _ n8;have O9:Hid _:=OwnC.gb O8.out (aJ (w.heap.size+2) tv.toList 0 _ _ (aq _ _)) (show g4≠w.heap.size+2 by omega);refine bI 10 rfl (T:=51) (x:=.tmp 6) (y:=.tmp 21) (by kernel_rfl) (by kernel_rfl) (by kernel_rfl) (by kernel_rfl) (b:=w.heap.size+1) (off:=0) (by kernel_rfl) (by kernel_rfl) HS6.out (.inl (by kernel_rfl)) ?_;refine bI 11 rfl (T:=128) (x:=.tmp 7) (y:=.tmp 30) (by kernel_rfl) (by kernel_rfl) (by kernel_rfl) (by kernel_rfl) (b:=w.heap.size+2) (off:=0) (by kernel_rfl) (by kernel_rfl) HS7.out (.inl (by kernel_rfl)) ?_;refine bJ (by kernel_rfl) ?_ _;go_wp2_with fail;refine xe (b:=w.heap.size+1) (c:=w.heap.size+2) Tryz.results63 rfl rfl (bu (P:=Tryz.prog) N6.out Tryz.underlying51 rfl (by rw [hsz2];exact cZ)) (bu (P:=Tryz.prog) N7.out Tryz.underlying128 rfl (by rw [tvs];exact sH)) rfl ?_;refine ⟨⟨p,some ⟨g4,0,none⟩,cap4,by rw [HE.out,HTw.out];rfl,?_,fun q hq=>.inl hq,fun q hq=>by cases hq;exact .inr (show w.heap.size<=g4 by omega)⟩,n9⟩;refine ⟨HI.out.h.keep n9,?_,?_,⟨fun h=>(by cases h),fun q hq=>by cases hq;rfl⟩,?_,fun q hq=>by cases hq;exact (OwnC.facts O9.out).2.2.1⟩
 ·show RowC _ _ (r.looks++[(kind,va)]).length 2 _;rw [List.length_append,HN.out];exact OwnC.row O9.out
 ·show (r.looks++[(kind,va)]).length<=_∧_;rw [List.length_append,HN.out];exact HC4.out
 ·show (r.looks++[(kind,va)]).length<=_;rw [List.length_append,HN.out];show N+1<=8;omega
def Cur (T:TypeId) (w:World) (p:Nat) (a:Option Addr) (len cap:Nat) (code:List Int):Prop:=
 ∃(i:Nat) (h:Int),i<=len∧w.heap[p]?=some (.cells #[.slice a len cap,.int .i64 i,.int .i64 h] T (0,0))∧Byt w a len code∧(0<len->∀x,a=some x->x.block<p)∧len<=1048576
theorem Cur.lt {T:TypeId} {w:World} {p:Nat} {a:Option Addr} {len cap:Nat} {code:List Int} (h:Cur T w p a len cap code):p<w.heap.size:=by
 obtain ⟨_,_,_,hh,_⟩:=h;exact (hpl hh)
theorem Cur.step {T:TypeId} {w v:World} {p:Nat} {a:Option Addr} {len cap:Nat} {code:List Int} {i i':Nat} {h h':Int}
 (hh:w.heap[p]?=some (.cells #[.slice a len cap,.int .i64 i,.int .i64 h] T (0,0))) (hb:Byt w a len code) (hlt:0<len->∀x,a=some x->x.block<p) (hl:len<=1048576) (hi:i'<=len)
 (hv:v.heap[p]?=some (.cells #[.slice a len cap,.int .i64 i',.int .i64 h'] T (0,0))) (hg:w.grownBy v (some p)):Cur T v p a len cap code:=by
 refine ⟨i',h',hi,hv,?_,hlt,hl⟩;obtain ⟨h1,h2,h3⟩:=hb;refine ⟨h1,h2,?_⟩;by_cases h0:len=0
 ·exact .inl h0
 rcases h3 with h3 | ⟨b,off,rfl,hbw,hc⟩
 ·exact .inl h3
 ·have hbp:b<p:=hlt (by omega) ⟨b,off,none⟩ rfl;exact .inr ⟨b,off,rfl,Nat.lt_of_lt_of_le hbw hg.size,fun j hj=>(World.cell?_of_block (hg.block b hbw (by simp;omega))).trans (hc j hj)⟩
theorem qN {w v:World} {r:Option Nat} (h:w.grownBy v r) (n:Nat):w.grownBy (v.drewN n) r:=⟨h.os,h.tape,h.output,h.size,h.block⟩
theorem xh {w v u:World} {r:Option Nat} (h:w.grownBy v r) (k:v.grownBy u r):w.grownBy u r:=
 ⟨k.os.trans h.os,k.tape.trans h.tape,k.output.trans h.output,Nat.le_trans h.size k.size,fun i hi hn=>(k.block i (Nat.lt_of_lt_of_le hi h.size) hn).trans (h.block i hi hn)⟩
def Drew (T:TypeId) (w:World) (p:Nat) (a:Option Addr) (len cap:Nat) (code:List Int) (w':World):Prop:=Cur T w' p a len cap code∧w.grownBy w' (some p)
theorem Drew.trans {T:TypeId} {w v u:World} {p:Nat} {a:Option Addr} {len cap:Nat} {code:List Int} (h:Drew T w p a len cap code v) (k:Drew T v p a len cap code u):Drew T w p a len cap code u:=⟨k.1,xh h.2 k.2⟩
theorem Cur.below {T:TypeId} {B:Nat} {w v:World} {p:Nat} {a:Option Addr} {len cap:Nat} {code:List Int} (h:Cur T w p a len cap code) (hb:Below B w v) (hp:p<B):Cur T v p a len cap code:=by
 obtain ⟨i,hh,hi,hv,⟨h1,h2,h3⟩,hlt,hl⟩:=h;refine ⟨i,hh,hi,by rw [hb.block p hp];exact hv,⟨h1,h2,?_⟩,hlt,hl⟩;by_cases h0:len=0
 ·exact .inl h0
 rcases h3 with h3 | ⟨b,off,rfl,hbw,hc⟩
 ·exact .inl h3
 ·have hbp:b<p:=hlt (by omega) ⟨b,off,none⟩ rfl;exact .inr ⟨b,off,rfl,Nat.lt_of_lt_of_le hbw hb.size,fun j hj=>(hb.cell (p:=⟨b,off+j,none⟩) (Nat.lt_trans hbp hp)).trans (hc j hj)⟩
theorem Drew.below {T:TypeId} {w v u:World} {p:Nat} {a:Option Addr} {len cap:Nat} {code:List Int} (h:Drew T w p a len cap code v) (hb:Below w.heap.size v u) (hp:p<w.heap.size):Drew T w p a len cap code u:=by
 refine ⟨h.1.below hb hp,⟨hb.os.trans h.2.os,hb.tape.trans h.2.tape,hb.output.trans h.2.output,Nat.le_trans h.2.size hb.size,fun i hi hn=>(hb.block i hi).trans (h.2.block i hi hn)⟩⟩
theorem OwnB.gb {e:TypeId} {w w':World} {base g n cap r:Nat} {zs:List Int} (h:OwnB e w base g n cap zs) (hg:w.grownBy w' (some r)) (hne:g≠r):OwnB e w' base g n cap zs:=by
 obtain ⟨h1,h2⟩:=h;refine ⟨h1,?_⟩;rcases h2 with ⟨h2,_⟩ | ⟨g',cap',cur,h2,hb',hh,r'⟩
 ·simp at h2
 ·have hh':=h2;simp at hh';obtain ⟨rfl,rfl⟩:=hh';exact .inr ⟨_,_,cur,h2,hb',by rw [hg.block _ (hpl hh) (by simpa using hne)];exact hh,r'⟩
theorem BI (w:World) (e:TypeId) (z:Int) (hz:0<=z∧z<=255):Byt (w.alloc (.cells #[.int .u8 z] e)) (some ⟨w.heap.size,0,none⟩) 1 [z]:=
 (OwnB.new e w [z] 1 rfl (by decide)).byt (fun i=>by cases i <;> simp [hz])
theorem pN (y:Int):((ag y).sets=1∨(ag y).sets=2∨(ag y).sets=4∨(ag y).sets=8)∧(1<=(ag y).ways∧(ag y).ways<=4)∧((ag y).es.length:Int)=(ag y).sets*(ag y).ways∧(ag y).es.length<=32:=by
 have hm:y%4=0∨y%4=1∨y%4=2∨y%4=3:=by omega
 have hw:y/4%4=0∨y/4%4=1∨y/4%4=2∨y/4%4=3:=by omega
 unfold ag;rcases hm with h | h | h | h <;> rcases hw with k | k | k | k <;> rw [h,k] <;> simp only [List.length_replicate] <;> decide
theorem jz (y:Int):fy (ag y):=by
 obtain ⟨h1,h2,h3,h4⟩:=pN y;refine ⟨?_,by omega,by omega,by omega⟩;intro e he;unfold ag at he;have:=(List.mem_replicate.1 he).2;subst this;simp [eU,cK]
theorem uO (y:Int) (p:Bool):aQ (ag y) p=true:=by
 obtain ⟨h1,h2,h3,h4⟩:=pN y;unfold aQ;rw [Bool.and_eq_true];refine ⟨by simp only [iU,decide_eq_true_eq];exact ⟨h1,h2.1,h2.2,h3⟩,fM _ p _ 0 (fun j x hx=>?_)⟩;have hm:=List.mem_of_getElem? hx;unfold ag at hm;have:=(List.mem_replicate.1 hm).2;subst this;simp [cy,cK]
theorem xn (b:List Int) (hb:∀i:Nat,0<=b[i]?.getD 0∧b[i]?.getD 0<=255):∀(m i a:Nat) (mem:List Int),(∀z∈mem,0<=z∧z<=255)->(kE b m i a mem).length=mem.length∧∀z∈kE b m i a mem,0<=z∧z<=255
 | 0,i,a,mem,h=>⟨rfl,h⟩
 | m+1,i,a,mem,h=>by
  rw [kE];split
  ·have:=xn b hb m (i+1) (a+1) (mem.set a (atM b i)) (fun z hz=>by
    rcases List.mem_or_eq_of_mem_set hz with hz | rfl
    ·exact h z hz
    ·exact hb i)
   rw [List.length_set] at this;exact this
  ·exact xn b hb m (i+1) (a+1) mem h
theorem yk (b:List Int) (hb:∀i:Nat,0<=b[i]?.getD 0∧b[i]?.getD 0<=255):∀(n i:Nat) (mem:List Int),(∀z∈mem,0<=z∧z<=255)->(iG b n i mem).1.length=mem.length∧∀z∈(iG b n i mem).1,0<=z∧z<=255
 | 0,i,mem,h=>⟨rfl,h⟩
 | n+1,i,mem,h=>by
  have h1:=xn b hb (atM b (i+2)).toNat (i+3) (qi b i) mem h;have h2:=yk b hb n (i+3+(atM b (i+2)).toNat) _ h1.2;rw [iG];exact ⟨h2.1.trans h1.1,h2.2⟩
theorem lC {zs:List Int} (h:∀i:Nat,0<=zs[i]?.getD 0∧zs[i]?.getD 0<=255) (i:Nat):inU (cw zs i):=by
 unfold cw;have:=kK ((List.range 8).map fun k=>atM zs (i+k)) 8 (fun z hz=>by
  simp only [List.mem_map] at hz;obtain ⟨j,_,rfl⟩:=hz;exact h _) (by simp)
 unfold inU;omega
theorem qB {zs:List Int} (h:∀i:Nat,0<=zs[i]?.getD 0∧zs[i]?.getD 0<=255):HOk (bq zs):=by
 have h3:=h 3;have hm:=yk zs h (atM zs 87).toNat 88 (List.replicate (64*(1+(atM zs 3%64).toNat)) 0) (fun z hz=>by rw [(List.mem_replicate.1 hz).2];omega);rw [List.length_replicate] at hm;have hmode:0<=bO (atM zs 4)∧bO (atM zs 4)<=2:=by
  unfold bO;split <;> omega
 have hsat:de (if de (cw zs 23)=true then cw zs 23 else 0)=true:=by
  split
  ·assumption
  ·rfl
 refine ⟨(dL _).2 ⟨?_,?_,?_,hmode,hmode,hsat,?_,?_,?_⟩,?_,?_,lC h 7,?_,?_,?_,?_,⟨jz _,jz _,jz _⟩⟩
 ·show ez (qq zs).1.length=true;unfold qq;rw [hm.1];simp only [ez,decide_eq_true_eq];have:(atM zs 3%64).toNat<=63:=by omega
  omega
 ·simp [bq,jb]
 ·rfl
 ·show (cw zs 15/4*4)%4=0;omega
 ·show 0<=(0:Int)∧(0:Int)<=63;omega
 ·show bW ⟨ag (atM zs 0),ag (atM zs 1),ag (atM zs 2)⟩=true;simp only [bW,uO,Bool.and_self]
 ·show gv (qq zs).1;intro i;unfold qq;cases hx:(iG zs (atM zs 87).toNat 88 (List.replicate (64*(1+(atM zs 3%64).toNat)) 0)).1[i]? with
  | none=>exact ⟨by simp,by simp⟩
  | some x=>
   have:=hm.2 x (List.mem_of_getElem? hx);simpa using this
 ·show qY (jb zs);intro i;cases hx:(jb zs)[i]? with
  | none=>exact ⟨by simp,by simp⟩
  | some x=>
   have hmem:=List.mem_of_getElem? hx;simp only [jb,List.mem_cons,List.mem_map] at hmem;have:inU x:=by
    rcases hmem with rfl | ⟨j,_,rfl⟩
    ·simp [inU]
    ·exact lC h _
   simpa [inU] using this
 ·show inU (if de (cw zs 23)=true then cw zs 23 else 0);split
  ·exact lC h 23
  ·simp [inU]
 ·show inU (cw zs 15/4*4);have:=lC h 15;unfold inU at this |-;omega
 ·show inU 0;simp [inU]
 ·show inU 0;simp [inU]
end Go.Proofs.YtpdddbobhndbjaaGreat
