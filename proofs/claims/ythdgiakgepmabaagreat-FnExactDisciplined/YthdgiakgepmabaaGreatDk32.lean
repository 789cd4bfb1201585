import Derived.Test.YthdgiakgepmabaaGreatDk31
import Derived.Test.YthdgiakgepmabaaGreatDk20
import Derived.Test.YthdgiakgepmabaaGreatDk21
import Derived.Test.YthdgiakgepmabaaGreatDk28
namespace Go.Proofs.YthdgiakgepmabaaGreat
open Go.RowKit
set_option linter.unusedVariables false
set_option maxHeartbeats 6400000
set_option maxRecDepth 20000
abbrev DX:Array Value:=#[VU 0,VU 0,VU 0,VU 0,VU 0,VU 0,VU 0,VU 0,VU 0,VI 0,.bool false,.bool false,VU 0,VU 0,VU 0,VI 0,VI 0,VU 0]
def TZ (r:RunM):Prop:=r.cause=0->r.tval=0
theorem tq (plain:Bool) (pick kind:Int):∀(ps:List bw) (r:RunM),TZ r->TZ (ag plain pick kind r ps).1
 | [],r,h=>h
 | p::ps,r,h=>by
  unfold ag;split
  ·exact tq plain pick kind ps _ h
  ·rename_i hz;exact fun e=>absurd e hz
theorem Ci (plain:Bool) (pick kind va n:Int) {r:RunM} (h:TZ r):TZ (aw plain pick r kind va n).1:=by
 unfold aw;split
 ·split
  ·exact tq plain pick kind _ r h
  ·exact fun e=>absurd e (eX kind)
 ·exact tq plain pick kind _ r h
theorem Gm {c:Prop} [Decidable c] {a b:RunM} (ha:TZ a) (hb:TZ b):TZ (if c then a else b):=by
 by_cases h:c
 ·rw [if_pos h];exact ha
 ·rw [if_neg h];exact hb
theorem GR (plain:Bool) (pick:Int) {r:RunM} (pc op a b c s x:Int) (hm:0<=r.h.mode) (h:TZ r):TZ (doM plain pick r pc op a b c s x):=by
 unfold doM ia fx lC;repeat' (with_reducible refine Gm ?_ ?_)
 all_goals first
  | exact h
  | exact Ci plain pick _ _ _ h
  | exact fun e=>absurd e (show (2:Int)≠0 by omega)
  | exact fun e=>absurd e (show 8+r.h.mode≠0 by omega)
theorem Gn (plain:Bool) (pick:Int) {r:RunM} (x:Int) (hm:0<=r.h.mode) (h:TZ r):TZ (gE plain pick r x):=GR plain pick _ _ _ _ _ _ _ hm h
def pz (plain:Bool) (pick:Int) (h0:HartM) (O X:Nat->Prop) (m:MP) (PA:World->RunM->Prop) (w:World) (e:Ending) (w':World):Prop:=
 e=.returned (.agg #[VI (bT plain pick h0).cause,VU (bT plain pick h0).tval])∧∃O' ov' ol',MW w' O' X m ov' (bT plain pick h0).h ol'∧Kp O w w'∧(∀i,i<w.heap.size->O' i->O i)∧PA w' (bT plain pick h0)
theorem DY (T:Array Value) (d:Nat) (hd:d≠4) (v:Value):results Tryz.f19 (T.setIfInBounds d v)=results Tryz.f19 T:=by
 simp [results,Tryz.results19,Array.getElem?_setIfInBounds,hd]
theorem zW {R:Ending->World->Prop} (x:List PanicEntry) (a:Act) (d:Option Tmp) (hd:d≠some 4) (v:Value) (w:World) (h:bodyPostD Tryz.prog Tryz.f19 R (.panic x) (a.put d v) w):bodyPostD Tryz.prog Tryz.f19 R (.panic x) a w:=by
 cases d with
 | none=>exact h
 | some d=>exact mq (DY a.tmps d (fun e=>hd (e ▸ rfl)) v) _ _ _ h
abbrev GT (pb pm pt:Nat):Deferred:={ target:=.fn (.func 57) #[PT pb 0,PT pm 0,PT pt 0],args:=#[] }
theorem GU (plain:Bool) (pick:Int) (h0:HartM) (r:RunM) (hc:r.cause≠0):(kX h0 r).cause=r.cause∧(kX h0 r).tval=r.tval∧(kX h0 r).h=dm h0 r:=by
 unfold kX;rw [if_neg hc];exact ⟨rfl,rfl,rfl⟩
theorem Cj {h0:HartM} {r:RunM} (hc:r.cause=0):kX h0 r=r:=if_pos hc
theorem uB {plain:Bool} {pick:Int} {h0:HartM} {O O' X:Nat->Prop} {PI:World->Prop} {PA:World->RunM->Prop} {m:MP} (hp:PathOk m plain pick h0 X PI PA) {ov:Value} {hx:HartM} {ol:List (Nat × Int)} (pb pm pt:Nat) (T:Array Value) (w v:World) (r:RunM)
 (hT:T[4]?=some (PT pt 0)) (hs:bT plain pick h0=kX h0 r) (hc:r.cause≠0) (hby:BytM h0.mem) (hrg:h0.regs.length=8)
 (k:MW v O' X m ov hx ol) (hk:hx.k=r.h.k) (hun:gA ol hx.mem=h0.mem) (hA:PA v r)
 (h1:v.heap[pb]?=some (.cells (gy h0) 74 (0,0))) (h2:v.heap[pm]?=some (.cells #[PT m.b 0] 68 (0,0))) (h3:v.heap[pt]?=some (.cells #[VI 0,VU 0] 92 (0,0))) (n1:¬O' pb) (n2:¬O' pm) (n3:¬O' pt)
 (N:Kp O w v) (hO:∀i,i<w.heap.size->O' i->O i) (hpt:w.heap.size<=pt):
 Leaves Tryz.prog Tryz.f19 T (pz plain pick h0 O X m PA w) [GT pb pm pt] (.panicking [lz r.cause r.tval]) v:=by
 refine leaves_cons (f:=57) (args:=#[PT pb 0,PT pm 0,PT pt 0]) (by simp) (by kernel_rfl) ?_;refine (vY pb pm pt r.cause r.tval v k hun hby hrg h1 h2 h3 n1 n2 n3).mono ?_;rintro e u' w' ⟨rfl,rfl,k',h3',kp⟩;have kb:=k.ob;have km:=k.om;have c0:=ab h3' 0 (v:=VI r.cause) rfl;have c1:=ab h3' 1 (v:=VU r.tval) rfl;have e:=GU plain pick h0 r hc;refine ⟨.agg #[VI r.cause,VU r.tval],?_,?_⟩
 ·simp [results,Tryz.results19,go_sem,hT,c0,c1]
 ·unfold pz;rw [hs,e.1,e.2.1,e.2.2];refine ⟨rfl,O',ov,ol,?_,?_,hO,?_⟩
  ·unfold dm;rw [<-hk];exact k'
  ·refine ⟨kp.os.trans N.os,kp.tape.trans N.tape,kp.output.trans N.output,Nat.le_trans N.size kp.size,fun i hi ho=>?_⟩;rw [kp.block i (ltl hi N.size) ?_,N.block i hi ho];rintro (e | e | e)
   ·exact ho (hO i hi (e ▸ kb))
   ·exact ho (hO i hi (e ▸ km))
   ·omega
  ·refine hp.congr _ r _ (hp.frame _ _ _ hA kp.size fun i hi=>?_) ?_ ?_ ?_ ?_
   ·refine kp.block i (k.xo i hi).2 ?_;rintro (e | e | e)
    ·exact k.xb (e ▸ hi)
    ·exact k.xm (e ▸ hi)
    ·exact n3 (e ▸ (k.xo i hi).1)
   all_goals (unfold kX;rw [if_neg hc];rfl)
theorem DZ {plain:Bool} {pick:Int} {h0:HartM} {O X:Nat->Prop} {PI:World->Prop} {PA:World->RunM->Prop} {m:MP} (hp:PathOk m plain pick h0 X PI PA) (hpk:0<=pick∧pick<=255) {ov:Value} {ol:List (Nat × Int)} (w:World)
 (k:MW w O X m ov h0 ol) (hI:PI w) (hh:HOk h0):
 Calls Tryz.prog 19 #[PT m.b 0,VI pick] w fun e w'=>pz plain pick h0 O X m PA w e w':=by
 have HK:Hid _:=k;have HI:Hid _:=hI;have HP:Hid _:=hp;have HH:Hid _:=hh;have hb:=k.lt;have F:=jW w #[PT m.b 0] #[VI 0,VU 0] 68 92;have hmf:∀(fn:Fn) (first cap:Array Value) (w:World),(Instr.makeFunc fn first cap).run Tryz.prog w=.ok (.func fn first cap) w:=fun _ _ _ _=>rfl;clear k hI hp hh
 go_enter_defers Tryz.func19,Tryz.ntmps19
 go_upto_region 1 with fail;generalize (w.alloc (Obj.cells #[PT m.b 0] 68)).alloc (Obj.cells #[VI 0,VU 0] 92)=v1 at F |-;obtain ⟨f1,f2,f3,n1⟩:=F;have K1:=hid (HK.out.low n1);have HF1:Hid _:=f1;have HG1:Hid _:=f2;have HN1:Hid _:=n1;have cm:=ab f1 0 (v:=PT m.b 0) rfl;have hsz:v1.heap.size=w.heap.size+2:=by omega
 have HSz:Hid _:=hsz;clear f1 f2 f3 n1;have HL:Hid _:=eA (P:=Tryz.prog) (T:=74) (o:=0) (n:=18) K1.out.blk Tryz.underlying74 rfl (gy h0).toList AO rfl (by simp [gy]);obtain ⟨v2,hs2,hb2,hsz2,n2⟩:∃v',(Instr.storeAt 74 (PT v1.heap.size 0) (.agg (gy h0))).run Tryz.prog (v1.alloc (Obj.cells DX 74))=.ok () v'∧v'.heap[v1.heap.size]?=some (.cells (gy h0) 74 (0,0))∧v'.heap.size=v1.heap.size+1∧Bw v1 v':=by
  have a:=bF v1 DX 74;refine ⟨_,aR (P:=Tryz.prog) (T:=74) a.1 AO rfl (by simp [gy,Value.oneCell']),aI a.1 rfl,?_,?_⟩
  ·rw [cF,a.2.1]
  ·exact aK nle _ _ _ a.2.2
 have HS:Hid _:=hs2;clear hs2 hsz;obtain ⟨CA,hCA⟩:∃CA,gy h0=CA:=⟨_,rfl⟩;have HCA:Hid _:=hCA;have HL':Hid ((Instr.loadAt 74 (PT m.b 0)).run Tryz.prog v1=.ok (.agg CA) v1):=by rw [<-hCA];exact HL.out
 rw [hCA] at HS hb2;clear hCA HL;go_upto_region 2 with (first
  | ((with_reducible refine bj ?_ HL'.out ?_);(exact rfl))
  | ((with_reducible refine az ?_ ?_ HS.out ?_);(exact rfl);(exact rfl)))
 simp only [Act.put];have hO1:∀i,w.heap.size<=i->¬O i:=fun i hi h=>by have:=HK.out.obd _ h;omega
 have hX1:∀i,w.heap.size<=i->¬X i:=fun i hi h=>hO1 i hi (HK.out.xo _ h).1;have K2:=hid (K1.out.low n2);have HF2:=ah HF1 n2;have HG2:=ah HG1 n2;have HB2:=hid hb2;have HN2:=hid (bst HN1.out n2);clear cm hb2 n2 HS HL' K1 HF1 HG1 hsz2;have cm:=ab HF2.out 0 (v:=PT m.b 0) rfl;go_wp2_with fail;refine (Cl v2 K2.out).mono ?_;rintro e v3 ⟨rfl,ov3,k3,g3⟩;have hws:w.heap.size≠m.b:=by omega
 have hsz:=HSz.out;have K3:Hid _:=k3;have HF3:Hid _:=aA HF2.out g3 hws;have HG3:Hid _:=aA HG2.out g3 (show w.heap.size+1≠m.b by omega);have HB3:Hid _:=aA HB2.out g3 (show v1.heap.size≠m.b by omega);have N3:=hid ((Kp.of_below O HN2.out).trans (Kp.of_gb g3 HK.out.ob));have I3:PI v3:=HP.out.framei w v3 HI.out N3.out.size fun i hi=>by
  have hl:=(HK.out.xo i hi).2;rw [g3.block i (by have:=HN2.out.size;omega) (by
   intro e;have:m.b=i:=by simpa using e.symm
   exact HK.out.xb (this ▸ hi)),HN2.out.block i hl]
 obtain ⟨fn,rv,hmt,hen,hcall⟩:=HP.out.begin v3 I3 K3.out.cells HH.out;have HCl:=hid hcall;clear cm k3 g3 I3 hcall HF2 HG2 HB2 HN2 K2 hsz;have cm:=ab HF3.out 0 (v:=PT m.b 0) rfl;have c29:=ab K3.out.blk 29 (v:=.iface m.pd m.px) rfl;go_wp2_with fail;refine Calls.mono HCl.out ?_;rintro e v4 ⟨rfl,a4,kp4⟩;have hsz:=HSz.out;have K4:Hid (MW v4 O X m ov3 (bx plain pick h0).h []):=(K3.out.keep kp4).withK ((xe plain pick h0.k).set _ _ _);have A4:Hid _:=a4;have HF4:=Kp.hid HF3 kp4 (hX1 _ nle);have HG4:=Kp.hid HG3 kp4 (hX1 _ (Nat.le_succ _));have HB4:=Kp.hid HB3 kp4 (hX1 _ (by omega));have N4:=hid (N3.out.trans (kp4.mono fun i hi=>(HK.out.xo i hi).1));clear a4 kp4 cm c29 hmt hen HCl HF3 HG3 HB3 N3 K3 hsz;go_upto_region 5 with fail;have hby:=HK.out.byt;have hrg:=HK.out.regs;have CT:=fun (u:Has w.heap.size (.cells #[PT m.b 0] 68 (0,0)))=>ab u.h 0 rfl;have ne:Nonempty (Has w.heap.size (.cells #[PT m.b 0] 68 (0,0))):=⟨⟨v4,HF4.out⟩⟩;have HR0:Hid _:=ke plain pick HH.out;have HC0:Hid (SameC 0 (bx plain pick h0) h0):=⟨rfl,rfl,rfl,rfl,rfl,rfl,Nat.le_refl 0⟩;have HS0:Hid (bT plain pick h0=kX h0 (cY plain pick (bx plain pick h0))):=rfl;have HM0:Hid ((bx plain pick h0).h.mem=h0.mem):=rfl;have HZ0:Hid ((bx plain pick h0).cause=0):=rfl;have T0:Hid (TZ (bx plain pick h0)):=fun _=>rfl;generalize bx plain pick h0=r0 at K4 A4 HR0 HC0 HS0 HM0 HZ0 T0;refine ax (fun w'=>∃u:Has w.heap.size (.cells #[PT m.b 0] 68 (0,0)),w'=u.w) 3 ?_;refine uC (by kernel_rfl) (fuel:=2) ⟨⟨v4.drew,HF4.out⟩,rfl⟩ [0,1] _ _ (by
  intro i hi o ho x a v w hq;refine zW x a o.dst ?_ v w hq;simp only [List.mem_cons,List.not_mem_nil,or_false] at hi;rcases hi with rfl | rfl
  ·simp only [List.getElem?_toArray,List.getElem?_cons_zero,Option.some.injEq] at ho;subst ho;simp
  ·simp only [List.getElem?_toArray,List.getElem?_cons_zero,List.getElem?_cons_succ,Option.some.injEq] at ho;subst ho;simp) (by kernel_rfl) ?_
 simp only [gh,List.getElem?_toArray,List.getElem?_cons_zero,List.getElem?_cons_succ];repeat (go_big_quiet_step (fail))
 refine wpQuiet_nil ?_;have D4:=bdr v4;refine ep 2 23 rfl ((Ew HP.out hpk r0 v4.drew (K4.out.low D4) (HP.out.keep A4.out (fun i hi=>(K4.out.xo i hi).2) (Kp.of_below (fun _=>False) D4) (fun _ _ h=>h)) HR0.out HC0.out HZ0.out).mono ?_);rintro e v5 (⟨hq1,hq2,hq3,rfl,k5,a5,n5',hx0,hx1⟩ | ⟨hcz,rfl,k5,a5,n5',hm5⟩)
 rotate_left
 ·
  have n5:=(Kp.of_below X D4).trans n5';have hsz:=HSz.out;refine .inr ⟨_,rfl,?_⟩;have HB5:=Kp.hid HB4 n5 (hX1 _ (by omega));rw [<-HCA.out] at HB5;exact uB (O':=O) HP.out v1.heap.size w.heap.size (w.heap.size+1) _ w v5 (cY plain pick r0) rfl HS0.out hcz hby hrg k5 rfl (by rw [hm5,HM0.out];rfl) a5 HB5.out (n5.heap HF4.out (hX1 _ nle)) (n5.heap HG4.out (hX1 _ (Nat.le_succ _))) (hO1 _ (by omega)) (hO1 _ nle) (hO1 _ (Nat.le_succ _)) (N4.out.trans (n5.mono fun i hi=>(HK.out.xo i hi).1)) (fun i _ h=>h) (Nat.le_succ _)
 have n5:=(Kp.of_below X D4).trans n5';have hsz:=HSz.out;have HF5:=Kp.hid HF4 n5 (hX1 _ nle);have HG5:=Kp.hid HG4 n5 (hX1 _ (Nat.le_succ _));have HB5:=Kp.hid HB4 n5 (hX1 _ (by omega));have N5:Hid (Kp O w v5):=N4.out.trans (n5.mono fun i hi=>(HK.out.xo i hi).1);have hbd:cY plain pick r0=gE plain pick (bf plain pick r0 0 r0.h.pc) (iP plain pick r0.h):=by
  unfold cY;rw [if_pos hq1,if_pos hq2,if_pos hq3]
 rw [hbd] at HS0;have R1:Hid _:=jm HR0.out plain hpk (kind:=0) (va:=r0.h.pc) ⟨by omega,by omega⟩ HR0.out.h.pc;have C1:Hid _:=HC0.out.look plain pick 0 r0.h.pc;have Z1:Hid ((bf plain pick r0 0 r0.h.pc).cause=0):=HZ0.out;have T1:Hid (TZ (bf plain pick r0 0 r0.h.pc)):=T0.out;have M1:Hid ((bf plain pick r0 0 r0.h.pc).h.mem=h0.mem):=HM0.out;refine .inl ⟨_,rfl,fun _=>⟨⟨v5,HF5.out⟩,rfl⟩,?_⟩
 go_frame
 generalize bf plain pick r0 0 r0.h.pc=r1 at k5 a5 HS0 R1 C1 Z1 M1 T1;generalize iP plain pick r0.h=x at hx0 hx1 HS0 |-;clear hbd hq1 hq2 hq3 HR0 HC0 HZ0 HM0 A4 K4 HF4 HG4 HB4 N4;have hl5:w.heap.size+2<v5.heap.size:=by
  have:=(hpl HB5.out);omega
 refine ep 3 24 rfl ((Bp HP.out hpk r1 x v5 k5 a5 R1.out C1.out Z1.out hx0 hx1).mono ?_);rintro e v6 (⟨hz6,rfl,O6,ov6,ol6,k6,n6,ho6,a6⟩ | ⟨hz6,rfl,O6,ov6,hx6,ol6,k6,hkk,hun6,n6,ho6,a6⟩)
 rotate_left
 ·
  refine .inr ⟨_,rfl,?_⟩;have HB6:=Kp.hid HB5 n6 (hO1 _ (by omega));rw [<-HCA.out] at HB6;exact uB (O':=O6) HP.out v1.heap.size w.heap.size (w.heap.size+1) _ w v6 (gE plain pick r1 x) rfl HS0.out hz6 hby hrg k6 hkk (by rw [hun6,M1.out]) a6 HB6.out (n6.heap HF5.out (hO1 _ nle)) (n6.heap HG5.out (hO1 _ (Nat.le_succ _))) (fun h=>hO1 _ (by omega) (ho6 _ (by omega) h)) (fun h=>hO1 _ nle (ho6 _ (by omega) h)) (fun h=>hO1 _ (Nat.le_succ _) (ho6 _ (by omega) h)) (N5.out.trans n6) (fun i hi h=>ho6 i (by omega) h) (Nat.le_succ _)
 have HG6:=Kp.hid HG5 n6 (hO1 _ (Nat.le_succ _));have HF6:=Kp.hid HF5 n6 (hO1 _ nle);have N6:=hid (N5.out.trans n6);have K6:Hid _:=k6;have A6:Hid _:=a6;have Z6:Hid _:=hz6;have HO6:=hid ho6;refine .inl ⟨_,rfl,fun _=>⟨⟨v6,HF6.out⟩,rfl⟩,?_⟩
 go_frame
 refine dc ?_;clear k5 a5 k6 a6 n6 ho6 hz6 CT ne hsz D4 n5 n5' HF5 HG5 HF6 HB5 N5;have k0:=ab HG6.out 0 (v:=VI 0) rfl;have k1:=ab HG6.out 1 (v:=VU 0) rfl;have f0:=ap HG6.out 0;have f1:=ap HG6.out 1;go_wp2_with fail;have htv:(gE plain pick r1 x).tval=0:=Gn plain pick x R1.out.h.v.mode.1 T1.out Z6.out;have g7:=au (au (ao v6 (some (w.heap.size+1))) 0 (VI 0)) 1 (VU 0);have H7:Hid _:=bq (v:=VU 0) (i:=1) (bq (v:=VI 0) (i:=0) HG6.out);have n6:¬O6 (w.heap.size+1):=fun h=>hO1 _ (Nat.le_succ _) (HO6.out _ (by omega) h);have K:=K6.out;have hk7:=Kp.of_gb g7 rfl;have K7:MW ((v6.setCell ⟨w.heap.size+1,0,none⟩ (VI 0)).setCell ⟨w.heap.size+1,1,none⟩ (VU 0)) O6 X m ov6 (gE plain pick r1 x).h ol6:=
  ⟨hk7.heap K.blk (fun e=>n6 (e ▸ K.ob)),hk7.blk K.mem (fun e=>n6 (e ▸ K.om)),hk7.own K.old fun g e e'=>n6 (e' ▸ (K.oo g e).1),K.ob,K.om,K.oo,K.bm,K.xb,K.xm,fun i hi=>⟨(K.xo i hi).1,ltl (K.xo i hi).2 hk7.size⟩,K.byt,K.len,K.regs,K.oll,K.sh,fun i hi=>ltl (K.obd i hi) hk7.size,K.oln⟩
 generalize (v6.setCell ⟨w.heap.size+1,0,none⟩ (VI 0)).setCell ⟨w.heap.size+1,1,none⟩ (VU 0)=v7 at H7 hk7 K7 |-;refine leaves_cons (f:=57) (args:=#[PT v1.heap.size 0,PT w.heap.size 0,PT (w.heap.size+1) 0]) (by simp) (by kernel_rfl) ?_;refine (vX _ _ _ v7).mono ?_;rintro e u' w' ⟨rfl,rfl,hw⟩;rw [hw];have c0:=ab H7.out 0 (v:=VI 0) rfl;have c1:=ab H7.out 1 (v:=VU 0) rfl;refine ⟨.agg #[VI 0,VU 0],?_,?_⟩
 ·simp [results,Tryz.results19,go_sem,c0,c1]
 ·unfold pz;rw [HS0.out,Cj Z6.out,Z6.out,htv];refine ⟨rfl,O6,ov6,ol6,K7,?_,fun i hi h=>HO6.out i (by omega) h,?_⟩
  ·have N:=N6.out;refine ⟨hk7.os.trans N.os,hk7.tape.trans N.tape,hk7.output.trans N.output,Nat.le_trans N.size hk7.size,fun i hi ho=>?_⟩;rw [hk7.block i (ltl hi N.size) (by omega),N.block i hi ho]
  ·exact HP.out.frame _ _ _ A6.out hk7.size fun i hi=>hk7.block i (K.xo i hi).2 fun e=>n6 (e ▸ (K.xo i hi).1)
section
attribute [local go_sem ↓] Go.wp_at_zero Go.wp_at_succ
def pN (h:HartM):Prop:=((h.mem.length:Int)%64=0∧64<=(h.mem.length:Int)∧(h.mem.length:Int)<=4096)∧(h.regs.length:Int)=8∧h.regs[0]?.getD 0=0∧(0<=h.mode∧h.mode<=2)∧(0<=h.emode∧h.emode<=2)∧de h.satp=true∧h.tvec%4=0∧(0<=h.cause∧h.cause<=63)
theorem oK (h:HartM):(ez h.mem.length && iB h)=true↔pN h:=by
 simp only [ez,iB,pN,Bool.and_eq_true,decide_eq_true_eq,beq_iff_eq];constructor
 ·rintro ⟨⟨a,b,c⟩,⟨⟨⟨⟨⟨⟨d,e⟩,f⟩,g⟩,i⟩,j⟩,k⟩⟩;exact ⟨⟨by omega,by omega,by omega⟩,by omega,e,f,g,i,j,k⟩
 ·rintro ⟨⟨a,b,c⟩,d,e,f,g,i,j,k⟩;exact ⟨⟨by omega,by omega,by omega⟩,⟨⟨⟨⟨⟨⟨by omega,e⟩,f⟩,g⟩,i⟩,j⟩,k⟩⟩
theorem Bc {w:World} {a:Option Addr} {xs:List Int} (h:RowC w a xs.length 1 (cW xs)) (h8:xs.length=8):∃b off,a=some (AD b off)∧b<w.heap.size∧w.cell? (AD b off)=some (VU (xs[0]?.getD 0)):=by
 rcases h.2 with h0 | ⟨b,off,rfl,hlt,hc⟩
 ·omega
 ·refine ⟨b,off,rfl,hlt,?_⟩;have:=hc 0 (VU (xs[0]?.getD 0)) (by
   have:0<xs.length:=by omega
   simp [cW,geg this])
  simpa using this
theorem mU (n:Nat) (w:World) (hl:n<=1048576):Calls Tryz.prog 79 #[VI n] w fun e w'=>e=.returned (.bool (ez n))∧w'=w:=by
 obtain ⟨R,hR⟩:∃R,ez n=R:=⟨_,rfl⟩;have HF:Hid (R=true↔((n:Int)%64=0∧64<=(n:Int)∧(n:Int)<=4096)):=by
  show _↔_;rw [<-hR,ez,decide_eq_true_eq];omega
 rw [hR];clear hR;go_enter Tryz.func79,Tryz.ntmps79;go_wp2_with fail;all_goals (
  go_ret;refine ⟨?_,rfl⟩;have q:=HF.out;cases R with
  | false=>simp at q |- <;> omega
  | true=>simp at q |- <;> omega)
end
section
attribute [local go_sem ↓] Go.wp_at_zero Go.wp_at_succ
theorem ou (w:World) (n:Nat):Bw w (w.drewN n):=
 have h:=rr (ao w none) n
 ⟨h.os,h.tape,h.output,h.size,fun i hi=>h.block i hi (by simp)⟩
structure HartR (w:World) (p:PtrM) (h:HartM):Prop where
 mem:Byt w p.am h.mem.length h.mem
 regs:RowC w p.ar h.regs.length 1 (cW h.regs)
 r1:RowC w p.a1 h.k.i.es.length 6 (co h.k.i.es)
 r2:RowC w p.a2 h.k.d.es.length 6 (co h.k.d.es)
 r3:RowC w p.a3 h.k.p.es.length 6 (co h.k.p.es)
theorem HartR.keep {w w':World} {p:PtrM} {h:HartM} (k:HartR w p h) (hb:Bw w w'):HartR w' p h:=
 ⟨k.mem.keep hb,k.regs.keep hb,k.r1.keep hb,k.r2.keep hb,k.r3.keep hb⟩
theorem ky {e e':TypeId} {size size' base base' n n':Nat} {w:World} {s s':Value} {cs cs':List Value} (h:w.ownsRow base e size s n cs) (h':w.ownsRow base' e' size' s' n' cs') (he:e≠e'):gz s s':=by
 intro g h1 h2;rcases h'.2 with ⟨h3,_⟩ | ⟨g',cap,cur,h3,_,h4,_⟩
 ·rw [h3] at h2;simp [Value.ownBlock] at h2
 ·rw [h3] at h2;simp only [Value.ownBlock] at h2;have hg:=Option.some.inj h2;subst hg;exact bY h h4 (Ne.symm he) h1
def Gk (sm sr s1 s2 s3:Value) (i:Nat):Prop:=sm.ownBlock=some i∨sr.ownBlock=some i∨F8 s1 s2 s3 i
structure HartO (base:Nat) (w:World) (p:PtrM) (h:HartM) (cm cr c1 c2 c3:List Value):Prop where
 mem:w.ownsRow base 5 1 (.slice p.am h.mem.length p.cm) h.mem.length cm
 regs:w.ownsRow base 33 1 (.slice p.ar h.regs.length p.cr) h.regs.length cr
 r1:w.ownsRow base 154 6 (.slice p.a1 h.k.i.es.length p.c1) h.k.i.es.length c1
 r2:w.ownsRow base 154 6 (.slice p.a2 h.k.d.es.length p.c2) h.k.d.es.length c2
 r3:w.ownsRow base 154 6 (.slice p.a3 h.k.p.es.length p.c3) h.k.p.es.length c3
 d12:gz (.slice p.a1 h.k.i.es.length p.c1) (.slice p.a2 h.k.d.es.length p.c2)
 d13:gz (.slice p.a1 h.k.i.es.length p.c1) (.slice p.a3 h.k.p.es.length p.c3)
 d23:gz (.slice p.a2 h.k.d.es.length p.c2) (.slice p.a3 h.k.p.es.length p.c3)
abbrev DO (p:PtrM) (h:HartM):Nat->Prop:=Gk (.slice p.am h.mem.length p.cm) (.slice p.ar h.regs.length p.cr) (.slice p.a1 h.k.i.es.length p.c1) (.slice p.a2 h.k.d.es.length p.c2) (.slice p.a3 h.k.p.es.length p.c3)
theorem HartO.keep {base:Nat} {w w':World} {p:PtrM} {h:HartM} {cm cr c1 c2 c3:List Value} (k:HartO base w p h cm cr c1 c2 c3) (hb:Bw w w'):HartO base w' p h cm cr c1 c2 c3:=
 ⟨aq k.mem hb,aq k.regs hb,aq k.r1 hb,aq k.r2 hb,aq k.r3 hb,k.d12,k.d13,k.d23⟩
theorem HartO.gb {base:Nat} {w w':World} {p:PtrM} {h:HartM} {cm cr c1 c2 c3:List Value} {r:Nat} (k:HartO base w p h cm cr c1 c2 c3) (hg:w.grownBy w' (some r)) (hr:r<base):HartO base w' p h cm cr c1 c2 c3:=
 ⟨aE k.mem hg hr,aE k.regs hg hr,aE k.r1 hg hr,aE k.r2 hg hr,aE k.r3 hg hr,k.d12,k.d13,k.d23⟩
theorem HartO.low {base:Nat} {w:World} {p:PtrM} {h:HartM} {cm cr c1 c2 c3:List Value} (k:HartO base w p h cm cr c1 c2 c3):∀g,DO p h g->base<=g∧g<w.heap.size:=by
 rintro g (h1 | h1 | h1 | h1 | h1)
 ·exact k.mem.lt g h1
 ·exact k.regs.lt g h1
 ·exact k.r1.lt g h1
 ·exact k.r2.lt g h1
 ·exact k.r3.lt g h1
theorem HartO.read {base:Nat} {w:World} {p:PtrM} {h:HartM} (k:HartO base w p h (eh h.mem) (cW h.regs) (co h.k.i.es) (co h.k.d.es) (co h.k.p.es)) (hz:∀i:Nat,0<=h.mem[i]?.getD 0∧h.mem[i]?.getD 0<=255):HartR w p h:=by
 refine ⟨?_,eC k.regs,eC k.r1,eC k.r2,eC k.r3⟩;rcases pL k.mem with ⟨h1,h2,_⟩ | ⟨g,cap,h1⟩
 ·exact ⟨rfl,hz,.inl h2⟩
 ·have hm:=k.mem;rw [h1] at hm;have hx:p.am=some (AD g 0):=by
   simp only [Value.slice.injEq] at h1;exact h1.1
  rw [hx];refine ⟨rfl,hz,.inr ⟨g,0,rfl,(cQ hm).2.2,fun i hi=>?_⟩⟩;have:=aQ hm i (.int .u8 (h.mem[i]?.getD 0)) (by simp [eh,hi]);simpa using this
end
section
attribute [local go_sem ↓] Go.wp_at_zero Go.wp_at_succ
set_option maxRecDepth 100000 in
theorem Hb:∀n:Nat,n<256->(bits .and .u8 (n:Int) 4 != 0)=((n:Int)/4%2 == 1):=by decide
set_option maxRecDepth 100000 in
theorem Hc:∀n:Nat,n<256->(bits .and .u8 (n:Int) 8 != 0)=((n:Int)/8%2 == 1):=by decide
theorem wV (v:Value) (n:Nat):(madeCells #[v] n).toList=List.replicate n v:=by
 apply List.ext_getElem?;intro j;by_cases hj:j<n
 ·simp [madeCells,hj,Nat.mod_one]
 ·rw [List.getElem?_eq_none (by simp [madeCells];omega),List.getElem?_eq_none (by simp;omega)]
theorem Gz (n:Nat) (hn:n<=20000):∃cs:Array Value,cs.toList=cL (List.replicate n 0)∧∀u:World,(Instr.makeSlice 45 (.int .i64 (n:Int)) (.int .i64 (n:Int))).run Tryz.prog u=.ok (.slice (some ⟨u.heap.size,0,none⟩) n n) (u.alloc (.cells cs 2)):=by
 obtain ⟨i0,hi,hz0,hz1,hz2⟩:=info_parts Tryz.infoI;refine ⟨madeCells (Value.int .i64 0).cells (n*1),?_,fun u=>?_⟩
 ·rw [Nat.mul_one];exact (wV (.int .i64 0) n).trans (by simp [cL])
 ·have:=run_make (P:=Tryz.prog) u 45 2 i0 _ Tryz.underlying45 hi hz0 .i64 .i64 n n (by omega) (Int.le_refl _) (by rw [hz2];omega) (by omega);rw [hz1] at this;simpa using this
def pkl (zs:List Int) (p n t:Nat):List Int:=((List.range t).map fun j=>atM zs (p+j))++List.replicate (n-t) 0
theorem Db (zs:List Int) (p n t:Nat) (h:t<n):(cL (pkl zs p n t))[t]?=some (.int .i64 0):=by
 unfold pkl cL;rw [List.map_append,List.getElem?_append_right (by simp)];obtain ⟨m,hm⟩:∃m,n-t=m+1:=⟨n-t-1,by omega⟩;rw [hm,List.replicate_succ];simp
theorem EL (zs:List Int) (p n t:Nat) (h:t<n):(cL (pkl zs p n t)).set t (.int .i64 (atM zs (p+t)))=cL (pkl zs p n (t+1)):=by
 unfold pkl cL;rw [List.map_append,List.set_append_right _ _ (by simp),ij,List.map_append,List.map_append];obtain ⟨m,hm⟩:∃m,n-t=m+1:=⟨n-t-1,by omega⟩;rw [hm,show n-(t+1)=m by omega,List.replicate_succ];simp
theorem Bg (b len cap p n:Nat) (a:Option Addr) (zs:List Int) (w:World) (h:RdAt w b a len cap zs p) (hn:n<=20000):
 Calls Tryz.prog 50 #[.pointer (some ⟨b,0,none⟩),.int .i64 n] w fun e w'=>(∃g,e=.returned (.slice (some ⟨g,0,none⟩) n n)∧OwnC 2 1 w' w.heap.size g n n (cL ((List.range n).map fun j=>atM zs (p+j))))∧RdAt w' b a len cap zs (p+n)∧w.grownBy w' (some b):=by
 have HR:Hid _:=h;have HBd:=hid h.byt.2.1;have hbl:=h.lt;clear h;obtain ⟨cs,hcs,hmk⟩:=Gz n hn;have n0:=(Below.refl w.heap.size w).alloc nle (Obj.cells cs 2);have O0:Hid (OwnC 2 1 (w.alloc (Obj.cells cs 2)) w.heap.size w.heap.size n n (cL (pkl zs p n 0))):=by
  have:=OwnC.new 2 1 w cs.toList n (by rw [hcs];simp [cL]) (by unfold maxLen;omega);rw [Array.toArray_toList,hcs] at this;exact this
 have HR0:Hid _:=HR.out.keep n0;have G0:Hid _:=Ar (r:=some b) n0;clear n0 hcs;go_enter Tryz.func50,Tryz.ntmps50;go_wp2;go_loopw [11] (fun iv wr=>∃(t:Nat),t<=n∧iv=.int .i64 t∧RdAt wr b a len cap zs (p+t)∧OwnC 2 1 wr w.heap.size w.heap.size n n (cL (pkl zs p n t))∧w.grownBy wr (some b)) (fun iv _=>n-(intOf iv).toNat)
 case atStart=>exact ⟨0,Nat.zero_le _,rfl,HR0.out,O0.out,G0.out⟩
 case round=>
  clear O0 HR0 G0;obtain ⟨t,ht,rfl,hR,hO,hG⟩:=hrel;have HRt:Hid _:=hR;have HOt:Hid _:=hO;have HGt:Hid _:=hG;clear hR hO hG;by_cases htn:t<n
  ·obtain ⟨L,hL⟩:∃L,atM zs (p+t)=L:=⟨_,rfl⟩;have HL:Hid _:=hL;have hb:=HBd.out (p+t);rw [show zs[p+t]?.getD 0=L from hL] at hb;obtain ⟨hb1,hb2⟩:=hb;clear hL;go_wp2_with fail;refine (iI b len cap (p+t) a zs wr HRt.out).mono ?_;rintro e v1 ⟨rfl,hR1,hG1⟩;rw [HL.out];have O1:=OwnC.gb HOt.out hG1 (show w.heap.size≠b by omega);have c1:=aQ O1 t (.int .i64 0) (Db zs p n t htn);have f1:=bL O1 t;have hsz:=(OwnC.facts O1).2.2.1;have O2:Hid (OwnC 2 1 (v1.setCell ⟨w.heap.size,t,none⟩ (.int .i64 L)) w.heap.size w.heap.size n n (cL (pkl zs p n (t+1)))):=by
    have:=br O1 t (.int .i64 L);rw [<-HL.out,EL zs p n t htn,HL.out] at this;exact this
   have g2:=au (ao v1 (some w.heap.size)) t (.int .i64 L);have HR2:Hid _:=hR1.gb g2 (show b≠w.heap.size by omega) (HR.out.off nle);have HG2:Hid (w.grownBy (v1.setCell ⟨w.heap.size,t,none⟩ (.int .i64 L)) (some b)):=by
    have h0:=dY HGt.out hG1;exact ⟨g2.os.trans h0.os,g2.tape.trans h0.tape,g2.output.trans h0.output,Nat.le_trans h0.size g2.size,fun k hk hne=>(g2.block k (ltl hk h0.size) (by simp;omega)).trans (h0.block k hk hne)⟩
   clear O1 g2 hR1 hG1;go_wp2_with fail;refine ⟨⟨t+1,by omega,by go_num,HR2.out,O2.out,HG2.out⟩,?_⟩;simp [intOf];omega
  ·have ht':t=n:=by omega
   subst ht';go_wp2;go_ret;refine ⟨⟨_,rfl,?_⟩,HRt.out,HGt.out⟩;have:=HOt.out;unfold pkl at this;rw [Nat.sub_self,List.replicate_zero,List.append_nil] at this;exact this
theorem wW (b len cap p hb:Nat) (a:Option Addr) (zs:List Int) (q:PtrM) (h:HartM) (w:World) (hR:RdAt w b a len cap zs p) (hB:w.heap[hb]?=some (.cells (ak q h) 44 (0,0))) (hne:b≠hb) (hna:0<len->∀x,a=some x->x.block≠hb):
 Calls Tryz.prog 45 #[.pointer (some ⟨b,0,none⟩),.pointer (some ⟨hb,0,none⟩)] w fun e w'=>e=.returned (.tuple #[])∧w'.heap[hb]?=some (.cells (ak q ⟨h.mem,h.regs,h.pc,bQ (atM zs p),atM zs p/4%2 == 1,atM zs p/8%2 == 1,h.satp,h.tvec,h.epc,bQ (atM zs p),h.cause,h.tval,h.k⟩) 44 (0,0))∧RdAt w' b a len cap zs (p+1)∧Keeps w w' b hb hb:=by
 have HR:Hid _:=hR;have HB:Hid _:=hB;have hb':=hR.byt.2.1 p;have hbl:=hR.lt;have hhl:=(hpl hB);have HNa:Hid _:=hna;clear hR hB hna;obtain ⟨y,hy⟩:∃y,atM zs p=y:=⟨_,rfl⟩;rw [show zs[p]?.getD 0=y from hy] at hb';have HY:Hid _:=hy;rw [hy];clear hy;obtain ⟨hy1,hy2⟩:=hb';have HA4:Hid ((bits .and .u8 y 4 != 0)=(y/4%2 == 1)):=by
  obtain ⟨n,rfl⟩:=Int.eq_ofNat_of_zero_le hy1;exact Hb n (by omega)
 have HA8:Hid ((bits .and .u8 y 8 != 0)=(y/8%2 == 1)):=by
  obtain ⟨n,rfl⟩:=Int.eq_ofNat_of_zero_le hy1;exact Hc n (by omega)
 go_enter Tryz.func45,Tryz.ntmps45;go_wp2_with fail;refine (iI b len cap p a zs w HR.out).mono ?_;rintro e v1 ⟨rfl,hR1,hG1⟩;rw [HY.out];have HR1:Hid _:=hR1;have HG1:Hid _:=hG1;have HB1:Hid _:=aA HB.out hG1 (Ne.symm hne);have hs1:=hG1.size;clear hR1 hG1;have c3:=ab HB1.out 3 (show (ak q h)[3]?=some (.int .i64 h.mode) from rfl);have f3:=ap HB1.out 3;have hh1:hb<v1.heap.size:=by omega
 go_upto_region 2 with fail;clear c3 f3;have B2:Hid ((v1.setCell ⟨hb,3,none⟩ (.int .i64 (y%4))).heap[hb]?=some (.cells (ak q (⟨h.mem,h.regs,h.pc,(y%4),h.sum,h.mxr,h.satp,h.tvec,h.epc,h.emode,h.cause,h.tval,h.k⟩:HartM)) 44 (0,0))):=cf HB1.out 3 _;have g2:=au (ao v1 (some hb)) 3 (.int .i64 (y%4));obtain ⟨md,hmd⟩:∃md,y%4=md:=⟨_,rfl⟩;have HM0:Hid _:=hmd;have hmb:0<=md∧md<=3:=by omega
 rw [hmd] at B2 g2 |-;generalize v1.setCell ⟨hb,3,none⟩ (.int .i64 md)=v2 at B2 g2 |-;clear hmd;have c3:=ab B2.out 3 (show (ak q (⟨h.mem,h.regs,h.pc,md,h.sum,h.mxr,h.satp,h.tvec,h.epc,h.emode,h.cause,h.tval,h.k⟩:HartM))[3]?=some (.int .i64 md) from rfl);have hh2:=(hpl B2.out);have f3:=ap B2.out 3;go_wp2_with fail;refine (ja md v2).mono ?_;rintro e v' ⟨rfl,hv'⟩;rw [hv'];clear hv' v';by_cases hm3:md=3
 ·subst hm3;have HMd:Hid (bQ y=1):=by show _=_;unfold bQ;rw [HM0.out];rfl
  go_upto_region 4 with fail;have B3:Hid ((v2.setCell ⟨hb,3,none⟩ (.int .i64 1)).heap[hb]?=some (.cells (ak q (⟨h.mem,h.regs,h.pc,1,h.sum,h.mxr,h.satp,h.tvec,h.epc,h.emode,h.cause,h.tval,h.k⟩:HartM)) 44 (0,0))):=cf B2.out 3 _;have g3:Hid _:=dY g2 (au (ao v2 (some hb)) 3 (.int .i64 1));clear c3 f3 HM0;generalize v2.setCell ⟨hb,3,none⟩ (.int .i64 1)=v3 at B3 g3 |-;have c3:=ab B3.out 3 (show (ak q (⟨h.mem,h.regs,h.pc,1,h.sum,h.mxr,h.satp,h.tvec,h.epc,h.emode,h.cause,h.tval,h.k⟩:HartM))[3]?=some (.int .i64 1) from rfl);have c9:=ab B3.out 9 (show (ak q (⟨h.mem,h.regs,h.pc,1,h.sum,h.mxr,h.satp,h.tvec,h.epc,h.emode,h.cause,h.tval,h.k⟩:HartM))[9]?=some (.int .i64 h.emode) from rfl);have c4:=ab B3.out 4 (show (ak q (⟨h.mem,h.regs,h.pc,1,h.sum,h.mxr,h.satp,h.tvec,h.epc,h.emode,h.cause,h.tval,h.k⟩:HartM))[4]?=some (.bool h.sum) from rfl);have c5:=ab B3.out 5 (show (ak q (⟨h.mem,h.regs,h.pc,1,h.sum,h.mxr,h.satp,h.tvec,h.epc,h.emode,h.cause,h.tval,h.k⟩:HartM))[5]?=some (.bool h.mxr) from rfl);have f9:=ap B3.out 9;have f4:=ap B3.out 4;have f5:=ap B3.out 5;have hh3:=(hpl B3.out);have hA4:=HA4.out;have hA8:=HA8.out;have B6:Hid ((((v3.setCell ⟨hb,9,none⟩ (.int .i64 1)).setCell ⟨hb,4,none⟩ (.bool (y/4%2 == 1))).setCell ⟨hb,5,none⟩ (.bool (y/8%2 == 1))).heap[hb]?=some (.cells (ak q (⟨h.mem,h.regs,h.pc,1,(y/4%2 == 1),(y/8%2 == 1),h.satp,h.tvec,h.epc,1,h.cause,h.tval,h.k⟩:HartM)) 44 (0,0))):=cf (cf (cf B3.out 9 _) 4 _) 5 _;have g6:Hid (v3.grownBy (((v3.setCell ⟨hb,9,none⟩ (.int .i64 1)).setCell ⟨hb,4,none⟩ (.bool (y/4%2 == 1))).setCell ⟨hb,5,none⟩ (.bool (y/8%2 == 1))) (some hb)):=au (au (au (ao v3 (some hb)) 9 _) 4 _) 5 _;go_wp2_with fail;have G6:=g6.out;have G3:=g3.out;go_end0;refine ⟨rfl,?_,(HR1.out.gb G3 hne HNa.out).gb G6 hne HNa.out,?_⟩
  ·rw [HMd.out];exact B6.out
  ·have hG:=HG1.out;have h1:=G3.size;exact ⟨G6.os.trans (G3.os.trans hG.os),G6.tape.trans (G3.tape.trans hG.tape),G6.output.trans (G3.output.trans hG.output),by have:=G6.size;omega,fun k hk n1 n2 _=>(G6.block k (by omega) (by simpa using n2)).trans ((G3.block k (by omega) (by simpa using n2)).trans (hG.block k hk (by simpa using n1)))⟩
 ·have HMd:Hid (bQ y=md):=by show _=_;unfold bQ;rw [HM0.out,if_neg hm3]
  have hdd:decide (0<=md∧md<=2)=true:=by simp;omega
  rw [hdd];go_upto_region 4 with fail;have B3:=B2;have g3:Hid _:=g2;clear c3 f3 HM0 hdd hm3;generalize v2=v3 at B3 g3 |-;have c3:=ab B3.out 3 (show (ak q (⟨h.mem,h.regs,h.pc,md,h.sum,h.mxr,h.satp,h.tvec,h.epc,h.emode,h.cause,h.tval,h.k⟩:HartM))[3]?=some (.int .i64 md) from rfl);have c9:=ab B3.out 9 (show (ak q (⟨h.mem,h.regs,h.pc,md,h.sum,h.mxr,h.satp,h.tvec,h.epc,h.emode,h.cause,h.tval,h.k⟩:HartM))[9]?=some (.int .i64 h.emode) from rfl);have c4:=ab B3.out 4 (show (ak q (⟨h.mem,h.regs,h.pc,md,h.sum,h.mxr,h.satp,h.tvec,h.epc,h.emode,h.cause,h.tval,h.k⟩:HartM))[4]?=some (.bool h.sum) from rfl);have c5:=ab B3.out 5 (show (ak q (⟨h.mem,h.regs,h.pc,md,h.sum,h.mxr,h.satp,h.tvec,h.epc,h.emode,h.cause,h.tval,h.k⟩:HartM))[5]?=some (.bool h.mxr) from rfl);have f9:=ap B3.out 9;have f4:=ap B3.out 4;have f5:=ap B3.out 5;have hh3:=(hpl B3.out);have hA4:=HA4.out;have hA8:=HA8.out;have B6:Hid ((((v3.setCell ⟨hb,9,none⟩ (.int .i64 md)).setCell ⟨hb,4,none⟩ (.bool (y/4%2 == 1))).setCell ⟨hb,5,none⟩ (.bool (y/8%2 == 1))).heap[hb]?=some (.cells (ak q (⟨h.mem,h.regs,h.pc,md,(y/4%2 == 1),(y/8%2 == 1),h.satp,h.tvec,h.epc,md,h.cause,h.tval,h.k⟩:HartM)) 44 (0,0))):=cf (cf (cf B3.out 9 _) 4 _) 5 _;have g6:Hid (v3.grownBy (((v3.setCell ⟨hb,9,none⟩ (.int .i64 md)).setCell ⟨hb,4,none⟩ (.bool (y/4%2 == 1))).setCell ⟨hb,5,none⟩ (.bool (y/8%2 == 1))) (some hb)):=au (au (au (ao v3 (some hb)) 9 _) 4 _) 5 _;go_wp2_with fail;have G6:=g6.out;have G3:=g3.out;go_end0;refine ⟨rfl,?_,(HR1.out.gb G3 hne HNa.out).gb G6 hne HNa.out,?_⟩
  ·rw [HMd.out];exact B6.out
  ·have hG:=HG1.out;have h1:=G3.size;exact ⟨G6.os.trans (G3.os.trans hG.os),G6.tape.trans (G3.tape.trans hG.tape),G6.output.trans (G3.output.trans hG.output),by have:=G6.size;omega,fun k hk n1 n2 _=>(G6.block k (by omega) (by simpa using n2)).trans ((G3.block k (by omega) (by simpa using n2)).trans (hG.block k hk (by simpa using n1)))⟩
end
section
attribute [local go_sem ↓] Go.wp_at_zero Go.wp_at_succ
theorem tlbIn.ok {w:World} {t:TlbM} {a:Option Addr} {cap:Nat} (h:tlbIn w t a cap) (hl:t.es.length<=1048576):fQ t:=⟨h.2.1,h.2.2.1,h.2.2.2.1,hl⟩
end
section
attribute [local go_sem ↓] Go.wp_at_zero Go.wp_at_succ
theorem HartO.box_ne {base pb:Nat} {w:World} {p:PtrM} {h:HartM} {cm cr c1 c2 c3:List Value} {T:TypeId} {cur:Array Value} {q:Nat × Nat} (k:HartO base w p h cm cr c1 c2 c3) (hp:w.heap[pb]?=some (.cells cur T q)) (t1:T≠5) (t2:T≠33) (t3:T≠154):¬DO p h pb:=by
 rintro (h1 | h1 | h1 | h1 | h1)
 ·exact bY k.mem hp t1 h1
 ·exact bY k.regs hp t2 h1
 ·exact bY k.r1 hp t3 h1
 ·exact bY k.r2 hp t3 h1
 ·exact bY k.r3 hp t3 h1
theorem HartO.kept {base base' n:Nat} {w w':World} {p:PtrM} {h:HartM} {cm cr c1 c2 c3 cs:List Value} {s:Value} (k:HartO base w p h cm cr c1 c2 c3) (hs:w.ownsRow base' 2 1 s n cs) (hg:w.grownBy w' s.ownBlock):HartO base w' p h cm cr c1 c2 c3:=
 ⟨lK k.mem hg (ky k.mem hs (by decide)),lK k.regs hg (ky k.regs hs (by decide)),lK k.r1 hg (ky k.r1 hs (by decide)),lK k.r2 hg (ky k.r2 hs (by decide)),lK k.r3 hg (ky k.r3 hs (by decide)),k.d12,k.d13,k.d23⟩
def srq (p:PtrM) (h:HartM) (pa:Option Addr) (pc:Nat) (ps:List Int) (g:Nat):Prop:=DO p h g∨(Value.slice pa ps.length pc).ownBlock=some g
end
section
attribute [local go_sem ↓] Go.wp_at_zero Go.wp_at_succ
theorem yW (base g len cap k:Nat) (zs:List Int) (val:Int) (w:World) (h:OwnC 5 1 w base g len cap (eh zs)) (hz:zs.length=len) (hk:k<len) (hl:len<=1048576) (hv0:0<=val) (hv1:val<=255):
 Calls Tryz.prog 76 #[SL g len cap,VU k,VU val] w fun e w'=>e=.returned (.tuple #[])∧OwnC 5 1 w' base g len cap (eh (zs.set k val))∧w.grownBy w' (some g):=by
 have g2:=aQ h k (.int .u8 (zs[k]?.getD 0)) (by
  have:k<zs.length:=by omega
  simp [eh,this])
 have g3:=bL h k;have O2:Hid (OwnC 5 1 (w.setCell (AD g k) (.int .u8 val)) base g len cap (eh (zs.set k val))):=by
  have:=br h k (.int .u8 val);rw [show (eh zs).set k (.int .u8 val)=eh (zs.set k val) by simp [eh,List.map_set]] at this;exact this
 have G2:Hid _:=au (ao w (some g)) k (.int .u8 val);have hg:=(OwnC.facts h).2.2.1;clear h;go_enter Tryz.func76,Tryz.ntmps76;go_wp2;go_end0;have e:IntKind.u8.wrap val=val:=by show val%256=val;omega
 exact ⟨rfl,O2.out,G2.out⟩
theorem rE (zs:List Int) (p:Nat):lZ zs p 2=atM zs p+256*atM zs (p+1):=by
 rw [qa,qa];simp [lZ,num]
theorem EB (b len cap p base g n mc:Nat) (a:Option Addr) (zs mem:List Int) (w:World) (hR:RdAt w b a len cap zs p) (hM:OwnC 5 1 w base g n mc (eh mem)) (hml:mem.length=n) (hn:n<=4096) (hgb:g≠b) (hga:0<len->∀x,a=some x->x.block≠g):
 Calls Tryz.prog 49 #[PT b 0,SL g n mc] w fun e w'=>e=.returned (.tuple #[])∧RdAt w' b a len cap zs (p+3+(atM zs (p+2)).toNat)∧OwnC 5 1 w' base g n mc (eh (lE zs (atM zs (p+2)).toNat (p+3) (qN zs p) mem))∧Keeps w w' b g g:=by
 have HR:Hid _:=hR;have HM:Hid _:=hM;have HGa:Hid _:=hga;have HBd:Hid (∀i:Nat,0<=atM zs i∧atM zs i<=255):=hR.byt.2.1;clear hR hM hga;obtain ⟨A,hA⟩:∃A:Nat,qN zs p=A:=⟨_,rfl⟩;have hb0:=HBd.out p;have hb1:=HBd.out (p+1);have hb2:=HBd.out (p+2);have HA:Hid (lZ zs p 2=(A:Int)):=by show _=_;rw [rE,<-hA];unfold qN;omega
 have hA2:A<=65535:=by rw [<-hA];unfold qN;omega
 obtain ⟨m,hm⟩:∃m:Nat,atM zs (p+2)=m:=⟨(atM zs (p+2)).toNat,by omega⟩;have Hm:Hid _:=hm;rw [hm] at hb2;have hm2:m<=255:=by omega
 rw [hA,hm,Int.toNat_natCast];clear hA hm hb0 hb1 hb2;go_enter Tryz.func49,Tryz.ntmps49;go_wp2_with fail;refine (ip b len cap p 2 a zs w HR.out (by omega)).mono ?_;rintro e v1 ⟨rfl,hR1,hG1⟩;rw [HA.out];have HR1:Hid _:=hR1;have HG1:Hid _:=hG1;clear hR1 hG1;go_wp2_with fail;refine (iI b len cap (p+2) a zs v1 HR1.out).mono ?_;rintro e v2 ⟨rfl,hR2,hG2⟩;rw [Hm.out];have hG:=dY HG1.out hG2;have HR2:Hid _:=hR2;have HM2:Hid _:=OwnC.gb HM.out hG hgb;have K2:=hid (Keeps.of_gb b g g hG (.inl rfl));clear hR2 hG2 hG HG1 HR1;go_wp2;go_loopw [4,10] (fun av cv wr=>∃(k:Nat) (mk:List Int),k<=m∧cv=.int .u8 k∧av=VU ((A+k:Nat):Int)∧RdAt wr b a len cap zs (p+3+k)∧lE zs m (p+3) A mem=lE zs (m-k) (p+3+k) (A+k) mk∧mk.length=n∧OwnC 5 1 wr base g n mc (eh mk)∧Keeps w wr b g g) (fun _ cv _=>m-(intOf cv).toNat)
 case atStart=>exact ⟨0,mem,Nat.zero_le _,rfl,rfl,HR2.out,rfl,hml,HM2.out,K2.out⟩
 case round=>
  clear HR2 HM2 K2;obtain ⟨k,mk,hk,rfl,rfl,hRk,hLk,hmk,hOk,hKk⟩:=hrel;have HRk:Hid _:=hRk;have HLk:Hid _:=hLk;have HOk:Hid _:=hOk;have HKk:Hid _:=hKk;clear hRk hLk hOk hKk;by_cases hkm:k<m
  ·obtain ⟨z,hz⟩:∃z,atM zs (p+3+k)=z:=⟨_,rfl⟩;have HZ:Hid _:=hz;have bz:=HBd.out (p+3+k);rw [hz] at bz;obtain ⟨hz1,hz2⟩:=bz;clear hz;go_wp2_with fail;refine (iI b len cap (p+3+k) a zs wr HRk.out).mono ?_;rintro e v3 ⟨rfl,hR3,hG3⟩;rw [HZ.out];have HR3:Hid _:=hR3;have HO3:Hid _:=OwnC.gb HOk.out hG3 hgb;have K3:=hid (Keeps.trans HKk.out (Keeps.of_gb b g g hG3 (.inl rfl)));clear hR3 hG3;by_cases hin:A+k<n
   ·have HI:Hid (fD n ((A+k:Nat):Int) 1=true):=by show _=_;simp only [fD,decide_eq_true_eq];omega
    go_wp2_with fail;refine (qZ (some (AD g 0)) n mc ((A+k:Nat):Int) 1 v3 (by omega) (by omega) (by omega) (by omega) (by omega)).mono ?_;rintro e v' ⟨rfl,hv'⟩;rw [hv',HI.out];clear hv' v';go_wp2_with fail;refine (yW base g n mc (A+k) mk z v3 HO3.out hmk hin (by omega) hz1 hz2).mono ?_;rintro e v4 ⟨rfl,hO4,hG4⟩;have HO4:Hid _:=hO4;have HR4:Hid _:=HR3.out.gb hG4 (Ne.symm hgb) HGa.out;have K4:=hid (Keeps.trans K3.out (Keeps.of_gb b g g hG4 (.inr (.inl rfl))));clear hO4 hG4;go_wp2_with fail;refine ⟨⟨k+1,mk.set (A+k) z,by omega,by go_num,by go_num,HR4.out,?_,by rw [List.length_set];exact hmk,HO4.out,K4.out⟩,?_⟩
    ·rw [HLk.out,show m-k=(m-(k+1))+1 by omega,lE,if_pos (by omega),HZ.out];rfl
    ·simp [intOf];omega
   ·have HI:Hid (fD n ((A+k:Nat):Int) 1=false):=by show _=_;simp only [fD,decide_eq_false_iff_not];omega
    go_wp2_with fail;refine (qZ (some (AD g 0)) n mc ((A+k:Nat):Int) 1 v3 (by omega) (by omega) (by omega) (by omega) (by omega)).mono ?_;rintro e v' ⟨rfl,hv'⟩;rw [hv',HI.out];clear hv' v';go_wp2_with fail;refine ⟨⟨k+1,mk,by omega,by go_num,by go_num,HR3.out,?_,hmk,HO3.out,K3.out⟩,?_⟩
    ·rw [HLk.out,show m-k=(m-(k+1))+1 by omega,lE,if_neg (by omega)];rfl
    ·simp [intOf];omega
  ·have hkm':k=m:=by omega
   subst hkm';go_wp2;go_end0;have e:=HLk.out;rw [Nat.sub_self,lE] at e;rw [e];exact ⟨rfl,HRk.out,HOk.out,HKk.out⟩
end
end Go.Proofs.YthdgiakgepmabaaGreat
