import Derived.Test.YtkenjknmfhoppaaGreatSk44
import Derived.Test.YtkenjknmfhoppaaGreatSk34
import Derived.Test.YtkenjknmfhoppaaGreatSk42
namespace Go.Proofs.YtkenjknmfhoppaaGreat
open Go.RowKit
set_option linter.unusedVariables false
set_option maxHeartbeats 6400000
set_option maxRecDepth 20000
abbrev Du:Array Value:=#[VU 0,VU 0,VU 0,VU 0,VU 0,VU 0,VU 0,VU 0,VU 0,VI 0,.bool false,.bool false,VU 0,VU 0,VU 0,VI 0,VI 0,VU 0]
def TZ (r:RunM):Prop:=r.cause=0->r.tval=0
theorem tu (plain:Bool) (pick kind:Int):∀(ps:List bM) (r:RunM),TZ r->TZ (ao plain pick kind r ps).1
 | [],r,h=>h
 | p::ps,r,h=>by
  unfold ao;split
  ·exact tu plain pick kind ps _ h
  ·rename_i hz;exact fun e=>absurd e hz
theorem BS (plain:Bool) (pick kind va n:Int) {r:RunM} (h:TZ r):TZ (aP plain pick r kind va n).1:=by
 unfold aP;split
 ·split
  ·exact tu plain pick kind _ r h
  ·exact fun e=>absurd e (fp kind)
 ·exact tu plain pick kind _ r h
theorem Fz {c:Prop} [Decidable c] {a b:RunM} (ha:TZ a) (hb:TZ b):TZ (if c then a else b):=by
 by_cases h:c
 ·rw [if_pos h];exact ha
 ·rw [if_neg h];exact hb
theorem F6 (plain:Bool) (pick:Int) {r:RunM} (pc op a b c s x:Int) (hm:0<=r.h.mode) (h:TZ r):TZ (doM plain pick r pc op a b c s x):=by
 unfold doM oz jX tX;repeat' (with_reducible refine Fz ?_ ?_)
 all_goals first
  | exact h
  | exact BS plain pick _ _ _ h
  | exact fun e=>absurd e (show (2:Int)≠0 by omega)
  | exact fun e=>absurd e (show 8+r.h.mode≠0 by omega)
theorem FA (plain:Bool) (pick:Int) {r:RunM} (x:Int) (hm:0<=r.h.mode) (h:TZ r):TZ (kD plain pick r x):=F6 plain pick _ _ _ _ _ _ _ hm h
def rL (plain:Bool) (pick:Int) (h0:HartM) (O X:Nat->Prop) (m:MP) (PA:World->RunM->Prop) (w:World) (e:Ending) (w':World):Prop:=
 e=.returned (.agg #[VI (fQ plain pick h0).cause,VU (fQ plain pick h0).tval])∧∃O' ov' ol',MW w' O' X m ov' (fQ plain pick h0).h ol'∧Kp O w w'∧(∀i,i<w.heap.size->O' i->O i)∧PA w' (fQ plain pick h0)
theorem Dv (T:Array Value) (d:Nat) (hd:d≠4) (v:Value):results Tryz.f27 (T.setIfInBounds d v)=results Tryz.f27 T:=by
 simp [results,Tryz.results27,Array.getElem?_setIfInBounds,hd]
theorem zP {R:Ending->World->Prop} (x:List PanicEntry) (a:Act) (d:Option Tmp) (hd:d≠some 4) (v:Value) (w:World) (h:bodyPostD Tryz.prog Tryz.f27 R (.panic x) (a.put d v) w):bodyPostD Tryz.prog Tryz.f27 R (.panic x) a w:=by
 cases d with
 | none=>exact h
 | some d=>exact mF (Dv a.tmps d (fun e=>hd (e ▸ rfl)) v) _ _ _ h
abbrev F7 (pb pm pt:Nat):Deferred:={ target:=.fn (.func 75) #[PT pb 0,PT pm 0,PT pt 0],args:=#[] }
theorem F8 (plain:Bool) (pick:Int) (h0:HartM) (r:RunM) (hc:r.cause≠0):(pU h0 r).cause=r.cause∧(pU h0 r).tval=r.tval∧(pU h0 r).h=dZ h0 r:=by
 unfold pU;rw [if_neg hc];exact ⟨rfl,rfl,rfl⟩
theorem BT {h0:HartM} {r:RunM} (hc:r.cause=0):pU h0 r=r:=if_pos hc
theorem uQ {plain:Bool} {pick:Int} {h0:HartM} {O O' X:Nat->Prop} {PI:World->Prop} {PA:World->RunM->Prop} {m:MP} (hp:PathOk m plain pick h0 X PI PA) {ov:Value} {hx:HartM} {ol:List (Nat × Int)} (pb pm pt:Nat) (T:Array Value) (w v:World) (r:RunM)
 (hT:T[4]?=some (PT pt 0)) (hs:fQ plain pick h0=pU h0 r) (hc:r.cause≠0) (hby:BytM h0.mem) (hrg:h0.regs.length=8)
 (k:MW v O' X m ov hx ol) (hk:hx.k=r.h.k) (hun:ia ol hx.mem=h0.mem) (hA:PA v r)
 (h1:v.heap[pb]?=some (.cells (hZ h0) 81 (0,0))) (h2:v.heap[pm]?=some (.cells #[PT m.b 0] 75 (0,0))) (h3:v.heap[pt]?=some (.cells #[VI 0,VU 0] 99 (0,0))) (n1:¬O' pb) (n2:¬O' pm) (n3:¬O' pt)
 (N:Kp O w v) (hO:∀i,i<w.heap.size->O' i->O i) (hpt:w.heap.size<=pt):
 Leaves Tryz.prog Tryz.f27 T (rL plain pick h0 O X m PA w) [F7 pb pm pt] (.panicking [lK r.cause r.tval]) v:=by
 refine leaves_cons (f:=75) (args:=#[PT pb 0,PT pm 0,PT pt 0]) (by simp) (by kernel_rfl) ?_;refine (wk pb pm pt r.cause r.tval v k hun hby hrg h1 h2 h3 n1 n2 n3).mono ?_;rintro e u' w' ⟨rfl,rfl,k',h3',kp⟩;have kb:=k.ob;have km:=k.om;have c0:=ab h3' 0 (v:=VI r.cause) rfl;have c1:=ab h3' 1 (v:=VU r.tval) rfl;have e:=F8 plain pick h0 r hc;refine ⟨.agg #[VI r.cause,VU r.tval],?_,?_⟩
 ·simp [results,Tryz.results27,go_sem,hT,c0,c1]
 ·unfold rL;rw [hs,e.1,e.2.1,e.2.2];refine ⟨rfl,O',ov,ol,?_,?_,hO,?_⟩
  ·unfold dZ;rw [<-hk];exact k'
  ·refine ⟨kp.os.trans N.os,kp.tape.trans N.tape,kp.output.trans N.output,Nat.le_trans N.size kp.size,fun i hi ho=>?_⟩;rw [kp.block i (ltl hi N.size) ?_,N.block i hi ho];rintro (e | e | e)
   ·exact ho (hO i hi (e ▸ kb))
   ·exact ho (hO i hi (e ▸ km))
   ·omega
  ·refine hp.congr _ r _ (hp.frame _ _ _ hA kp.size fun i hi=>?_) ?_ ?_ ?_ ?_
   ·refine kp.block i (k.xo i hi).2 ?_;rintro (e | e | e)
    ·exact k.xb (e ▸ hi)
    ·exact k.xm (e ▸ hi)
    ·exact n3 (e ▸ (k.xo i hi).1)
   all_goals (unfold pU;rw [if_neg hc];rfl)
theorem FC {plain:Bool} {pick:Int} {h0:HartM} {O X:Nat->Prop} {PI:World->Prop} {PA:World->RunM->Prop} {m:MP} (hp:PathOk m plain pick h0 X PI PA) (hpk:0<=pick∧pick<=255) {ov:Value} {ol:List (Nat × Int)} (w:World)
 (k:MW w O X m ov h0 ol) (hI:PI w) (hh:HOk h0):
 Calls Tryz.prog 27 #[PT m.b 0,VI pick] w fun e w'=>rL plain pick h0 O X m PA w e w':=by
 have HK:Hid _:=k;have HI:Hid _:=hI;have HP:Hid _:=hp;have HH:Hid _:=hh;have hb:=k.lt;have F:=jI w #[PT m.b 0] #[VI 0,VU 0] 75 99;have hmf:∀(fn:Fn) (first cap:Array Value) (w:World),(Instr.makeFunc fn first cap).run Tryz.prog w=.ok (.func fn first cap) w:=fun _ _ _ _=>rfl;clear k hI hp hh
 go_enter_defers Tryz.func27,Tryz.ntmps27
 go_upto_region 1 with fail;generalize (w.alloc (Obj.cells #[PT m.b 0] 75)).alloc (Obj.cells #[VI 0,VU 0] 99)=v1 at F |-;obtain ⟨f1,f2,f3,n1⟩:=F;have K1:=hid (HK.out.low n1);have HF1:Hid _:=f1;have HG1:Hid _:=f2;have HN1:Hid _:=n1;have cm:=ab f1 0 (v:=PT m.b 0) rfl;have hsz:v1.heap.size=w.heap.size+2:=by omega
 have HSz:Hid _:=hsz;clear f1 f2 f3 n1;have HL:Hid _:=de (P:=Tryz.prog) (T:=81) (o:=0) (n:=18) K1.out.blk Tryz.underlying81 rfl (hZ h0).toList Ay rfl (by simp [hZ]);obtain ⟨v2,hs2,hb2,hsz2,n2⟩:∃v',(Instr.storeAt 81 (PT v1.heap.size 0) (.agg (hZ h0))).run Tryz.prog (v1.alloc (Obj.cells Du 81))=.ok () v'∧v'.heap[v1.heap.size]?=some (.cells (hZ h0) 81 (0,0))∧v'.heap.size=v1.heap.size+1∧Bw v1 v':=by
  have a:=cw v1 Du 81;refine ⟨_,bq (P:=Tryz.prog) (T:=81) a.1 Ay rfl (by simp [hZ,Value.oneCell']),aT a.1 rfl,?_,?_⟩
  ·rw [cV,a.2.1]
  ·exact aS nle _ _ _ a.2.2
 have HS:Hid _:=hs2;clear hs2 hsz;obtain ⟨CA,hCA⟩:∃CA,hZ h0=CA:=⟨_,rfl⟩;have HCA:Hid _:=hCA;have HL':Hid ((Instr.loadAt 81 (PT m.b 0)).run Tryz.prog v1=.ok (.agg CA) v1):=by rw [<-hCA];exact HL.out
 rw [hCA] at HS hb2;clear hCA HL;go_upto_region 2 with (first
  | ((with_reducible refine ba ?_ HL'.out ?_);(exact rfl))
  | ((with_reducible refine aL ?_ ?_ HS.out ?_);(exact rfl);(exact rfl)))
 simp only [Act.put];have hO1:∀i,w.heap.size<=i->¬O i:=fun i hi h=>by have:=HK.out.obd _ h;omega
 have hX1:∀i,w.heap.size<=i->¬X i:=fun i hi h=>hO1 i hi (HK.out.xo _ h).1;have K2:=hid (K1.out.low n2);have HF2:=ah HF1 n2;have HG2:=ah HG1 n2;have HB2:=hid hb2;have HN2:=hid (bst HN1.out n2);clear cm hb2 n2 HS HL' K1 HF1 HG1 hsz2;have cm:=ab HF2.out 0 (v:=PT m.b 0) rfl;go_wp2_with fail;refine (BV v2 K2.out).mono ?_;rintro e v3 ⟨rfl,ov3,k3,g3⟩;have hws:w.heap.size≠m.b:=by omega
 have hsz:=HSz.out;have K3:Hid _:=k3;have HF3:Hid _:=aB HF2.out g3 hws;have HG3:Hid _:=aB HG2.out g3 (show w.heap.size+1≠m.b by omega);have HB3:Hid _:=aB HB2.out g3 (show v1.heap.size≠m.b by omega);have N3:=hid ((Kp.of_below O HN2.out).trans (Kp.of_gb g3 HK.out.ob));have I3:PI v3:=HP.out.framei w v3 HI.out N3.out.size fun i hi=>by
  have hl:=(HK.out.xo i hi).2;rw [g3.block i (by have:=HN2.out.size;omega) (by
   intro e;have:m.b=i:=by simpa using e.symm
   exact HK.out.xb (this ▸ hi)),HN2.out.block i hl]
 obtain ⟨fn,rv,hmt,hen,hcall⟩:=HP.out.begin v3 I3 K3.out.cells HH.out;have HCl:=hid hcall;clear cm k3 g3 I3 hcall HF2 HG2 HB2 HN2 K2 hsz;have cm:=ab HF3.out 0 (v:=PT m.b 0) rfl;have c29:=ab K3.out.blk 29 (v:=.iface m.pd m.px) rfl;go_wp2_with fail;refine Calls.mono HCl.out ?_;rintro e v4 ⟨rfl,a4,kp4⟩;have hsz:=HSz.out;have K4:Hid (MW v4 O X m ov3 (cK plain pick h0).h []):=(K3.out.keep kp4).withK ((wZ plain pick h0.k).set _ _ _);have A4:Hid _:=a4;have HF4:=Kp.hid HF3 kp4 (hX1 _ nle);have HG4:=Kp.hid HG3 kp4 (hX1 _ (Nat.le_succ _));have HB4:=Kp.hid HB3 kp4 (hX1 _ (by omega));have N4:=hid (N3.out.trans (kp4.mono fun i hi=>(HK.out.xo i hi).1));clear a4 kp4 cm c29 hmt hen HCl HF3 HG3 HB3 N3 K3 hsz;go_upto_region 5 with fail;have hby:=HK.out.byt;have hrg:=HK.out.regs;have CT:=fun (u:Has w.heap.size (.cells #[PT m.b 0] 75 (0,0)))=>ab u.h 0 rfl;have ne:Nonempty (Has w.heap.size (.cells #[PT m.b 0] 75 (0,0))):=⟨⟨v4,HF4.out⟩⟩;have HR0:Hid _:=mK plain pick HH.out;have HC0:Hid (SameC 0 (cK plain pick h0) h0):=⟨rfl,rfl,rfl,rfl,rfl,rfl,Nat.le_refl 0⟩;have HS0:Hid (fQ plain pick h0=pU h0 (eQ plain pick (cK plain pick h0))):=rfl;have HM0:Hid ((cK plain pick h0).h.mem=h0.mem):=rfl;have HZ0:Hid ((cK plain pick h0).cause=0):=rfl;have T0:Hid (TZ (cK plain pick h0)):=fun _=>rfl;generalize cK plain pick h0=r0 at K4 A4 HR0 HC0 HS0 HM0 HZ0 T0;refine aN (fun w'=>∃u:Has w.heap.size (.cells #[PT m.b 0] 75 (0,0)),w'=u.w) 3 ?_;refine uR (by kernel_rfl) (fuel:=2) ⟨⟨v4.drew,HF4.out⟩,rfl⟩ [0,1] _ _ (by
  intro i hi o ho x a v w hq;refine zP x a o.dst ?_ v w hq;simp only [List.mem_cons,List.not_mem_nil,or_false] at hi;rcases hi with rfl | rfl
  ·simp only [List.getElem?_toArray,List.getElem?_cons_zero,Option.some.injEq] at ho;subst ho;simp
  ·simp only [List.getElem?_toArray,List.getElem?_cons_zero,List.getElem?_cons_succ,Option.some.injEq] at ho;subst ho;simp) (by kernel_rfl) ?_
 simp only [gX,List.getElem?_toArray,List.getElem?_cons_zero,List.getElem?_cons_succ];repeat (go_big_quiet_step (fail))
 refine wpQuiet_nil ?_;have D4:=bdr v4;refine eh 2 23 rfl ((DS HP.out hpk r0 v4.drew (K4.out.low D4) (HP.out.keep A4.out (fun i hi=>(K4.out.xo i hi).2) (Kp.of_below (fun _=>False) D4) (fun _ _ h=>h)) HR0.out HC0.out HZ0.out).mono ?_);rintro e v5 (⟨hq1,hq2,hq3,rfl,k5,a5,n5',hx0,hx1⟩ | ⟨hcz,rfl,k5,a5,n5',hm5⟩)
 rotate_left
 ·
  have n5:=(Kp.of_below X D4).trans n5';have hsz:=HSz.out;refine .inr ⟨_,rfl,?_⟩;have HB5:=Kp.hid HB4 n5 (hX1 _ (by omega));rw [<-HCA.out] at HB5;exact uQ (O':=O) HP.out v1.heap.size w.heap.size (w.heap.size+1) _ w v5 (eQ plain pick r0) rfl HS0.out hcz hby hrg k5 rfl (by rw [hm5,HM0.out];rfl) a5 HB5.out (n5.heap HF4.out (hX1 _ nle)) (n5.heap HG4.out (hX1 _ (Nat.le_succ _))) (hO1 _ (by omega)) (hO1 _ nle) (hO1 _ (Nat.le_succ _)) (N4.out.trans (n5.mono fun i hi=>(HK.out.xo i hi).1)) (fun i _ h=>h) (Nat.le_succ _)
 have n5:=(Kp.of_below X D4).trans n5';have hsz:=HSz.out;have HF5:=Kp.hid HF4 n5 (hX1 _ nle);have HG5:=Kp.hid HG4 n5 (hX1 _ (Nat.le_succ _));have HB5:=Kp.hid HB4 n5 (hX1 _ (by omega));have N5:Hid (Kp O w v5):=N4.out.trans (n5.mono fun i hi=>(HK.out.xo i hi).1);have hbd:eQ plain pick r0=kD plain pick (bR plain pick r0 0 r0.h.pc) (kC plain pick r0.h):=by
  unfold eQ;rw [if_pos hq1,if_pos hq2,if_pos hq3]
 rw [hbd] at HS0;have R1:Hid _:=kf HR0.out plain hpk (kind:=0) (va:=r0.h.pc) ⟨by omega,by omega⟩ HR0.out.h.pc;have C1:Hid _:=HC0.out.look plain pick 0 r0.h.pc;have Z1:Hid ((bR plain pick r0 0 r0.h.pc).cause=0):=HZ0.out;have T1:Hid (TZ (bR plain pick r0 0 r0.h.pc)):=T0.out;have M1:Hid ((bR plain pick r0 0 r0.h.pc).h.mem=h0.mem):=HM0.out;refine .inl ⟨_,rfl,fun _=>⟨⟨v5,HF5.out⟩,rfl⟩,?_⟩
 go_frame
 generalize bR plain pick r0 0 r0.h.pc=r1 at k5 a5 HS0 R1 C1 Z1 M1 T1;generalize kC plain pick r0.h=x at hx0 hx1 HS0 |-;clear hbd hq1 hq2 hq3 HR0 HC0 HZ0 HM0 A4 K4 HF4 HG4 HB4 N4;have hl5:w.heap.size+2<v5.heap.size:=by
  have:=(hpl HB5.out);omega
 refine eh 3 24 rfl ((A8 HP.out hpk r1 x v5 k5 a5 R1.out C1.out Z1.out hx0 hx1).mono ?_);rintro e v6 (⟨hz6,rfl,O6,ov6,ol6,k6,n6,ho6,a6⟩ | ⟨hz6,rfl,O6,ov6,hx6,ol6,k6,hkk,hun6,n6,ho6,a6⟩)
 rotate_left
 ·
  refine .inr ⟨_,rfl,?_⟩;have HB6:=Kp.hid HB5 n6 (hO1 _ (by omega));rw [<-HCA.out] at HB6;exact uQ (O':=O6) HP.out v1.heap.size w.heap.size (w.heap.size+1) _ w v6 (kD plain pick r1 x) rfl HS0.out hz6 hby hrg k6 hkk (by rw [hun6,M1.out]) a6 HB6.out (n6.heap HF5.out (hO1 _ nle)) (n6.heap HG5.out (hO1 _ (Nat.le_succ _))) (fun h=>hO1 _ (by omega) (ho6 _ (by omega) h)) (fun h=>hO1 _ nle (ho6 _ (by omega) h)) (fun h=>hO1 _ (Nat.le_succ _) (ho6 _ (by omega) h)) (N5.out.trans n6) (fun i hi h=>ho6 i (by omega) h) (Nat.le_succ _)
 have HG6:=Kp.hid HG5 n6 (hO1 _ (Nat.le_succ _));have HF6:=Kp.hid HF5 n6 (hO1 _ nle);have N6:=hid (N5.out.trans n6);have K6:Hid _:=k6;have A6:Hid _:=a6;have Z6:Hid _:=hz6;have HO6:=hid ho6;refine .inl ⟨_,rfl,fun _=>⟨⟨v6,HF6.out⟩,rfl⟩,?_⟩
 go_frame
 refine dt ?_;clear k5 a5 k6 a6 n6 ho6 hz6 CT ne hsz D4 n5 n5' HF5 HG5 HF6 HB5 N5;have k0:=ab HG6.out 0 (v:=VI 0) rfl;have k1:=ab HG6.out 1 (v:=VU 0) rfl;have f0:=az HG6.out 0;have f1:=az HG6.out 1;go_wp2_with fail;have htv:(kD plain pick r1 x).tval=0:=FA plain pick x R1.out.h.v.mode.1 T1.out Z6.out;have g7:=aq (aq (aw v6 (some (w.heap.size+1))) 0 (VI 0)) 1 (VU 0);have H7:Hid _:=bD (v:=VU 0) (i:=1) (bD (v:=VI 0) (i:=0) HG6.out);have n6:¬O6 (w.heap.size+1):=fun h=>hO1 _ (Nat.le_succ _) (HO6.out _ (by omega) h);have K:=K6.out;have hk7:=Kp.of_gb g7 rfl;have K7:MW ((v6.setCell ⟨w.heap.size+1,0,none⟩ (VI 0)).setCell ⟨w.heap.size+1,1,none⟩ (VU 0)) O6 X m ov6 (kD plain pick r1 x).h ol6:=
  ⟨hk7.heap K.blk (fun e=>n6 (e ▸ K.ob)),hk7.blk K.mem (fun e=>n6 (e ▸ K.om)),hk7.own K.old fun g e e'=>n6 (e' ▸ (K.oo g e).1),K.ob,K.om,K.oo,K.bm,K.xb,K.xm,fun i hi=>⟨(K.xo i hi).1,ltl (K.xo i hi).2 hk7.size⟩,K.byt,K.len,K.regs,K.oll,K.sh,fun i hi=>ltl (K.obd i hi) hk7.size,K.oln⟩
 generalize (v6.setCell ⟨w.heap.size+1,0,none⟩ (VI 0)).setCell ⟨w.heap.size+1,1,none⟩ (VU 0)=v7 at H7 hk7 K7 |-;refine leaves_cons (f:=75) (args:=#[PT v1.heap.size 0,PT w.heap.size 0,PT (w.heap.size+1) 0]) (by simp) (by kernel_rfl) ?_;refine (wj _ _ _ v7).mono ?_;rintro e u' w' ⟨rfl,rfl,hw⟩;rw [hw];have c0:=ab H7.out 0 (v:=VI 0) rfl;have c1:=ab H7.out 1 (v:=VU 0) rfl;refine ⟨.agg #[VI 0,VU 0],?_,?_⟩
 ·simp [results,Tryz.results27,go_sem,c0,c1]
 ·unfold rL;rw [HS0.out,BT Z6.out,Z6.out,htv];refine ⟨rfl,O6,ov6,ol6,K7,?_,fun i hi h=>HO6.out i (by omega) h,?_⟩
  ·have N:=N6.out;refine ⟨hk7.os.trans N.os,hk7.tape.trans N.tape,hk7.output.trans N.output,Nat.le_trans N.size hk7.size,fun i hi ho=>?_⟩;rw [hk7.block i (ltl hi N.size) (by omega),N.block i hi ho]
  ·exact HP.out.frame _ _ _ A6.out hk7.size fun i hi=>hk7.block i (K.xo i hi).2 fun e=>n6 (e ▸ (K.xo i hi).1)
section
attribute [local go_sem ↓] Go.wp_at_zero Go.wp_at_succ
structure HartR (w:World) (p:PtrM) (h:HartM):Prop where
 mem:Byt w p.am h.mem.length h.mem
 regs:RowC w p.ar h.regs.length 1 (cF h.regs)
 r1:RowC w p.a1 h.k.i.es.length 6 (aO h.k.i.es)
 r2:RowC w p.a2 h.k.d.es.length 6 (aO h.k.d.es)
 r3:RowC w p.a3 h.k.p.es.length 6 (aO h.k.p.es)
theorem HartR.keep {w w':World} {p:PtrM} {h:HartM} (k:HartR w p h) (hb:Bw w w'):HartR w' p h:=
 ⟨k.mem.keep hb,k.regs.keep hb,k.r1.keep hb,k.r2.keep hb,k.r3.keep hb⟩
theorem kx {e e':TypeId} {size size' base base' n n':Nat} {w:World} {s s':Value} {cs cs':List Value} (h:w.ownsRow base e size s n cs) (h':w.ownsRow base' e' size' s' n' cs') (he:e≠e'):gE s s':=by
 intro g h1 h2;rcases h'.2 with ⟨h3,_⟩ | ⟨g',cap,cur,h3,_,h4,_⟩
 ·rw [h3] at h2;simp [Value.ownBlock] at h2
 ·rw [h3] at h2;simp only [Value.ownBlock] at h2;have hg:=Option.some.inj h2;subst hg;exact eg h h4 (Ne.symm he) h1
def Fw (sm sr s1 s2 s3:Value) (i:Nat):Prop:=sm.ownBlock=some i∨sr.ownBlock=some i∨Fj s1 s2 s3 i
structure HartO (base:Nat) (w:World) (p:PtrM) (h:HartM) (cm cr c1 c2 c3:List Value):Prop where
 mem:w.ownsRow base 5 1 (.slice p.am h.mem.length p.cm) h.mem.length cm
 regs:w.ownsRow base 29 1 (.slice p.ar h.regs.length p.cr) h.regs.length cr
 r1:w.ownsRow base 127 6 (.slice p.a1 h.k.i.es.length p.c1) h.k.i.es.length c1
 r2:w.ownsRow base 127 6 (.slice p.a2 h.k.d.es.length p.c2) h.k.d.es.length c2
 r3:w.ownsRow base 127 6 (.slice p.a3 h.k.p.es.length p.c3) h.k.p.es.length c3
 d12:gE (.slice p.a1 h.k.i.es.length p.c1) (.slice p.a2 h.k.d.es.length p.c2)
 d13:gE (.slice p.a1 h.k.i.es.length p.c1) (.slice p.a3 h.k.p.es.length p.c3)
 d23:gE (.slice p.a2 h.k.d.es.length p.c2) (.slice p.a3 h.k.p.es.length p.c3)
abbrev Dl (p:PtrM) (h:HartM):Nat->Prop:=Fw (.slice p.am h.mem.length p.cm) (.slice p.ar h.regs.length p.cr) (.slice p.a1 h.k.i.es.length p.c1) (.slice p.a2 h.k.d.es.length p.c2) (.slice p.a3 h.k.p.es.length p.c3)
theorem HartO.keep {base:Nat} {w w':World} {p:PtrM} {h:HartM} {cm cr c1 c2 c3:List Value} (k:HartO base w p h cm cr c1 c2 c3) (hb:Bw w w'):HartO base w' p h cm cr c1 c2 c3:=
 ⟨aj k.mem hb,aj k.regs hb,aj k.r1 hb,aj k.r2 hb,aj k.r3 hb,k.d12,k.d13,k.d23⟩
theorem HartO.gb {base:Nat} {w w':World} {p:PtrM} {h:HartM} {cm cr c1 c2 c3:List Value} {r:Nat} (k:HartO base w p h cm cr c1 c2 c3) (hg:w.grownBy w' (some r)) (hr:r<base):HartO base w' p h cm cr c1 c2 c3:=
 ⟨aG k.mem hg hr,aG k.regs hg hr,aG k.r1 hg hr,aG k.r2 hg hr,aG k.r3 hg hr,k.d12,k.d13,k.d23⟩
theorem HartO.low {base:Nat} {w:World} {p:PtrM} {h:HartM} {cm cr c1 c2 c3:List Value} (k:HartO base w p h cm cr c1 c2 c3):∀g,Dl p h g->base<=g∧g<w.heap.size:=by
 rintro g (h1 | h1 | h1 | h1 | h1)
 ·exact k.mem.lt g h1
 ·exact k.regs.lt g h1
 ·exact k.r1.lt g h1
 ·exact k.r2.lt g h1
 ·exact k.r3.lt g h1
theorem HartO.read {base:Nat} {w:World} {p:PtrM} {h:HartM} (k:HartO base w p h (ex h.mem) (cF h.regs) (aO h.k.i.es) (aO h.k.d.es) (aO h.k.p.es)) (hz:∀i:Nat,0<=h.mem[i]?.getD 0∧h.mem[i]?.getD 0<=255):HartR w p h:=by
 refine ⟨?_,dM k.regs,dM k.r1,dM k.r2,dM k.r3⟩;rcases uj k.mem with ⟨h1,h2,_⟩ | ⟨g,cap,h1⟩
 ·exact ⟨rfl,hz,.inl h2⟩
 ·have hm:=k.mem;rw [h1] at hm;have hx:p.am=some (AD g 0):=by
   simp only [Value.slice.injEq] at h1;exact h1.1
  rw [hx];refine ⟨rfl,hz,.inr ⟨g,0,rfl,(bI hm).2.2,fun i hi=>?_⟩⟩;have:=aE hm i (.int .u8 (h.mem[i]?.getD 0)) (by simp [ex,hi]);simpa using this
end
section
attribute [local go_sem ↓] Go.wp_at_zero Go.wp_at_succ
theorem yW (zs:List Int):∀u∈dE zs,u.oneCell'=true:=by
 intro u hu;simp only [dE,List.mem_map] at hu;obtain ⟨z,_,rfl⟩:=hu;rfl
theorem DecEnd.above {w v:World} {hb:Nat} {q:PtrM} {h:HartM} (d:DecEnd w v hb q h):∀x,some x∈aV q->w.heap.size+1<=x.block:=by
 intro x hx;have:=d.low;simp only [aV,List.mem_cons,List.not_mem_nil,or_false] at hx;rcases hx with hx | hx | hx | hx | hx
 ·have:=(dK d.mem x hx.symm).1;omega
 ·have:=(dK d.regs x hx.symm).1;omega
 ·exact (d.ks.ptrs x (.inl hx.symm)).1
 ·exact (d.ks.ptrs x (.inr (.inl hx.symm))).1
 ·exact (d.ks.ptrs x (.inr (.inr hx.symm))).1
theorem pA {e:TypeId} {size base n c:Nat} {w:World} {a:Option Addr} {cs:List Value} (h:w.ownsRow base e size (.slice a n c) n cs) (hn:0<n):∃g,a=some (AD g 0):=by
 rcases h.2 with ⟨_,h2⟩ | ⟨g,cap,cur,h1,_⟩
 ·omega
 ·simp only [Value.slice.injEq] at h1;exact ⟨g,h1.1⟩
theorem DecEnd.hart {w v:World} {hb:Nat} {q:PtrM} {h:HartM} (d:DecEnd w v hb q h) (hk:kOk h.k) (hm:0<h.mem.length) (hr:0<h.regs.length):HartIn v q h∧∀x,some x∈aV q->w.heap.size<=x.block:=by
 obtain ⟨g1,e1⟩:=pA d.mem hm;obtain ⟨g2,e2⟩:=pA d.regs hr;have om:=d.mem;have og:=d.regs;rw [e1] at om;rw [e2] at og;have f1:=OwnC.facts om;have f2:=OwnC.facts og;refine ⟨⟨?_,?_,dM d.regs,?_,?_,d.ks.at hk,?_⟩,fun x hx=>by have:=d.above x hx;omega⟩
 ·rw [e1];exact OwnB.byt (e:=5) (base:=hb+1) om (df d.memb)
 ·simp only [maxLen] at f1;omega
 ·simp only [maxLen] at f2;omega
 ·rw [e2];exact ⟨fun h0=>(by cases h0),fun x hx=>(by cases hx;rfl)⟩
 ·intro x hx;simp only [aV,List.mem_cons,List.not_mem_nil,or_false] at hx;rcases hx with hx | hx | hx | hx | hx
  ·exact (dK d.mem x hx.symm).2
  ·exact (dK d.regs x hx.symm).2
  ·exact (d.ks.ptrs x (.inl hx.symm)).2
  ·exact (d.ks.ptrs x (.inr (.inl hx.symm))).2
  ·exact (d.ks.ptrs x (.inr (.inr hx.symm))).2
theorem DW (a:Option Addr) (len cap:Nat) (zs:List Int) (w:World) (hB:Byt w a len zs) (hl:len<=1048576) (v:World) (hb size n i:Nat) (q:PtrM) (h:HartM) (u5 u7 u9 u10 u11 u12 u15 u16 u17 u18 u19 u20 u21 u22 u23 u24 u25 u26 u27 u28 u29 u30 u31 u32 u33 u34 u35 u36 u37 u38 u39 u40 u41 u42 u43 u44 u45 u46 u47 u48 u49 u50 u51 u52 u53 u54 u55 u56 u57 u58 u59 u60 u61 u62 u63 u64 u65 u66 u67 u68 u69 u70 u71 u72 u73 u74 u75 u76 u77 u78 u79 u80 u81 u82 u83 u84 u85 u86 u87 u88 u89 u90 u91 u92 u93 u94 u95 u96 u97 u98 u99 u100 u101 u102 u103 u104 u105 u106 u107 u108 u109 u110 u111 u112 u113 u114 u115 u116 u117 u118 u119 u120 u121 u122 u123 u124 u125 u126 u127 u128 u129 u130 u131 u132 u133 u134 u135 u136 u137 u138 u139 u140 u141 u142 u143 u144 u145 u146 u147:Value) (hE:DecEnd w v hb q h) (hn:n<=20000) (hi:i<=65878) (hko:kOk h.k) (hml:0<h.mem.length) (hrl:0<h.regs.length) (ps:List Int) (hps:ps=((List.range n).map fun j=>atM zs (i+j)))
 (K:Act->World->Prop) (hK:∀aa ww,(dl 19 (eS Tryz.f15)).wp Tryz.prog (bodyPost Tryz.prog Tryz.f15 (rM w h ps)) aa ww->K aa ww):
 (el (dl 18 (eS Tryz.f15))).wp Tryz.prog (Exit.then K (bodyPost Tryz.prog Tryz.f15 (rM w h ps))) ⟨#[.slice a len cap,undef,PT w.heap.size 0,PT hb 0,VI (size:Nat),u5,VI (n:Nat),u7,VI (i:Nat),u9,u10,u11,u12,undef,undef,u15,u16,u17,u18,u19,u20,u21,u22,u23,u24,u25,u26,u27,u28,u29,u30,u31,u32,u33,u34,u35,u36,u37,u38,u39,u40,u41,u42,u43,u44,u45,u46,u47,u48,u49,u50,u51,u52,u53,u54,u55,u56,u57,u58,u59,u60,u61,u62,u63,u64,u65,u66,u67,u68,u69,u70,u71,u72,u73,u74,u75,u76,u77,u78,u79,u80,u81,u82,u83,u84,u85,u86,u87,u88,u89,u90,u91,u92,u93,u94,u95,u96,u97,u98,u99,u100,u101,u102,u103,u104,u105,u106,u107,u108,u109,u110,u111,u112,u113,u114,u115,u116,u117,u118,u119,u120,u121,u122,u123,u124,u125,u126,u127,u128,u129,u130,u131,u132,u133,u134,u135,u136,u137,u138,u139,u140,u141,u142,u143,u144,u145,u146,u147,undef,undef,undef,undef,undef,undef,undef,undef,undef,undef,undef,undef,undef,undef,undef,undef,undef,undef],[]⟩ v:=by
 obtain ⟨Q,hQ⟩:∃Q,bodyPost Tryz.prog Tryz.f15 (rM w h ps)=Q:=⟨_,rfl⟩;rw [hQ] at hK |-;have HQ:Hid _:=hQ;clear hQ;simp only [el,dl,eS,Tryz.f15,Option.getD] at hK |-;have HQp:Hid (∀x (a:Act) d z w,Q (.panic x) (a.put d z) w->Q (.panic x) a w):=by
  show ∀x (a:Act) d z w,Q (.panic x) (a.put d z) w->Q (.panic x) a w;rw [<-HQ.out];exact fun _ _ d _ _ h=>by cases d <;> exact h
 have HE:Hid _:=hE;have HPs:Hid _:=hps;have HKo:Hid _:=hko;have HB:Hid _:=hB;have HAt:Hid (∀(i:Nat) (u:World),i<=1073741824->Bw w u->Calls Tryz.prog 41 #[.slice a len cap,VI i] u fun e w'=>e=.returned (VI (atM zs i))∧w'=u):=fun i u hi hu=>pZ a len cap zs i u (Byt.keep HB.out hu) hl (by omega);clear hB hps hko hE;have hlo:=HE.out.low;have hlt:hb<v.heap.size:=(hpl HE.out.box);have hHs:=eI q h;have HLv:Hid ((Instr.loadAt 43 (PT hb 0)).run Tryz.prog v=.ok (.agg #[.slice q.am h.mem.length q.cm,.slice q.ar h.regs.length q.cr,VU h.pc,VI h.mode,.bool h.sum,.bool h.mxr,VU h.satp,VU h.tvec,VU h.epc,VI h.emode,VI h.cause,VU h.tval,VI h.k.i.sets,VI h.k.i.ways,.slice q.a1 h.k.i.es.length q.c1,VI h.k.d.sets,VI h.k.d.ways,.slice q.a2 h.k.d.es.length q.c2,VI h.k.p.sets,VI h.k.p.ways,.slice q.a3 h.k.p.es.length q.c3]) v):=bf (P:=Tryz.prog) (T:=43) HE.out.box Tryz.underlying43 rfl (by rw [hHs];exact eM);have a9:=cw v fD 46;have hS9:=rp q none 0 h [];have HS9:Hid _:=bq (P:=Tryz.prog) (T:=46) (V:=cS q none 0 h []) a9.1 (by rw [hS9];exact lC) (by rw [hS9,jm]) (lA _ _ _ _ _);have HB9:Hid _:=aT (V:=cS q none 0 h []) a9.1 (by rw [hS9,jm]);have n9:=aS (Nat.le_refl v.heap.size) (cS q none 0 h []).toList 0 _ a9.2.2;have s9:((v.alloc (Obj.cells fD 46)).setCells v.heap.size 0 (cS q none 0 h []).toList).heap.size=v.heap.size+1:=by rw [cV,a9.2.1]
 have HAg:Hid (cS q none 0 h []=#[.slice q.am h.mem.length q.cm,.slice q.ar h.regs.length q.cr,VU h.pc,VI h.mode,.bool h.sum,.bool h.mxr,VU h.satp,VU h.tvec,VU h.epc,VI h.emode,VI h.cause,VU h.tval,VI h.k.i.sets,VI h.k.i.ways,.slice q.a1 h.k.i.es.length q.c1,VI h.k.d.sets,VI h.k.d.ways,.slice q.a2 h.k.d.es.length q.c2,VI h.k.p.sets,VI h.k.p.ways,.slice q.a3 h.k.p.es.length q.c3,SN]):=rfl;clear a9;go_upto_region 39 with (first
  | ((with_reducible refine ba ?_ HLv.out ?_);(exact rfl))
  | ((with_reducible refine aL ?_ ?_ HS9.out ?_);(exact rfl);(exact rfl)))
 have hw9:=bst HE.out.below n9;have HE9:Hid (DecEnd w ((v.alloc (Obj.cells fD 46)).setCells v.heap.size 0 (cS q none 0 h []).toList) hb q h):=
  ⟨ag HE.out.box n9 hlt,ag HE.out.res n9 (by omega),HE.out.low,aj HE.out.mem n9,HE.out.memb,aj HE.out.regs n9,HE.out.ks.keep n9,hw9⟩
 generalize (v.alloc (Obj.cells fD 46)).setCells v.heap.size 0 (cS q none 0 h []).toList=v9 at HB9 s9 hw9 HE9 |-;clear HS9 HLv n9 HAg HE;generalize hsb:v.heap.size=sb at HB9 s9 hlt |-;clear hsb;go_wp2;go_loopw [14] (fun kv wr=>∃(k:Nat) (pa:Option Addr) (pc:Nat),k<=n∧kv=VI k∧v9.grownBy wr (some sb)∧wr.heap[sb]?=some (.cells (cS q pa pc h ((List.range k).map fun j=>atM zs (i+j))) 46 (0,0))∧wr.ownsRow (sb+1) 2 1 (.slice pa k pc) k (dE ((List.range k).map fun j=>atM zs (i+j)))) (fun kv _=>n-(intOf kv).toNat)
 case atStart=>exact ⟨0,none,0,Nat.zero_le _,rfl,aw _ _,HB9.out,World.ownsRow_nil _ _ _ _⟩
 case round=>
  obtain ⟨k,pa,pc,hk,rfl,hG,hBx,hO⟩:=hrel;have HG:Hid _:=hG;have HBx:Hid _:=hBx;have HO:Hid _:=hO;have hgs:=hG.size;have c21:(cS q pa pc h ((List.range k).map fun j=>atM zs (i+j)))[21]?=some (.slice pa k pc):=by
   show some (Value.slice pa ((List.range k).map fun j=>atM zs (i+j)).length pc)=_;simp
  have hwr:Bw w wr:=hw9.trans ⟨hG.os,hG.tape,hG.output,hG.size,fun j hj=>hG.block j (by omega) (by simp;omega)⟩;clear hG hBx hO;by_cases hkn:k<n
  ·go_upto_region 42 with fail;obtain ⟨z,hz⟩:∃z,atM zs (i+k)=z:=⟨_,rfl⟩;have HZ:Hid _:=hz;clear hz;have HL1:Hid (∀u:World,u.heap[sb]?=some (.cells (cS q pa pc h ((List.range k).map fun j=>atM zs (i+j))) 46 (0,0))->(Instr.loadAt 44 (PT sb 21)).run Tryz.prog u=.ok (.slice pa k pc) u):=fun u hu=>by
    have h1:=ab hu 21 c21;go_simp
   have HBo:Hid (∀(u:World),Below (sb+1) wr u->u.heap[sb]?=some (.cells (cS q pa pc h ((List.range k).map fun j=>atM zs (i+j))) 46 (0,0))):=fun u hu=>(hu.block sb (by omega)).trans HBx.out;have HEq:Hid (∀pa' pc',cS q pa' pc' h ((List.range (k+1)).map fun j=>atM zs (i+j))=(cS q pa pc h ((List.range k).map fun j=>atM zs (i+j))).setIfInBounds 21 (.slice pa' ((List.range (k+1)).map fun j=>atM zs (i+j)).length pc')):=fun pa' pc'=>rfl;generalize cS q pa pc h ((List.range k).map fun j=>atM zs (i+j))=BX at HL1 HBo c21 HEq;have hF:wr.drew.heap[sb]?=some (.cells BX 46 (0,0)):=HBo.out wr brf;refine aN (fun u=>u.heap[sb]?=some (.cells BX 46 (0,0))) 10 ?_;refine ax 0 155 (PT sb 21) rfl hF ?_ (hQ:=hqp HQp)
   go_frame
   refine ax 1 156 (.slice pa k pc) rfl hF ?_ (hQ:=hqp HQp) (hy:=fun u hu=>aU rfl (HL1.out u hu));refine ax 2 157 (.slice a len cap) rfl hF ?_ (hQ:=hqp HQp);refine ax 3 158 (VI (i:Nat)) rfl hF ?_ (hQ:=hqp HQp);refine ax 4 159 (VI (k:Nat)) rfl hF ?_ (hQ:=hqp HQp)
   go_frame
   refine ax 5 160 (VI ((i+k:Nat):Int)) rfl hF ?_ (hQ:=hqp HQp) (hy:=fun u hu=>(by go_simp;try exact (IntKind.wrap_i64 _).trans (by omega)))
   go_frame
   refine dN 6 161 rfl (f:=41) (args:=#[.slice a len cap,VI ((i+k:Nat):Int)]) ?_;refine (HAt.out (i+k) wr.drew (by omega) hwr.drew).mono ?_;rintro e v' ⟨rfl,hv'⟩;rw [hv',HZ.out];clear hv' v';refine ⟨_,rfl,fun _=>hF,?_⟩
   go_frame
   have m7:=(Below.refl wr.drew.heap.size wr.drew).alloc nle (Obj.cells #[VI z] 2);have m67:Bw wr (wr.drew.alloc (Obj.cells #[VI z] 2)):=bst (brf).drew m7;have hs67:sb+1<=wr.heap.size:=by omega
   refine ik 7 162 (SL wr.drew.heap.size 1 1) (w':=wr.drew.alloc (Obj.cells #[VI z] 2)) rfl (fun _=>HBo.out _ (m67.mono hs67)) ?_ (he:=by go_simp)
   go_frame
   have O7:=aj HO.out m67;have W7:RowC (wr.drew.alloc (Obj.cells #[VI z] 2)) (some (AD wr.drew.heap.size 0)) 1 1 (dE [z]):=(OwnC.new 2 1 wr.drew (dE [z]) 1 (by rfl) (by decide)).row;have s7:=m67.size;refine qV 8 163 (by kernel_rfl) rfl (by kernel_rfl) (by kernel_rfl) (.tmp 156) (.tmp 162) 44 (by kernel_rfl) 2 Tryz.underlying44 (VI 0) 1 8 Tryz.infoI rfl (by decide) (sb+1) k _ (dE ((List.range k).map fun j=>atM zs (i+j))) (by kernel_rfl) O7 wr.drew.heap.size 0 1 1 (dE [z]) (by kernel_rfl) (by omega) W7 (yW _) (by omega) (by omega) (by omega) (sb+1) _ brf nle ?_;intro g8 c8 v8 o8 m8;have B8:=HBo.out v8 ((m67.mono hs67).trans m8);refine ⟨fun _=>B8,?_⟩
   go_frame
   refine fw 9 164 (PT sb 21) rfl (.inr B8) ?_ (hQ:=hqp HQp)
   go_frame
   have HSt:Hid ((Instr.storeAt 44 (PT sb 21) (SL g8 (k+1) c8)).run Tryz.prog v8=.ok () (v8.setCell (AD sb 21) (SL g8 (k+1) c8))):=by
    have h1:=ab B8 21 c21;have h2:=az B8 21;show _=_;go_simp
   refine dO 10 164 163 rfl HSt.out ?_;refine dt ?_;go_wp2_with fail;have hg8:sb+1<=g8:=(dK o8 (AD g8 0) rfl).1;refine ⟨⟨k+1,some (AD g8 0),c8,by omega,by go_num,?_,?_,?_⟩,?_⟩
   ·refine aq ?_ 21 _;have hG:=HG.out;exact ⟨m8.os.trans (m67.os.trans hG.os),m8.tape.trans (m67.tape.trans hG.tape),m8.output.trans (m67.output.trans hG.output),by have:=m8.size;omega,fun j hj hne=>(m8.block j (by omega)).trans ((m67.block j (by omega)).trans (hG.block j hj hne))⟩
   ·rw [HEq.out,show ((List.range (k+1)).map fun j=>atM zs (i+j)).length=k+1 by simp];exact co B8 21 _
   ·have:=OwnC.gb o8 (aq (aw v8 (some sb)) 21 (SL g8 (k+1) c8)) (by omega);have e:dE ((List.range k).map fun j=>atM zs (i+j))++dE [z]=dE ((List.range (k+1)).map fun j=>atM zs (i+j)):=by
     rw [iF,HZ.out];simp [dE]
    rw [e] at this;exact this
   ·simp [intOf];omega
  ·have hkn':k=n:=by omega
   subst hkn';have HEf:Hid (DecEnd w wr hb q h):=by
    have hG:=HG.out;have hE:=HE9.out;exact ⟨aB hE.box hG (by omega),aB hE.res hG (by omega),hE.low,dV hE.mem HB9.out (by decide) hG,hE.memb,dV hE.regs HB9.out (by decide) hG,hE.ks.set HB9.out (by decide) hG,hwr⟩
   go_upto_region 43 with fail;have hS:=rp q pa pc h ((List.range k).map fun j=>atM zs (i+j));have hR:=HEf.out.res;have HLd:Hid _:=bf (P:=Tryz.prog) (T:=46) HBx.out Tryz.underlying46 rfl (by rw [hS];exact lC);have HSr:Hid _:=bq (P:=Tryz.prog) (T:=46) (V:=cS q pa pc h ((List.range k).map fun j=>atM zs (i+j))) hR (by rw [hS];exact lC) (by rw [hS,jm]) (lA _ _ _ _ _);have e1:=aT (V:=cS q pa pc h ((List.range k).map fun j=>atM zs (i+j))) hR (by rw [hS,jm]);have gR:=aH w.heap.size (cS q pa pc h ((List.range k).map fun j=>atM zs (i+j))).toList 0 wr wr (aw wr _);have nR:=aS (Nat.le_refl w.heap.size) (cS q pa pc h ((List.range k).map fun j=>atM zs (i+j))).toList 0 wr hwr;have HOf:Hid ((wr.setCells w.heap.size 0 (cS q pa pc h ((List.range k).map fun j=>atM zs (i+j))).toList).ownsRow (sb+1) 2 1 (.slice pa k pc) k (dE ((List.range k).map fun j=>atM zs (i+j)))):=aG HO.out gR (by omega);have HEg:Hid _:=(HEf.out.hart HKo.out hml hrl);go_wp2_with (first
    | ((with_reducible refine ba ?_ HLd.out ?_);(exact rfl))
    | ((with_reducible refine aL ?_ ?_ HSr.out ?_);(exact rfl);(exact rfl)))
   rw [<-HQ.out];refine dx (b:=w.heap.size) Tryz.results15 rfl (bw (P:=Tryz.prog) e1 Tryz.underlying46 rfl (by rw [hS];exact lC)) rfl ?_;rw [HPs.out];refine ⟨⟨q,pa,pc,rfl,HEg.out.1.gb gR (fun x hx=>by have:=HEf.out.above x hx;omega),HEg.out.2,?_⟩,nR⟩;have:=aJ HOf.out (show w.heap.size<=sb+1 by omega);simp only [List.length_map,List.length_range];exact this
theorem rT (a:Option Addr) (len cap:Nat) (zs:List Int) (w:World) (hB:Byt w a len zs) (hl:len<=1048576):
 Calls Tryz.prog 15 #[.slice a len cap] w (rM w (fK zs) (gZ zs)):=by
 have hb:=hB.2.1;refine AU a len cap zs w hB hl _ ?_;intro v hb' size n p u5 u15 u16 u17 u18 u19 u20 u21 u22 u23 u24 u25 u26 u27 u28 u29 u30 u31 u32 u33 u34 u35 u36 u37 u38 u39 u40 u41 u42 u43 u44 u45 u46 u47 u48 u49 u50 u51 u52 u53 u54 u55 u56 u57 u58 u59 u60 u61 u62 u63 u64 u65 u66 u67 u68 u69 u70 u71 u72 u73 u74 u75 u76 u77 u78 u79 u80 u81 u82 u83 u84 u85 hD har hcr hsz hn K hK;have h3:=qu hb 3;have hsz':64<=size∧size<=4096:=by omega
 have hko:kOk ⟨ae (atM zs 0),ae (atM zs 1),ae (atM zs 2)⟩:=⟨ka _,ka _,ka _⟩;have hn2:n<=20000:=by rw [hn];unfold jJ;omega
 refine DO a len cap zs w hB hl v hb' size n p u5 u15 u16 u17 u18 u19 u20 u21 u22 u23 u24 u25 u26 u27 u28 u29 u30 u31 u32 u33 u34 u35 u36 u37 u38 u39 u40 u41 u42 u43 u44 u45 u46 u47 u48 u49 u50 u51 u52 u53 u54 u55 u56 u57 u58 u59 u60 u61 u62 u63 u64 u65 u66 u67 u68 u69 u70 u71 u72 u73 u74 u75 u76 u77 u78 u79 u80 u81 u82 u83 u84 u85 _ _ _ _ _ _ _ hko hD har hcr hsz' hn2 _ ?_ K hK;intro v9 q mem i u5 u7 u9 u10 u11 u12 u15 u16 u17 u18 u19 u20 u21 u22 u23 u24 u25 u26 u27 u28 u29 u30 u31 u32 u33 u34 u35 u36 u37 u38 u39 u40 u41 u42 u43 u44 u45 u46 u47 u48 u49 u50 u51 u52 u53 u54 u55 u56 u57 u58 u59 u60 u61 u62 u63 u64 u65 u66 u67 u68 u69 u70 u71 u72 u73 u74 u75 u76 u77 u78 u79 u80 u81 u82 u83 u84 u85 u86 u87 u88 u89 u90 u91 u92 u93 u94 u95 u96 u97 u98 u99 u100 u101 u102 u103 u104 u105 u106 u107 u108 u109 u110 u111 u112 u113 u114 u115 u116 u117 u118 u119 u120 u121 u122 u123 u124 u125 u126 u127 u128 u129 u130 u131 u132 u133 u134 u135 u136 u137 u138 u139 u140 u141 u142 u143 u144 u145 u146 u147 hE hml hi hrun K2 hK2;have hmem:rx zs=(mem,i):=by unfold rx;rw [<-hsz];exact hrun
 have hX:fK zs=⟨mem,jK zs,cz zs 7,bU (atM zs 4),atM zs 4/4%2 == 1,atM zs 4/8%2 == 1,if dh (cz zs 23)=true then cz zs 23 else 0,cz zs 15/4*4,0,bU (atM zs 4),0,0,⟨ae (atM zs 0),ae (atM zs 1),ae (atM zs 2)⟩⟩:=by
  unfold fK;rw [hmem]
 have hps:gZ zs=((List.range n).map fun j=>atM zs (i+j)):=by
  unfold gZ;rw [hmem,<-hn]
 rw [hX,hps] at hK2 |-;exact DW a len cap zs w hB hl v9 hb' size n i q _ u5 u7 u9 u10 u11 u12 u15 u16 u17 u18 u19 u20 u21 u22 u23 u24 u25 u26 u27 u28 u29 u30 u31 u32 u33 u34 u35 u36 u37 u38 u39 u40 u41 u42 u43 u44 u45 u46 u47 u48 u49 u50 u51 u52 u53 u54 u55 u56 u57 u58 u59 u60 u61 u62 u63 u64 u65 u66 u67 u68 u69 u70 u71 u72 u73 u74 u75 u76 u77 u78 u79 u80 u81 u82 u83 u84 u85 u86 u87 u88 u89 u90 u91 u92 u93 u94 u95 u96 u97 u98 u99 u100 u101 u102 u103 u104 u105 u106 u107 u108 u109 u110 u111 u112 u113 u114 u115 u116 u117 u118 u119 u120 u121 u122 u123 u124 u125 u126 u127 u128 u129 u130 u131 u132 u133 u134 u135 u136 u137 u138 u139 u140 u141 u142 u143 u144 u145 u146 u147 hE hn2 hi hko (by show 0<mem.length;omega) (by show 0<(jK zs).length;simp [jK]) _ rfl K2 hK2
end
end Go.Proofs.YtkenjknmfhoppaaGreat
