import Derived.Test.YthdgiakgepmabaaGreatPk15
import Derived.Test.YthdgiakgepmabaaGreatPk16
import Derived.Deep.Slices
import Derived.Lib.SmallJoins
namespace Go.Proofs.YthdgiakgepmabaaGreat
open Go.RowKit
set_option linter.unusedVariables false
set_option maxHeartbeats 6400000
set_option maxRecDepth 20000
abbrev yu:Array Value:=#[VU 0,VU 0,VU 0,VU 0,VU 0,VU 0,VU 0,VU 0,VU 0,VI 0,.bool false,.bool false,VU 0,VU 0,VU 0,VI 0,VI 0,VU 0]
def TZ (r:RunM):Prop:=r.cause=0->r.tval=0
theorem oH (plain:Bool) (pick kind:Int):∀(ps:List be) (r:RunM),TZ r->TZ (ab plain pick kind r ps).1
 | [],r,h=>h
 | p::ps,r,h=>by
  unfold ab;split
  ·exact oH plain pick kind ps _ h
  ·rename_i hz;exact fun e=>absurd e hz
theorem wG (plain:Bool) (pick kind va n:Int) {r:RunM} (h:TZ r):TZ (az plain pick r kind va n).1:=by
 unfold az;split
 ·split
  ·exact oH plain pick kind _ r h
  ·exact fun e=>absurd e (dt kind)
 ·exact oH plain pick kind _ r h
theorem At {c:Prop} [Decidable c] {a b:RunM} (ha:TZ a) (hb:TZ b):TZ (if c then a else b):=by
 by_cases h:c
 ·rw [if_pos h];exact ha
 ·rw [if_neg h];exact hb
theorem AT (plain:Bool) (pick:Int) {r:RunM} (pc op a b c s x:Int) (hm:0<=r.h.mode) (h:TZ r):TZ (doM plain pick r pc op a b c s x):=by
 unfold doM eS dE iH;repeat' (with_reducible refine At ?_ ?_)
 all_goals first
  | exact h
  | exact wG plain pick _ _ _ h
  | exact fun e=>absurd e (show (2:Int)≠0 by omega)
  | exact fun e=>absurd e (show 8+r.h.mode≠0 by omega)
theorem Au (plain:Bool) (pick:Int) {r:RunM} (x:Int) (hm:0<=r.h.mode) (h:TZ r):TZ (gc plain pick r x):=AT plain pick _ _ _ _ _ _ _ hm h
def kF (plain:Bool) (pick:Int) (h0:HartM) (O X:Nat->Prop) (m:MP) (PA:World->RunM->Prop) (w:World) (e:Ending) (w':World):Prop:=
 e=.returned (.agg #[VI (aW plain pick h0).cause,VU (aW plain pick h0).tval])∧∃O' ov' ol',MW w' O' X m ov' (aW plain pick h0).h ol'∧Kp O w w'∧(∀i,i<w.heap.size->O' i->O i)∧PA w' (aW plain pick h0)
theorem yv (T:Array Value) (d:Nat) (hd:d≠4) (v:Value):results Tryz.f19 (T.setIfInBounds d v)=results Tryz.f19 T:=by
 simp [results,Tryz.results19,Array.getElem?_setIfInBounds,hd]
theorem ur {R:Ending->World->Prop} (x:List PanicEntry) (a:Act) (d:Option Tmp) (hd:d≠some 4) (v:Value) (w:World) (h:bodyPostD Tryz.prog Tryz.f19 R (.panic x) (a.put d v) w):bodyPostD Tryz.prog Tryz.f19 R (.panic x) a w:=by
 cases d with
 | none=>exact h
 | some d=>exact iZ (yv a.tmps d (fun e=>hd (e ▸ rfl)) v) _ _ _ h
abbrev AU (pb pm pt:Nat):Deferred:={ target:=.fn (.func 57) #[PT pb 0,PT pm 0,PT pt 0],args:=#[] }
theorem AV (plain:Bool) (pick:Int) (h0:HartM) (r:RunM) (hc:r.cause≠0):(jz h0 r).cause=r.cause∧(jz h0 r).tval=r.tval∧(jz h0 r).h=gg h0 r:=by
 unfold jz;rw [if_neg hc];exact ⟨rfl,rfl,rfl⟩
theorem wH {h0:HartM} {r:RunM} (hc:r.cause=0):jz h0 r=r:=if_pos hc
theorem pU {plain:Bool} {pick:Int} {h0:HartM} {O O' X:Nat->Prop} {PI:World->Prop} {PA:World->RunM->Prop} {m:MP} (hp:PathOk m plain pick h0 X PI PA) {ov:Value} {hx:HartM} {ol:List (Nat × Int)} (pb pm pt:Nat) (T:Array Value) (w v:World) (r:RunM)
 (hT:T[4]?=some (PT pt 0)) (hs:aW plain pick h0=jz h0 r) (hc:r.cause≠0) (hby:BytM h0.mem) (hrg:h0.regs.length=8)
 (k:MW v O' X m ov hx ol) (hk:hx.k=r.h.k) (hun:ex ol hx.mem=h0.mem) (hA:PA v r)
 (h1:v.heap[pb]?=some (.cells (et h0) 74 (0,0))) (h2:v.heap[pm]?=some (.cells #[PT m.b 0] 68 (0,0))) (h3:v.heap[pt]?=some (.cells #[VI 0,VU 0] 92 (0,0))) (n1:¬O' pb) (n2:¬O' pm) (n3:¬O' pt)
 (N:Kp O w v) (hO:∀i,i<w.heap.size->O' i->O i) (hpt:w.heap.size<=pt):
 Leaves Tryz.prog Tryz.f19 T (kF plain pick h0 O X m PA w) [AU pb pm pt] (.panicking [iE r.cause r.tval]) v:=by
 refine leaves_cons (f:=57) (args:=#[PT pb 0,PT pm 0,PT pt 0]) (by simp) (by kernel_rfl) ?_;refine (qT pb pm pt r.cause r.tval v k hun hby hrg h1 h2 h3 n1 n2 n3).mono ?_;rintro e u' w' ⟨rfl,rfl,k',h3',kp⟩;have kb:=k.ob;have km:=k.om;have c0:=aa h3' 0 (v:=VI r.cause) rfl;have c1:=aa h3' 1 (v:=VU r.tval) rfl;have e:=AV plain pick h0 r hc;refine ⟨.agg #[VI r.cause,VU r.tval],?_,?_⟩
 ·simp [results,Tryz.results19,go_sem,hT,c0,c1]
 ·unfold kF;rw [hs,e.1,e.2.1,e.2.2];refine ⟨rfl,O',ov,ol,?_,?_,hO,?_⟩
  ·unfold gg;rw [<-hk];exact k'
  ·refine ⟨kp.os.trans N.os,kp.tape.trans N.tape,kp.output.trans N.output,Nat.le_trans N.size kp.size,fun i hi ho=>?_⟩;rw [kp.block i (ltl hi N.size) ?_,N.block i hi ho];rintro (e | e | e)
   ·exact ho (hO i hi (e ▸ kb))
   ·exact ho (hO i hi (e ▸ km))
   ·omega
  ·refine hp.congr _ r _ (hp.frame _ _ _ hA kp.size fun i hi=>?_) ?_ ?_ ?_ ?_
   ·refine kp.block i (k.xo i hi).2 ?_;rintro (e | e | e)
    ·exact k.xb (e ▸ hi)
    ·exact k.xm (e ▸ hi)
    ·exact n3 (e ▸ (k.xo i hi).1)
   all_goals (unfold jz;rw [if_neg hc];rfl)
theorem yw {plain:Bool} {pick:Int} {h0:HartM} {O X:Nat->Prop} {PI:World->Prop} {PA:World->RunM->Prop} {m:MP} (hp:PathOk m plain pick h0 X PI PA) (hpk:0<=pick∧pick<=255) {ov:Value} {ol:List (Nat × Int)} (w:World)
 (k:MW w O X m ov h0 ol) (hI:PI w) (hh:HOk h0):
 Calls Tryz.prog 19 #[PT m.b 0,VI pick] w fun e w'=>kF plain pick h0 O X m PA w e w':=by
 have HK:Hid _:=k;have HI:Hid _:=hI;have HP:Hid _:=hp;have HH:Hid _:=hh;have hb:=k.lt;have F:=lk w #[PT m.b 0] #[VI 0,VU 0] 68 92;have hmf:∀(fn:Fn) (first cap:Array Value) (w:World),(Instr.makeFunc fn first cap).run Tryz.prog w=.ok (.func fn first cap) w:=fun _ _ _ _=>rfl;clear k hI hp hh
 go_enter_defers Tryz.func19,Tryz.ntmps19
 go_upto_region 1 with fail;generalize (w.alloc (Obj.cells #[PT m.b 0] 68)).alloc (Obj.cells #[VI 0,VU 0] 92)=v1 at F |-;obtain ⟨f1,f2,f3,n1⟩:=F;have K1:=hid (HK.out.low n1);have HF1:Hid _:=f1;have HG1:Hid _:=f2;have HN1:Hid _:=n1;have cm:=aa f1 0 (v:=PT m.b 0) rfl;have hsz:v1.heap.size=w.heap.size+2:=by omega
 have HSz:Hid _:=hsz;clear f1 f2 f3 n1;have HL:Hid _:=hU (P:=Tryz.prog) (T:=74) (o:=0) (n:=18) K1.out.blk Tryz.underlying74 rfl (et h0).toList vf rfl (by simp [et]);obtain ⟨v2,hs2,hb2,hsz2,n2⟩:∃v',(Instr.storeAt 74 (PT v1.heap.size 0) (.agg (et h0))).run Tryz.prog (v1.alloc (Obj.cells yu 74))=.ok () v'∧v'.heap[v1.heap.size]?=some (.cells (et h0) 74 (0,0))∧v'.heap.size=v1.heap.size+1∧Bw v1 v':=by
  have a:=bN v1 yu 74;refine ⟨_,dh (P:=Tryz.prog) (T:=74) a.1 vf rfl (by simp [et,Value.oneCell']),cD a.1 rfl,?_,?_⟩
  ·rw [fP,a.2.1]
  ·exact dn nle _ _ _ a.2.2
 have HS:Hid _:=hs2;clear hs2 hsz;obtain ⟨CA,hCA⟩:∃CA,et h0=CA:=⟨_,rfl⟩;have HCA:Hid _:=hCA;have HL':Hid ((Instr.loadAt 74 (PT m.b 0)).run Tryz.prog v1=.ok (.agg CA) v1):=by rw [<-hCA];exact HL.out
 rw [hCA] at HS hb2;clear hCA HL;go_upto_region 2 with (first
  | ((with_reducible refine ja ?_ HL'.out ?_);(exact rfl))
  | ((with_reducible refine bI ?_ ?_ HS.out ?_);(exact rfl);(exact rfl)))
 simp only [Act.put];have hO1:∀i,w.heap.size<=i->¬O i:=fun i hi h=>by have:=HK.out.obd _ h;omega
 have hX1:∀i,w.heap.size<=i->¬X i:=fun i hi h=>hO1 i hi (HK.out.xo _ h).1;have K2:=hid (K1.out.low n2);have HF2:=ae HF1 n2;have HG2:=ae HG1 n2;have HB2:=hid hb2;have HN2:=hid (bst HN1.out n2);clear cm hb2 n2 HS HL' K1 HF1 HG1 hsz2;have cm:=aa HF2.out 0 (v:=PT m.b 0) rfl;go_wp2_with fail;refine (wK v2 K2.out).mono ?_;rintro e v3 ⟨rfl,ov3,k3,g3⟩;have hws:w.heap.size≠m.b:=by omega
 have hsz:=HSz.out;have K3:Hid _:=k3;have HF3:Hid _:=aq HF2.out g3 hws;have HG3:Hid _:=aq HG2.out g3 (show w.heap.size+1≠m.b by omega);have HB3:Hid _:=aq HB2.out g3 (show v1.heap.size≠m.b by omega);have N3:=hid ((Kp.of_below O HN2.out).trans (Kp.of_gb g3 HK.out.ob));have I3:PI v3:=HP.out.framei w v3 HI.out N3.out.size fun i hi=>by
  have hl:=(HK.out.xo i hi).2;rw [g3.block i (by have:=HN2.out.size;omega) (by
   intro e;have:m.b=i:=by simpa using e.symm
   exact HK.out.xb (this ▸ hi)),HN2.out.block i hl]
 obtain ⟨fn,rv,hmt,hen,hcall⟩:=HP.out.begin v3 I3 K3.out.cells HH.out;have HCl:=hid hcall;clear cm k3 g3 I3 hcall HF2 HG2 HB2 HN2 K2 hsz;have cm:=aa HF3.out 0 (v:=PT m.b 0) rfl;have c29:=aa K3.out.blk 29 (v:=.iface m.pd m.px) rfl;go_wp2_with fail;refine Calls.mono HCl.out ?_;rintro e v4 ⟨rfl,a4,kp4⟩;have hsz:=HSz.out;have K4:Hid (MW v4 O X m ov3 (bt plain pick h0).h []):=(K3.out.keep kp4).withK ((rN plain pick h0.k).set _ _ _);have A4:Hid _:=a4;have HF4:=Kp.hid HF3 kp4 (hX1 _ nle);have HG4:=Kp.hid HG3 kp4 (hX1 _ (Nat.le_succ _));have HB4:=Kp.hid HB3 kp4 (hX1 _ (by omega));have N4:=hid (N3.out.trans (kp4.mono fun i hi=>(HK.out.xo i hi).1));clear a4 kp4 cm c29 hmt hen HCl HF3 HG3 HB3 N3 K3 hsz;go_upto_region 5 with fail;have hby:=HK.out.byt;have hrg:=HK.out.regs;have CT:=fun (u:Has w.heap.size (.cells #[PT m.b 0] 68 (0,0)))=>aa u.h 0 rfl;have ne:Nonempty (Has w.heap.size (.cells #[PT m.b 0] 68 (0,0))):=⟨⟨v4,HF4.out⟩⟩;have HR0:Hid _:=kN plain pick HH.out;have HC0:Hid (SameC 0 (bt plain pick h0) h0):=⟨rfl,rfl,rfl,rfl,rfl,rfl,Nat.le_refl 0⟩;have HS0:Hid (aW plain pick h0=jz h0 (bU plain pick (bt plain pick h0))):=rfl;have HM0:Hid ((bt plain pick h0).h.mem=h0.mem):=rfl;have HZ0:Hid ((bt plain pick h0).cause=0):=rfl;have T0:Hid (TZ (bt plain pick h0)):=fun _=>rfl;generalize bt plain pick h0=r0 at K4 A4 HR0 HC0 HS0 HM0 HZ0 T0;refine ax (fun w'=>∃u:Has w.heap.size (.cells #[PT m.b 0] 68 (0,0)),w'=u.w) 3 ?_;refine pW (by kernel_rfl) (fuel:=2) ⟨⟨v4.drew,HF4.out⟩,rfl⟩ [0,1] _ _ (by
  intro i hi o ho x a v w hq;refine ur x a o.dst ?_ v w hq;simp only [List.mem_cons,List.not_mem_nil,or_false] at hi;rcases hi with rfl | rfl
  ·simp only [List.getElem?_toArray,List.getElem?_cons_zero,Option.some.injEq] at ho;subst ho;simp
  ·simp only [List.getElem?_toArray,List.getElem?_cons_zero,List.getElem?_cons_succ,Option.some.injEq] at ho;subst ho;simp) (by kernel_rfl) ?_
 simp only [ek,List.getElem?_toArray,List.getElem?_cons_zero,List.getElem?_cons_succ];repeat (go_big_quiet_step (fail))
 refine wpQuiet_nil ?_;have D4:=bdr v4;refine cJ 2 23 rfl ((yO HP.out hpk r0 v4.drew (K4.out.low D4) (HP.out.keep A4.out (fun i hi=>(K4.out.xo i hi).2) (Kp.of_below (fun _=>False) D4) (fun _ _ h=>h)) HR0.out HC0.out HZ0.out).mono ?_);rintro e v5 (⟨hq1,hq2,hq3,rfl,k5,a5,n5',hx0,hx1⟩ | ⟨hcz,rfl,k5,a5,n5',hm5⟩)
 rotate_left
 ·
  have n5:=(Kp.of_below X D4).trans n5';have hsz:=HSz.out;refine .inr ⟨_,rfl,?_⟩;have HB5:=Kp.hid HB4 n5 (hX1 _ (by omega));rw [<-HCA.out] at HB5;exact pU (O':=O) HP.out v1.heap.size w.heap.size (w.heap.size+1) _ w v5 (bU plain pick r0) rfl HS0.out hcz hby hrg k5 rfl (by rw [hm5,HM0.out];rfl) a5 HB5.out (n5.heap HF4.out (hX1 _ nle)) (n5.heap HG4.out (hX1 _ (Nat.le_succ _))) (hO1 _ (by omega)) (hO1 _ nle) (hO1 _ (Nat.le_succ _)) (N4.out.trans (n5.mono fun i hi=>(HK.out.xo i hi).1)) (fun i _ h=>h) (Nat.le_succ _)
 have n5:=(Kp.of_below X D4).trans n5';have hsz:=HSz.out;have HF5:=Kp.hid HF4 n5 (hX1 _ nle);have HG5:=Kp.hid HG4 n5 (hX1 _ (Nat.le_succ _));have HB5:=Kp.hid HB4 n5 (hX1 _ (by omega));have N5:Hid (Kp O w v5):=N4.out.trans (n5.mono fun i hi=>(HK.out.xo i hi).1);have hbd:bU plain pick r0=gc plain pick (bb plain pick r0 0 r0.h.pc) (fF plain pick r0.h):=by
  unfold bU;rw [if_pos hq1,if_pos hq2,if_pos hq3]
 rw [hbd] at HS0;have R1:Hid _:=gK HR0.out plain hpk (kind:=0) (va:=r0.h.pc) ⟨by omega,by omega⟩ HR0.out.h.pc;have C1:Hid _:=HC0.out.look plain pick 0 r0.h.pc;have Z1:Hid ((bb plain pick r0 0 r0.h.pc).cause=0):=HZ0.out;have T1:Hid (TZ (bb plain pick r0 0 r0.h.pc)):=T0.out;have M1:Hid ((bb plain pick r0 0 r0.h.pc).h.mem=h0.mem):=HM0.out;refine .inl ⟨_,rfl,fun _=>⟨⟨v5,HF5.out⟩,rfl⟩,?_⟩
 go_frame
 generalize bb plain pick r0 0 r0.h.pc=r1 at k5 a5 HS0 R1 C1 Z1 M1 T1;generalize fF plain pick r0.h=x at hx0 hx1 HS0 |-;clear hbd hq1 hq2 hq3 HR0 HC0 HZ0 HM0 A4 K4 HF4 HG4 HB4 N4;have hl5:w.heap.size+2<v5.heap.size:=by
  have:=(hpl HB5.out);omega
 refine cJ 3 24 rfl ((vM HP.out hpk r1 x v5 k5 a5 R1.out C1.out Z1.out hx0 hx1).mono ?_);rintro e v6 (⟨hz6,rfl,O6,ov6,ol6,k6,n6,ho6,a6⟩ | ⟨hz6,rfl,O6,ov6,hx6,ol6,k6,hkk,hun6,n6,ho6,a6⟩)
 rotate_left
 ·
  refine .inr ⟨_,rfl,?_⟩;have HB6:=Kp.hid HB5 n6 (hO1 _ (by omega));rw [<-HCA.out] at HB6;exact pU (O':=O6) HP.out v1.heap.size w.heap.size (w.heap.size+1) _ w v6 (gc plain pick r1 x) rfl HS0.out hz6 hby hrg k6 hkk (by rw [hun6,M1.out]) a6 HB6.out (n6.heap HF5.out (hO1 _ nle)) (n6.heap HG5.out (hO1 _ (Nat.le_succ _))) (fun h=>hO1 _ (by omega) (ho6 _ (by omega) h)) (fun h=>hO1 _ nle (ho6 _ (by omega) h)) (fun h=>hO1 _ (Nat.le_succ _) (ho6 _ (by omega) h)) (N5.out.trans n6) (fun i hi h=>ho6 i (by omega) h) (Nat.le_succ _)
 have HG6:=Kp.hid HG5 n6 (hO1 _ (Nat.le_succ _));have HF6:=Kp.hid HF5 n6 (hO1 _ nle);have N6:=hid (N5.out.trans n6);have K6:Hid _:=k6;have A6:Hid _:=a6;have Z6:Hid _:=hz6;have HO6:=hid ho6;refine .inl ⟨_,rfl,fun _=>⟨⟨v6,HF6.out⟩,rfl⟩,?_⟩
 go_frame
 refine de ?_;clear k5 a5 k6 a6 n6 ho6 hz6 CT ne hsz D4 n5 n5' HF5 HG5 HF6 HB5 N5;have k0:=aa HG6.out 0 (v:=VI 0) rfl;have k1:=aa HG6.out 1 (v:=VU 0) rfl;have f0:=ay HG6.out 0;have f1:=ay HG6.out 1;go_wp2_with fail;have htv:(gc plain pick r1 x).tval=0:=Au plain pick x R1.out.h.v.mode.1 T1.out Z6.out;have g7:=aj (aj (ap v6 (some (w.heap.size+1))) 0 (VI 0)) 1 (VU 0);have H7:Hid _:=aG (v:=VU 0) (i:=1) (aG (v:=VI 0) (i:=0) HG6.out);have n6:¬O6 (w.heap.size+1):=fun h=>hO1 _ (Nat.le_succ _) (HO6.out _ (by omega) h);have K:=K6.out;have hk7:=Kp.of_gb g7 rfl;have K7:MW ((v6.setCell ⟨w.heap.size+1,0,none⟩ (VI 0)).setCell ⟨w.heap.size+1,1,none⟩ (VU 0)) O6 X m ov6 (gc plain pick r1 x).h ol6:=
  ⟨hk7.heap K.blk (fun e=>n6 (e ▸ K.ob)),hk7.blk K.mem (fun e=>n6 (e ▸ K.om)),hk7.own K.old fun g e e'=>n6 (e' ▸ (K.oo g e).1),K.ob,K.om,K.oo,K.bm,K.xb,K.xm,fun i hi=>⟨(K.xo i hi).1,ltl (K.xo i hi).2 hk7.size⟩,K.byt,K.len,K.regs,K.oll,K.sh,fun i hi=>ltl (K.obd i hi) hk7.size,K.oln⟩
 generalize (v6.setCell ⟨w.heap.size+1,0,none⟩ (VI 0)).setCell ⟨w.heap.size+1,1,none⟩ (VU 0)=v7 at H7 hk7 K7 |-;refine leaves_cons (f:=57) (args:=#[PT v1.heap.size 0,PT w.heap.size 0,PT (w.heap.size+1) 0]) (by simp) (by kernel_rfl) ?_;refine (qS _ _ _ v7).mono ?_;rintro e u' w' ⟨rfl,rfl,hw⟩;rw [hw];have c0:=aa H7.out 0 (v:=VI 0) rfl;have c1:=aa H7.out 1 (v:=VU 0) rfl;refine ⟨.agg #[VI 0,VU 0],?_,?_⟩
 ·simp [results,Tryz.results19,go_sem,c0,c1]
 ·unfold kF;rw [HS0.out,wH Z6.out,Z6.out,htv];refine ⟨rfl,O6,ov6,ol6,K7,?_,fun i hi h=>HO6.out i (by omega) h,?_⟩
  ·have N:=N6.out;refine ⟨hk7.os.trans N.os,hk7.tape.trans N.tape,hk7.output.trans N.output,Nat.le_trans N.size hk7.size,fun i hi ho=>?_⟩;rw [hk7.block i (ltl hi N.size) (by omega),N.block i hi ho]
  ·exact HP.out.frame _ _ _ A6.out hk7.size fun i hi=>hk7.block i (K.xo i hi).2 fun e=>n6 (e ▸ (K.xo i hi).1)
theorem ka (v:Value) (t:TlbM) (w:World) (h:TlbAt w v t):
 Calls Tryz.prog 77 #[v] w fun e w'=>(∃s y l n c,e=.returned (.tuple #[.agg #[VI s,VI y,.slice l n c],.bool (aF t false)])∧(aF t false=true->∃g,s=t.sets∧y=t.ways∧l=some (AD g 0)∧n=t.es.length∧c=t.es.length∧w'.ownsRow w.heap.size 216 6 (SL g t.es.length t.es.length) t.es.length (ah t.es)))∧Bw w w':=by
 refine (kE.1 v t w h).mono ?_;rintro e w' ⟨hc,nb⟩;refine ⟨?_,nb⟩;cases hv:aF t false
 ·rw [hv] at hc;dsimp only [cond] at hc;exact ⟨_,_,_,_,_,hc,fun h=>by cases h⟩
 ·rw [hv] at hc;dsimp only [cond] at hc;obtain ⟨g,he,ho⟩:=hc;exact ⟨_,_,_,_,_,he,fun _=>⟨g,rfl,rfl,rfl,rfl,rfl,ho⟩⟩
theorem qc (v:Value) (t:TlbM) (w:World) (h:TlbAt w v t):
 Calls Tryz.prog 78 #[v] w fun e w'=>(∃s y l n c,e=.returned (.tuple #[.agg #[VI s,VI y,.slice l n c],.bool (aF t true)])∧(aF t true=true->∃g,s=t.sets∧y=t.ways∧l=some (AD g 0)∧n=t.es.length∧c=t.es.length∧w'.ownsRow w.heap.size 221 6 (SL g t.es.length t.es.length) t.es.length (ah t.es)))∧Bw w w':=by
 refine (kE.2 v t w h).mono ?_;rintro e w' ⟨hc,nb⟩;refine ⟨?_,nb⟩;cases hv:aF t true
 ·rw [hv] at hc;dsimp only [cond] at hc;exact ⟨_,_,_,_,_,hc,fun h=>by cases h⟩
 ·rw [hv] at hc;dsimp only [cond] at hc;obtain ⟨g,he,ho⟩:=hc;exact ⟨_,_,_,_,_,he,fun _=>⟨g,rfl,rfl,rfl,rfl,rfl,ho⟩⟩
def wS (base:Nat) (w:World) (e:Ending) (k:KM):Prop:=∃gi gd gp,e=.returned (.tuple #[.agg (eN k gi gd gp),.bool true])∧RowsAt w base gi gd gp k
theorem my (v:Value) (k:KM) (w:World) (h:KAt w v k):
 Calls Tryz.prog 51 #[v] w fun e w'=>cond (bj k) (wS w.heap.size w' e k) (e=.returned (.tuple #[.agg #[VI 0,VI 0,SN,VI 0,VI 0,SN,VI 0,VI 0,SN],.bool false]))∧Bw w w':=by
 obtain ⟨a1,c1,a2,c2,a3,c3,rfl,T1,T2,T3⟩:=h;obtain ⟨q1,hq1⟩:∃q,aF k.i false=q:=⟨_,rfl⟩;obtain ⟨q2,hq2⟩:∃q,aF k.d false=q:=⟨_,rfl⟩;obtain ⟨q3,hq3⟩:∃q,aF k.p true=q:=⟨_,rfl⟩;have HQ1:=hid hq1;have HQ2:=hid hq2;have HQ3:=hid hq3;have hgood:bj k=(q1 && q2 && q3):=by unfold bj;rw [hq1,hq2,hq3]
 rw [hgood];clear hgood hq1 hq2 hq3;have HT1:=hid fun u (hu:Bw w u)=>T1.keep hu;have HT2:=hid fun u (hu:Bw w u)=>T2.keep hu;have HT3:=hid fun u (hu:Bw w u)=>T3.keep hu;clear T1 T2 T3;have n1:=((Below.refl w.heap.size w).alloc nle (Obj.cells #[VI k.i.sets,VI k.i.ways,.slice a1 k.i.es.length c1,VI k.d.sets,VI k.d.ways,.slice a2 k.d.es.length c2,VI k.p.sets,VI k.p.ways,.slice a3 k.p.es.length c3] 42)).alloc (by simp) (Obj.cells #[VI 0,VI 0,SN,VI 0,VI 0,SN,VI 0,VI 0,SN] 86);have H1:Hid (((w.alloc (Obj.cells #[VI k.i.sets,VI k.i.ways,.slice a1 k.i.es.length c1,VI k.d.sets,VI k.d.ways,.slice a2 k.d.es.length c2,VI k.p.sets,VI k.p.ways,.slice a3 k.p.es.length c3] 42)).alloc (Obj.cells #[VI 0,VI 0,SN,VI 0,VI 0,SN,VI 0,VI 0,SN] 86)).heap[w.heap.size]?=some (.cells #[VI k.i.sets,VI k.i.ways,.slice a1 k.i.es.length c1,VI k.d.sets,VI k.d.ways,.slice a2 k.d.es.length c2,VI k.p.sets,VI k.p.ways,.slice a3 k.p.es.length c3] 42 (0,0))):=by
  exact (lk w _ _ _ _).1
 have H2:Hid (((w.alloc (Obj.cells #[VI k.i.sets,VI k.i.ways,.slice a1 k.i.es.length c1,VI k.d.sets,VI k.d.ways,.slice a2 k.d.es.length c2,VI k.p.sets,VI k.p.ways,.slice a3 k.p.es.length c3] 42)).alloc (Obj.cells #[VI 0,VI 0,SN,VI 0,VI 0,SN,VI 0,VI 0,SN] 86)).heap[w.heap.size+1]?=some (.cells #[VI 0,VI 0,SN,VI 0,VI 0,SN,VI 0,VI 0,SN] 86 (0,0))):=by
  have:=dN (w.alloc (Obj.cells #[VI k.i.sets,VI k.i.ways,.slice a1 k.i.es.length c1,VI k.d.sets,VI k.d.ways,.slice a2 k.d.es.length c2,VI k.p.sets,VI k.p.ways,.slice a3 k.p.es.length c3] 42)) (Obj.cells #[VI 0,VI 0,SN,VI 0,VI 0,SN,VI 0,VI 0,SN] 86);simp only [World.size_alloc] at this;exact this
 have l1:((w.alloc (Obj.cells #[VI k.i.sets,VI k.i.ways,.slice a1 k.i.es.length c1,VI k.d.sets,VI k.d.ways,.slice a2 k.d.es.length c2,VI k.p.sets,VI k.p.ways,.slice a3 k.p.es.length c3] 42)).alloc (Obj.cells #[VI 0,VI 0,SN,VI 0,VI 0,SN,VI 0,VI 0,SN] 86)).heap.size=w.heap.size+2:=by simp
 go_enter Tryz.func51,Tryz.ntmps51;go_wp2_with fail;generalize ((w.alloc (Obj.cells #[VI k.i.sets,VI k.i.ways,.slice a1 k.i.es.length c1,VI k.d.sets,VI k.d.ways,.slice a2 k.d.es.length c2,VI k.p.sets,VI k.p.ways,.slice a3 k.p.es.length c3] 42)).alloc (Obj.cells #[VI 0,VI 0,SN,VI 0,VI 0,SN,VI 0,VI 0,SN] 86))=u0 at n1 H1 H2 l1 |-;have A1:=n1;have I1:=H1;have J1:=H2;clear n1 H1 H2;refine (ka _ k.i u0 (HT1.out u0 A1)).mono ?_;rw [HQ1.out];rintro e z1 ⟨⟨s1,y1,t1,x1,cc1,rfl,hv1⟩,nz1⟩;have HV1:Hid _:=hv1;have m1:=nz1.alloc nz1.size (Obj.cells #[VI s1,VI y1,.slice t1 x1 cc1] 81);have mz1:=(Below.refl z1.heap.size z1).alloc nle (Obj.cells #[VI s1,VI y1,.slice t1 x1 cc1] 81);have B11:Hid ((z1.alloc (Obj.cells #[VI s1,VI y1,.slice t1 x1 cc1] 81)).heap[z1.heap.size]?=some (.cells #[VI s1,VI y1,.slice t1 x1 cc1] 81 (0,0))):=dN z1 _;have A2:=bst A1 m1;have J2:=ae J1 m1;have I2:=ae I1 m1;have IZ1:=jP (ae I1 nz1).out;have lz1:=(hpl (ae I1 nz1).out);have ls1:=nz1.size;have lt1:z1.heap.size<(z1.alloc (Obj.cells #[VI s1,VI y1,.slice t1 x1 cc1] 81)).heap.size:=by simp
 obtain ⟨b0,b1,b2,b3,b4,b5,b6,b7,b8⟩:=IZ1;clear hv1 nz1;go_wp2_with fail;generalize z1.alloc (Obj.cells #[VI s1,VI y1,.slice t1 x1 cc1] 81)=u1 at m1 mz1 B11 A2 J2 I2 lt1 |-;clear b0 b1 b2 b3 b4 b5 b6 b7 b8;refine (ka _ k.d u1 (HT2.out u1 A2)).mono ?_;rw [HQ2.out];rintro e z2 ⟨⟨s2,y2,t2,x2,cc2,rfl,hv2⟩,nz2⟩;have HV2:Hid _:=hv2;have m2:=nz2.alloc nz2.size (Obj.cells #[VI s2,VI y2,.slice t2 x2 cc2] 81);have mz2:=(Below.refl z2.heap.size z2).alloc nle (Obj.cells #[VI s2,VI y2,.slice t2 x2 cc2] 81);have B22:Hid ((z2.alloc (Obj.cells #[VI s2,VI y2,.slice t2 x2 cc2] 81)).heap[z2.heap.size]?=some (.cells #[VI s2,VI y2,.slice t2 x2 cc2] 81 (0,0))):=dN z2 _;have A3:=bst A2 m2;have J3:=ae J2 m2;have I3:=ae I2 m2;have B21:=ae B11 m2;have IZ2:=jP (ae I2 nz2).out;have lz2:=(hpl (ae I2 nz2).out);have ls2:=nz2.size;have lt2:z2.heap.size<(z2.alloc (Obj.cells #[VI s2,VI y2,.slice t2 x2 cc2] 81)).heap.size:=by simp
 obtain ⟨b0,b1,b2,b3,b4,b5,b6,b7,b8⟩:=IZ2;clear hv2 nz2;go_wp2_with fail;generalize z2.alloc (Obj.cells #[VI s2,VI y2,.slice t2 x2 cc2] 81)=u2 at m2 mz2 B22 A3 J3 I3 lt2 B21 |-;clear b0 b1 b2 b3 b4 b5 b6 b7 b8;refine (qc _ k.p u2 (HT3.out u2 A3)).mono ?_;rw [HQ3.out];rintro e z3 ⟨⟨s3,y3,t3,x3,cc3,rfl,hv3⟩,nz3⟩;have HV3:Hid _:=hv3;have A4:=bst A3 nz3;have J4:=ae J3 nz3;have B31:=ae B21 nz3;have B32:=ae B22 nz3;have q31:=(hpl B31.out);have q32:=(hpl B32.out);have q33:=(hpl J4.out);clear hv3;obtain ⟨p0,p1,p2⟩:=(au B31.out).1;obtain ⟨p3,p4,p5⟩:=(au B32.out).1;obtain ⟨d0,d1,d2,d3,d4,d5,d6,d7,d8⟩:=jP J4.out;have ff:=vY J4.out;have f0:=ff 0;have f1:=ff 1;have f2:=ff 2;have f3:=ff 3;have f4:=ff 4;have f5:=ff 5;have f6:=ff 6;have f7:=ff 7;have f8:=ff 8;clear ff;have r31:z1.heap.size≠z3.heap.size:=by omega
 have r32:z2.heap.size≠z3.heap.size:=by omega
 have r33:w.heap.size+1≠z3.heap.size:=by omega
 by_cases hall:q1=true∧q2=true∧q3=true
 ·obtain ⟨rfl,rfl,rfl⟩:=hall;obtain ⟨gi,rfl,rfl,rfl,rfl,rfl,oi⟩:=HV1.out (by trivial);obtain ⟨gd,rfl,rfl,rfl,rfl,rfl,od⟩:=HV2.out (by trivial);obtain ⟨gp,rfl,rfl,rfl,rfl,rfl,op⟩:=HV3.out (by trivial);have lgi:=(bx oi).2;have lgd:=(bx od).2;have lgp:=(bx op).2;simp only at lgi lgd lgp;have oi':=ai (ai (ai oi mz1) m2) nz3;have od':=ai (ai od mz2) nz3;have s1':=m2.size;have s2':=nz3.size;have s3':=m1.size;go_wp2_with fail;refine bodyPost_ret (v:=.tuple #[.agg (eN k gi gd gp),.bool true]) (by simp [results,Tryz.results51,go_sem,eN,d0,d1,d2,d3,d4,d5,d6,d7,d8,q33]) rfl ⟨⟨gi,gd,gp,rfl,?_⟩,(AP A4 (by omega) _ _ _ _ _ _ _ _ _).alloc (by simp;omega) _⟩;have g9:=gb9 z3 (w.heap.size+1);exact RowsAt.keep ⟨bD (ao oi' (g9 _ _ _ _ _ _ _ _ _) (by omega)) (by omega),bD (ao od' (g9 _ _ _ _ _ _ _ _ _) (by omega)) (by omega),bD (ao op (g9 _ _ _ _ _ _ _ _ _) (by omega)) (by omega),by omega,by omega,by omega⟩ ((brf).alloc nle _)
 ·have hall':(q1 && q2 && q3)=false:=by
   cases q1 <;> cases q2 <;> cases q3 <;> simp at hall |-
  cases q1 <;> cases q2 <;> cases q3;all_goals first | (exfalso;simp at hall';done) | skip
  all_goals
   go_wp2_with fail;exact bodyPost_ret (v:=.tuple #[.agg #[VI 0,VI 0,SN,VI 0,VI 0,SN,VI 0,VI 0,SN],.bool false]) (by simp [results,Tryz.results51,go_sem,d0,d1,d2,d3,d4,d5,d6,d7,d8,q33]) rfl ⟨rfl,(AP A4 (by omega) _ _ _ _ _ _ _ _ _).alloc (by simp;omega) _⟩
section
attribute [local go_sem ↓] Go.wp_at_zero Go.wp_at_succ
abbrev gM:Array Value:=#[SN,SN,VU 0,VI 0,.bool false,.bool false,VU 0,VU 0,VU 0,VI 0,VI 0,VU 0,VI 0,VI 0,SN,VI 0,VI 0,SN,VI 0,VI 0,SN,SN]
structure DecIn (w v:World) (hb:Nat) (p:PtrM) (h:HartM):Prop where
 box:v.heap[hb]?=some (.cells (aA p h) 44 (0,0))
 res:v.heap[w.heap.size]?=some (.cells gM 47 (0,0))
 low:w.heap.size<hb
 mem:v.ownsRow (hb+1) 5 1 (.slice p.am h.mem.length p.cm) h.mem.length (eR h.mem)
 ks:∃u:World,u.heap.size=hb∧KRows (w.heap.size+1) u p h.k∧Below hb u v
 below:Bw w v
theorem DecIn.lt {w v:World} {hb:Nat} {p:PtrM} {h:HartM} (d:DecIn w v hb p h):hb<v.heap.size:=(hpl d.box)
theorem DecIn.keep {w v v':World} {hb:Nat} {p:PtrM} {h:HartM} (d:DecIn w v hb p h) (hn:Bw v v'):DecIn w v' hb p h:=by
 obtain ⟨u,h1,h2,h3⟩:=d.ks;have:=d.lt;have:=d.low;exact ⟨ag d.box hn d.lt,ag d.res hn (by omega),d.low,ai d.mem hn,⟨u,h1,h2,h3.trans (hn.mono (by omega))⟩,bst d.below hn⟩
theorem DecIn.cell {w v:World} {hb:Nat} {p:PtrM} {h h':HartM} (d:DecIn w v hb p h) (i:Nat) (x:Value) (hA:(aA p h).setIfInBounds i x=aA p h') (hm:h'.mem=h.mem) (hk:h'.k=h.k):DecIn w (v.setCell (AD hb i) x) hb p h':=by
 obtain ⟨u,h1,h2,h3⟩:=d.ks;have hh:=d.low;refine ⟨?_,qV d.res i x (by omega),d.low,?_,⟨u,h1,by rw [hk];exact h2,h3.setCell nle _⟩,d.below.setCell (p:=(AD hb i)) (by show w.heap.size<=hb;omega) _⟩
 ·rw [<-hA];exact cV d.box i x
 ·rw [hm];exact bS d.mem d.box (by decide) (aj (ap v (some hb)) i x)
theorem DecIn.put {w v v5:World} {hb g c:Nat} {p:PtrM} {h:HartM} {m:List Int} (d:DecIn w v hb p h) (hn:Below (hb+1) v v5) (ho:v5.ownsRow (hb+1) 5 1 (SL g m.length c) m.length (eR m)):
 DecIn w (v5.setCell (AD hb 0) (SL g m.length c)) hb ⟨some (AD g 0),c,p.ar,p.cr,p.a1,p.c1,p.a2,p.c2,p.a3,p.c3⟩ (cL h m):=by
 obtain ⟨u,h1,h2,h3⟩:=d.ks;have hh:=d.low;have hl:=d.lt;have b5:=(hn.block _ (by omega)).trans d.box;refine ⟨?_,qV ((hn.block _ (by omega)).trans d.res) 0 _ (by omega),d.low,?_,⟨u,h1,h2,(h3.trans (hn.mono (by omega))).setCell nle _⟩,(d.below.trans (hn.mono (by omega))).setCell (p:=(AD hb 0)) (by show w.heap.size<=hb;omega) _⟩
 ·exact cV b5 0 _
 ·exact bS ho b5 (by decide) (aj (ap v5 (some hb)) 0 _)
end
section
attribute [local go_sem ↓] Go.wp_at_zero Go.wp_at_succ
def dV (p:PtrM) (pa:Option Addr) (pc:Nat) (h:HartM) (ps:List Int):Array Value:=#[.slice p.am h.mem.length p.cm,.slice p.ar h.regs.length p.cr,VU h.pc,VI h.mode,.bool h.sum,.bool h.mxr,VU h.satp,VU h.tvec,VU h.epc,VI h.emode,VI h.cause,VU h.tval,
 VI h.k.i.sets,VI h.k.i.ways,.slice p.a1 h.k.i.es.length p.c1,VI h.k.d.sets,VI h.k.d.ways,.slice p.a2 h.k.d.es.length p.c2,VI h.k.p.sets,VI h.k.p.ways,.slice p.a3 h.k.p.es.length p.c3,.slice pa ps.length pc]
def cR (zs:List Int):List Value:=zs.map (Value.int .i64)
theorem oI (p:PtrM) (pa:Option Addr) (pc:Nat) (h:HartM) (ps:List Int):(dV p pa pc h ps).all (·.oneCell')=true:=by
 simp [dV,Value.oneCell']
theorem qZ:(Tryz.prog.info? 47).map (·.size)=some 22:=by kernel_rfl
theorem DecIn.gb {w u v:World} {hb:Nat} {p p':PtrM} {h h':HartM} (d:DecIn w u hb p h) (g:u.grownBy v (some hb)) (hx:v.heap[hb]?=some (.cells (aA p' h') 44 (0,0))) (hm:p'.am=p.am∧p'.cm=p.cm∧h'.mem=h.mem) (hk:p'.a1=p.a1∧p'.c1=p.c1∧p'.a2=p.a2∧p'.c2=p.c2∧p'.a3=p.a3∧p'.c3=p.c3∧h'.k=h.k):DecIn w v hb p' h':=by
 obtain ⟨x,h1,h2,h3⟩:=d.ks;have hl:=d.low;have hl2:=d.lt;refine ⟨hx,aq d.res g (by omega),d.low,?_,⟨x,h1,?_,h3.trans ⟨g.os,g.tape,g.output,g.size,fun k hk=>g.block k (by omega) (by simp;omega)⟩⟩,d.below.trans ⟨g.os,g.tape,g.output,g.size,fun k hk=>g.block k (by omega) (by simp;omega)⟩⟩
 ·rw [hm.1,hm.2.1,hm.2.2];exact bS d.mem d.box (by decide) g
 ·unfold KRows at h2 |-;rw [hk.1,hk.2.1,hk.2.2.1,hk.2.2.2.1,hk.2.2.2.2.1,hk.2.2.2.2.2.1,hk.2.2.2.2.2.2];exact h2
theorem Tryz.infoI:(Tryz.prog.info? 2).map (fun i=>(i.zero,i.size,i.bytes))=some (some (VI 0),1,8):=by kernel_rfl
structure DecEnd (w v:World) (hb:Nat) (q:PtrM) (h:HartM):Prop where
 box:v.heap[hb]?=some (.cells (aA q h) 44 (0,0))
 res:v.heap[w.heap.size]?=some (.cells gM 47 (0,0))
 low:w.heap.size<hb
 mem:v.ownsRow (hb+1) 5 1 (.slice q.am h.mem.length q.cm) h.mem.length (eR h.mem)
 memb:∀z∈h.mem,0<=z∧z<=255
 regs:v.ownsRow (hb+1) 33 1 (.slice q.ar h.regs.length q.cr) h.regs.length (cF h.regs)
 ks:KRows (w.heap.size+1) v q h.k
 below:Bw w v
end
theorem vS {e:TypeId} {size base n:Nat} {w w':World} {s t:Value} {cs:List Value} (h:w.ownsRow base e size s n cs) (hg:w.grownBy w' t.ownBlock) (ha:∀g,s.ownBlock=some g->t.ownBlock=some g->False):w'.ownsRow base e size s n cs:=by
 refine h.kept hg ?_;cases hs:s.ownBlock with
 | none=>exact .inl rfl
 | some g=>exact .inr fun he=>ha g hs he.symm
theorem jm {w w':World} {g:Nat} {o:Obj} {s:Value} (h:w.heap[g]?=some o) (hg:w.grownBy w' s.ownBlock) (hn:s.ownBlock≠some g):w'.heap[g]?=some o:=
 (hg.block g (hpl h) (fun e=>hn e.symm)).trans h
theorem nm {e e':TypeId} {size size' base base' n n':Nat} {w:World} {s s':Value} {cs cs':List Value} (h:w.ownsRow base e size s n cs) (h':w.ownsRow base' e' size' s' n' cs') (he:e≠e'):∀g,s.ownBlock=some g->s'.ownBlock=some g->False:=by
 intro g h1 h2;rcases h'.2 with ⟨h3,_⟩ | ⟨g',cap,cur,h3,_,h4,_⟩
 ·rw [h3] at h2;simp [Value.ownBlock] at h2
 ·rw [h3] at h2;simp only [Value.ownBlock] at h2;have hg:=Option.some.inj h2;subst hg;exact aY h h4 (Ne.symm he) h1
theorem sg (v:World) (V:Array Value) (hs:V.size=22) (h1:V.all (·.oneCell')=true):
 ∃v',(Instr.storeAt 47 (PT v.heap.size 0) (.agg V)).run Tryz.prog (v.alloc (Obj.cells gM 47))=.ok () v'∧v'.heap[v.heap.size]?=some (.cells V 47 (0,0))∧v.heap.size<v'.heap.size∧Bw v v':=by
 have a:=bN v gM 47;refine ⟨_,dh (P:=Tryz.prog) (T:=47) a.1 (by rw [hs];exact qZ) (by rw [hs];rfl) h1,cD a.1 (by rw [hs];rfl),?_,?_⟩
 ·rw [fP,a.2.1];exact Nat.lt_succ_self _
 ·exact dn nle _ _ _ a.2.2
theorem vT {P:Program} {ops:Array Oper} {Q:Exit->Act->World->Prop} {rest:List Oper} {a:Act} {d:Tmp} {T ty:TypeId} {x:Operand} {pos:String} {af:Array Edge} {g:Option (Nat × Bool)} {w:World} {b o:Nat} {V:Value} (hw:Region.wanted { dst:=some d,op:=.load T x,type:=ty,pos:=pos,after:=af,guard:=g } (yielded ops a.tmps)=true) (hx:a.eval x=PT b o) (hl:(Instr.loadAt T (PT b o)).run P w=.ok V w)
 (h:wpList P ops Q rest (a.put (some d) V) w):wpList P ops Q ({ dst:=some d,op:=.load T x,type:=ty,pos:=pos,after:=af,guard:=g }::rest) a w:=
 wpList_step fun K hK=>by
  rw [if_pos hw];unfold Oper.wp execOp;simp only [hx,Sem.run_bind,hl,Result.andThen_ok,Sem.run_pure];exact hK _ _ h
section
attribute [local go_sem ↓] Go.wp_at_zero Go.wp_at_succ
def kP (h:HartM):Prop:=((h.mem.length:Int)%64=0∧64<=(h.mem.length:Int)∧(h.mem.length:Int)<=4096)∧(h.regs.length:Int)=8∧h.regs[0]?.getD 0=0∧(0<=h.mode∧h.mode<=2)∧(0<=h.emode∧h.emode<=2)∧cW h.satp=true∧h.tvec%4=0∧(0<=h.cause∧h.cause<=63)
theorem kj (h:HartM):(df h.mem.length && fl h)=true↔kP h:=by
 simp only [df,fl,kP,Bool.and_eq_true,decide_eq_true_eq,beq_iff_eq];constructor
 ·rintro ⟨⟨a,b,c⟩,⟨⟨⟨⟨⟨⟨d,e⟩,f⟩,g⟩,i⟩,j⟩,k⟩⟩;exact ⟨⟨by omega,by omega,by omega⟩,by omega,e,f,g,i,j,k⟩
 ·rintro ⟨⟨a,b,c⟩,d,e,f,g,i,j,k⟩;exact ⟨⟨by omega,by omega,by omega⟩,⟨⟨⟨⟨⟨⟨by omega,e⟩,f⟩,g⟩,i⟩,j⟩,k⟩⟩
theorem vw {w:World} {a:Option Addr} {xs:List Int} (h:RowC w a xs.length 1 (cF xs)) (h8:xs.length=8):∃b off,a=some (AD b off)∧b<w.heap.size∧w.cell? (AD b off)=some (VU (xs[0]?.getD 0)):=by
 rcases h.2 with h0 | ⟨b,off,rfl,hlt,hc⟩
 ·omega
 ·refine ⟨b,off,rfl,hlt,?_⟩;have:=hc 0 (VU (xs[0]?.getD 0)) (by
   have:0<xs.length:=by omega
   simp [cF,geg this])
  simpa using this
theorem jB (n:Nat) (w:World) (hl:n<=1048576):Calls Tryz.prog 79 #[VI n] w fun e w'=>e=.returned (.bool (df n))∧w'=w:=by
 obtain ⟨R,hR⟩:∃R,df n=R:=⟨_,rfl⟩;have HF:Hid (R=true↔((n:Int)%64=0∧64<=(n:Int)∧(n:Int)<=4096)):=by
  show _↔_;rw [<-hR,df,decide_eq_true_eq];omega
 rw [hR];clear hR;go_enter Tryz.func79,Tryz.ntmps79;go_wp2_with fail;all_goals (
  go_ret;refine ⟨?_,rfl⟩;have q:=HF.out;cases R with
  | false=>simp at q |- <;> omega
  | true=>simp at q |- <;> omega)
end
def eu (s t:Value):Prop:=∀g,s.ownBlock=some g->t.ownBlock≠some g
def TransSep (base:Nat) (w:World) (v:Value) (r:(Int × Int) × KM):Prop:=
 ∃s1 s2 s3,v=.agg #[VI r.1.1,VU r.1.2,VI r.2.i.sets,VI r.2.i.ways,s1,VI r.2.d.sets,VI r.2.d.ways,s2,VI r.2.p.sets,VI r.2.p.ways,s3]∧
  w.ownsRow base 154 6 s1 r.2.i.es.length (bE r.2.i.es)∧w.ownsRow base 154 6 s2 r.2.d.es.length (bE r.2.d.es)∧w.ownsRow base 154 6 s3 r.2.p.es.length (bE r.2.p.es)∧
  eu s1 s2∧eu s1 s3∧eu s2 s3
theorem TransSep.own {base:Nat} {w:World} {v:Value} {r:(Int × Int) × KM} (h:TransSep base w v r):xd base w v r:=by
 obtain ⟨s1,s2,s3,h0,h1,h2,h3,_⟩:=h;exact ⟨s1,s2,s3,h0,h1,h2,h3⟩
theorem TlbAt.row {w:World} {a:Option Addr} {c:Nat} {t:TlbM} (h:TlbAt w (.agg #[VI t.sets,VI t.ways,.slice a t.es.length c]) t):RowC w a t.es.length 6 (bE t.es)∧t.es.length<=1048576:=by
 obtain ⟨a',c',he,hr,_,_,_,hl,_⟩:=h;simp at he;obtain ⟨rfl,rfl⟩:=he;exact ⟨hr,hl⟩
theorem kO {e:TypeId} {size base n:Nat} {w:World} {s:Value} {cs:List Value} (h:w.ownsRow base e size s n cs):(s=SN∧n=0∧cs=[])∨∃g cap,s=SL g n cap:=by
 rcases h.2 with ⟨h1,h2⟩ | ⟨g,cap,_,h1,_⟩
 ·refine .inl ⟨h1,h2,?_⟩;have:=h.1;subst h2;simpa using this
 ·exact .inr ⟨g,cap,h1⟩
def RowS (w:World) (s:Value) (n:Nat) (cs:List Value):Prop:=∃a cap,s=.slice a n cap∧RowC w a n 6 cs
theorem RowS.keep {w w':World} {s:Value} {n:Nat} {cs:List Value} (h:RowS w s n cs) (hb:Bw w w'):RowS w' s n cs:=by
 obtain ⟨a,c,h1,h2⟩:=h;exact ⟨a,c,h1,h2.keep hb⟩
structure Mid (R:Nat->Prop) (w w':World):Prop where
 os:w'.os=w.os
 tape:w'.tape=w.tape
 output:w'.output=w.output
 size:w.heap.size<=w'.heap.size
 block:∀i,i<w.heap.size->¬R i->w'.heap[i]?=w.heap[i]?
theorem Mid.of_gb {R:Nat->Prop} {w w':World} {r:Option Nat} (h:w.grownBy w' r) (hr:∀g,r=some g->R g):Mid R w w':=
 ⟨h.os,h.tape,h.output,h.size,fun i hi' hh=>h.block i hi' (fun e=>hh (hr i e.symm))⟩
theorem Mid.of_below {R:Nat->Prop} {w w':World} (h:Bw w w'):Mid R w w':=
 ⟨h.os,h.tape,h.output,h.size,fun i hi' _=>h.block i hi'⟩
theorem Mid.trans {R:Nat->Prop} {a b c:World} (h:Mid R a b) (k:Mid R b c):Mid R a c:=
 ⟨k.os.trans h.os,k.tape.trans h.tape,k.output.trans h.output,Nat.le_trans h.size k.size,fun i hi' hh=>(k.block i (ltl hi' h.size) hh).trans (h.block i hi' hh)⟩
theorem Mid.heap {R:Nat->Prop} {g:Nat} {w w':World} {o:Obj} (h:Mid R w w') (hg:w.heap[g]?=some o) (hh:¬R g):w'.heap[g]?=some o:=
 (h.block g (hpl hg) hh).trans hg
theorem Mid.below {R:Nat->Prop} {B:Nat} {a w w':World} (h:Mid R w w') (hb:Below B a w) (hB:B<=w.heap.size) (hl:∀g,R g->B<=g):Below B a w':=
 ⟨h.os.trans hb.os,h.tape.trans hb.tape,h.output.trans hb.output,Nat.le_trans hb.size h.size,fun k hk=>(h.block k (by omega) (fun hr=>by have:=hl k hr;omega)).trans (hb.block k hk)⟩
theorem Mid.own {R:Nat->Prop} {e:TypeId} {size base n:Nat} {w w':World} {s:Value} {cs:List Value} (h:Mid R w w') (ho:w.ownsRow base e size s n cs) (hh:∀g,s.ownBlock=some g->¬R g):w'.ownsRow base e size s n cs:=by
 refine ⟨ho.1,?_⟩;rcases ho.2 with h1 | ⟨g,cap,cur,h1,h2,h3,h4⟩
 ·exact .inl h1
 ·exact .inr ⟨g,cap,cur,h1,h2,h.heap h3 (hh g (by rw [h1];rfl)),h4⟩
def Ag (s1 s2 s3:Value) (i:Nat):Prop:=s1.ownBlock=some i∨s2.ownBlock=some i∨s3.ownBlock=some i
theorem iJ {e:TypeId} {size base n:Nat} {w w':World} {s t:Value} {cs:List Value} (h:w.ownsRow base e size s n cs) (hg:w.grownBy w' t.ownBlock) (ha:eu s t):w'.ownsRow base e size s n cs:=by
 refine h.kept hg ?_;cases hs:s.ownBlock with
 | none=>exact .inl rfl
 | some g=>exact .inr fun he=>ha g hs he.symm
section
attribute [local go_sem ↓] Go.wp_at_zero Go.wp_at_succ
theorem jS (w:World) (n:Nat):Bw w (w.drewN n):=
 have h:=mt (ap w none) n
 ⟨h.os,h.tape,h.output,h.size,fun i hi=>h.block i hi (by simp)⟩
structure HartR (w:World) (p:PtrM) (h:HartM):Prop where
 mem:Byt w p.am h.mem.length h.mem
 regs:RowC w p.ar h.regs.length 1 (cF h.regs)
 r1:RowC w p.a1 h.k.i.es.length 6 (bE h.k.i.es)
 r2:RowC w p.a2 h.k.d.es.length 6 (bE h.k.d.es)
 r3:RowC w p.a3 h.k.p.es.length 6 (bE h.k.p.es)
theorem HartR.keep {w w':World} {p:PtrM} {h:HartM} (k:HartR w p h) (hb:Bw w w'):HartR w' p h:=
 ⟨k.mem.keep hb,k.regs.keep hb,k.r1.keep hb,k.r2.keep hb,k.r3.keep hb⟩
theorem gW {e e':TypeId} {size size' base base' n n':Nat} {w:World} {s s':Value} {cs cs':List Value} (h:w.ownsRow base e size s n cs) (h':w.ownsRow base' e' size' s' n' cs') (he:e≠e'):eu s s':=by
 intro g h1 h2;rcases h'.2 with ⟨h3,_⟩ | ⟨g',cap,cur,h3,_,h4,_⟩
 ·rw [h3] at h2;simp [Value.ownBlock] at h2
 ·rw [h3] at h2;simp only [Value.ownBlock] at h2;have hg:=Option.some.inj h2;subst hg;exact aY h h4 (Ne.symm he) h1
def Ar (sm sr s1 s2 s3:Value) (i:Nat):Prop:=sm.ownBlock=some i∨sr.ownBlock=some i∨Ag s1 s2 s3 i
structure HartO (base:Nat) (w:World) (p:PtrM) (h:HartM) (cm cr c1 c2 c3:List Value):Prop where
 mem:w.ownsRow base 5 1 (.slice p.am h.mem.length p.cm) h.mem.length cm
 regs:w.ownsRow base 33 1 (.slice p.ar h.regs.length p.cr) h.regs.length cr
 r1:w.ownsRow base 154 6 (.slice p.a1 h.k.i.es.length p.c1) h.k.i.es.length c1
 r2:w.ownsRow base 154 6 (.slice p.a2 h.k.d.es.length p.c2) h.k.d.es.length c2
 r3:w.ownsRow base 154 6 (.slice p.a3 h.k.p.es.length p.c3) h.k.p.es.length c3
 d12:eu (.slice p.a1 h.k.i.es.length p.c1) (.slice p.a2 h.k.d.es.length p.c2)
 d13:eu (.slice p.a1 h.k.i.es.length p.c1) (.slice p.a3 h.k.p.es.length p.c3)
 d23:eu (.slice p.a2 h.k.d.es.length p.c2) (.slice p.a3 h.k.p.es.length p.c3)
abbrev yj (p:PtrM) (h:HartM):Nat->Prop:=Ar (.slice p.am h.mem.length p.cm) (.slice p.ar h.regs.length p.cr) (.slice p.a1 h.k.i.es.length p.c1) (.slice p.a2 h.k.d.es.length p.c2) (.slice p.a3 h.k.p.es.length p.c3)
theorem HartO.keep {base:Nat} {w w':World} {p:PtrM} {h:HartM} {cm cr c1 c2 c3:List Value} (k:HartO base w p h cm cr c1 c2 c3) (hb:Bw w w'):HartO base w' p h cm cr c1 c2 c3:=
 ⟨ai k.mem hb,ai k.regs hb,ai k.r1 hb,ai k.r2 hb,ai k.r3 hb,k.d12,k.d13,k.d23⟩
theorem HartO.gb {base:Nat} {w w':World} {p:PtrM} {h:HartM} {cm cr c1 c2 c3:List Value} {r:Nat} (k:HartO base w p h cm cr c1 c2 c3) (hg:w.grownBy w' (some r)) (hr:r<base):HartO base w' p h cm cr c1 c2 c3:=
 ⟨ao k.mem hg hr,ao k.regs hg hr,ao k.r1 hg hr,ao k.r2 hg hr,ao k.r3 hg hr,k.d12,k.d13,k.d23⟩
theorem HartO.low {base:Nat} {w:World} {p:PtrM} {h:HartM} {cm cr c1 c2 c3:List Value} (k:HartO base w p h cm cr c1 c2 c3):∀g,yj p h g->base<=g∧g<w.heap.size:=by
 rintro g (h1 | h1 | h1 | h1 | h1)
 ·exact k.mem.lt g h1
 ·exact k.regs.lt g h1
 ·exact k.r1.lt g h1
 ·exact k.r2.lt g h1
 ·exact k.r3.lt g h1
theorem HartO.read {base:Nat} {w:World} {p:PtrM} {h:HartM} (k:HartO base w p h (eR h.mem) (cF h.regs) (bE h.k.i.es) (bE h.k.d.es) (bE h.k.p.es)) (hz:∀i:Nat,0<=h.mem[i]?.getD 0∧h.mem[i]?.getD 0<=255):HartR w p h:=by
 refine ⟨?_,cT k.regs,cT k.r1,cT k.r2,cT k.r3⟩;rcases kO k.mem with ⟨h1,h2,_⟩ | ⟨g,cap,h1⟩
 ·exact ⟨rfl,hz,.inl h2⟩
 ·have hm:=k.mem;rw [h1] at hm;have hx:p.am=some (AD g 0):=by
   simp only [Value.slice.injEq] at h1;exact h1.1
  rw [hx];refine ⟨rfl,hz,.inr ⟨g,0,rfl,(bx hm).2.2,fun i hi=>?_⟩⟩;have:=aK hm i (.int .u8 (h.mem[i]?.getD 0)) (by simp [eR,hi]);simpa using this
end
section
open Go.RowKit Go.Joins Go.ChangeShapes Go.WideShapes Go.ChangeAt
def tlbIn (w:World) (t:TlbM) (a:Option Addr) (cap:Nat):Prop:=
 RowC w a t.es.length 6 (bE t.es)∧(∀e∈t.es,ft e)∧(-9223372036854775808<=t.sets∧t.sets<=9223372036854775807)∧(-9223372036854775808<=t.ways∧t.ways<=9223372036854775807)∧t.es.length<=cap∧(cap:Int)<=9223372036854775807
end
section
attribute [local go_sem ↓] Go.wp_at_zero Go.wp_at_succ
theorem DecEnd.above {w v:World} {hb:Nat} {q:PtrM} {h:HartM} (d:DecEnd w v hb q h):∀x,some x∈dW q->w.heap.size+1<=x.block:=by
 intro x hx;have:=d.low;simp only [dW,List.mem_cons,List.not_mem_nil,or_false] at hx;rcases hx with hx | hx | hx | hx | hx
 ·have:=(cS d.mem x hx.symm).1;omega
 ·have:=(cS d.regs x hx.symm).1;omega
 ·exact (d.ks.ptrs x (.inl hx.symm)).1
 ·exact (d.ks.ptrs x (.inr (.inl hx.symm))).1
 ·exact (d.ks.ptrs x (.inr (.inr hx.symm))).1
theorem ki {e:TypeId} {size base n c:Nat} {w:World} {a:Option Addr} {cs:List Value} (h:w.ownsRow base e size (.slice a n c) n cs) (hn:0<n):∃g,a=some (AD g 0):=by
 rcases h.2 with ⟨_,h2⟩ | ⟨g,cap,cur,h1,_⟩
 ·omega
 ·simp only [Value.slice.injEq] at h1;exact ⟨g,h1.1⟩
theorem DecEnd.hart {w v:World} {hb:Nat} {q:PtrM} {h:HartM} (d:DecEnd w v hb q h) (hk:kOk h.k) (hm:0<h.mem.length) (hr:0<h.regs.length):HartIn v q h∧∀x,some x∈dW q->w.heap.size<=x.block:=by
 obtain ⟨g1,e1⟩:=ki d.mem hm;obtain ⟨g2,e2⟩:=ki d.regs hr;have om:=d.mem;have og:=d.regs;rw [e1] at om;rw [e2] at og;have f1:=OwnC.facts om;have f2:=OwnC.facts og;refine ⟨⟨?_,?_,cT d.regs,?_,?_,d.ks.at hk,?_⟩,fun x hx=>by have:=d.above x hx;omega⟩
 ·rw [e1];exact OwnB.byt (e:=5) (base:=hb+1) om (bk d.memb)
 ·simp only [maxLen] at f1;omega
 ·simp only [maxLen] at f2;omega
 ·rw [e2];exact ⟨fun h0=>(by cases h0),fun x hx=>(by cases hx;rfl)⟩
 ·intro x hx;simp only [dW,List.mem_cons,List.not_mem_nil,or_false] at hx;rcases hx with hx | hx | hx | hx | hx
  ·exact (cS d.mem x hx.symm).2
  ·exact (cS d.regs x hx.symm).2
  ·exact (d.ks.ptrs x (.inl hx.symm)).2
  ·exact (d.ks.ptrs x (.inr (.inl hx.symm))).2
  ·exact (d.ks.ptrs x (.inr (.inr hx.symm))).2
end
end Go.Proofs.YthdgiakgepmabaaGreat
