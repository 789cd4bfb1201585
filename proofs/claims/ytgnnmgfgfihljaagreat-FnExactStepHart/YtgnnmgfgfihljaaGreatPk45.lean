import Derived.Test.YtgnnmgfgfihljaaGreatPk44
import Derived.Test.YtgnnmgfgfihljaaGreatPk32
namespace Go.Proofs.YtgnnmgfgfihljaaGreat
open Go.RowKit
set_option linter.unusedVariables false
set_option maxHeartbeats 6400000
set_option maxRecDepth 20000
abbrev Aa:Array Value:=#[.int .u64 0,.int .u64 0,.int .u64 0,.int .u64 0,.int .u64 0,.int .u64 0,.int .u64 0,.int .u64 0,.int .u64 0,.int .i64 0,.bool false,.bool false,.int .u64 0,.int .u64 0,.int .u64 0,.int .i64 0,.int .i64 0,.int .u64 0]
def TZ (r:RunM):Prop:=r.cause=0->r.tval=0
theorem qY (plain:Bool) (pick kind:Int):∀(ps:List bI) (r:RunM),TZ r->TZ (aj plain pick kind r ps).1
 | [],r,h=>h
 | p::ps,r,h=>by
  unfold aj;split
  ·exact qY plain pick kind ps _ h
  ·rename_i hz;exact fun e=>absurd e hz
theorem yQ (plain:Bool) (pick kind va n:Int) {r:RunM} (h:TZ r):TZ (aJ plain pick r kind va n).1:=by
 unfold aJ;split
 ·split
  ·exact qY plain pick kind _ r h
  ·exact fun e=>absurd e (ev kind)
 ·exact qY plain pick kind _ r h
theorem BE {c:Prop} [Decidable c] {a b:RunM} (ha:TZ a) (hb:TZ b):TZ (if c then a else b):=by
 by_cases h:c
 ·rw [if_pos h];exact ha
 ·rw [if_neg h];exact hb
theorem BZ (plain:Bool) (pick:Int) {r:RunM} (pc op a b c s x:Int) (hm:0<=r.h.mode) (h:TZ r):TZ (doM plain pick r pc op a b c s x):=by
 unfold doM oL kg vn;repeat' (with_reducible refine BE ?_ ?_)
 all_goals first
  | exact h
  | exact yQ plain pick _ _ _ h
  | exact fun e=>absurd e (show (2:Int)≠0 by omega)
  | exact fun e=>absurd e (show 8+r.h.mode≠0 by omega)
theorem BF (plain:Bool) (pick:Int) {r:RunM} (x:Int) (hm:0<=r.h.mode) (h:TZ r):TZ (jo plain pick r x):=BZ plain pick _ _ _ _ _ _ _ hm h
def mN (plain:Bool) (pick:Int) (h0:HartM) (O X:Nat->Prop) (m:MP) (PA:World->RunM->Prop) (w:World) (e:Ending) (w':World):Prop:=
 e=.returned (.agg #[.int .i64 (ew plain pick h0).cause,.int .u64 (ew plain pick h0).tval])∧∃O' ov' ol',MW w' O' X m ov' (ew plain pick h0).h ol'∧Kp O w w'∧(∀i,i<w.heap.size->O' i->O i)∧PA w' (ew plain pick h0)
theorem Ab (T:Array Value) (d:Nat) (hd:d≠4) (v:Value):results Tryz.f31 (T.setIfInBounds d v)=results Tryz.f31 T:=by
 simp [results,Tryz.results31,Array.getElem?_setIfInBounds,hd]
theorem xe {R:Ending->World->Prop} (x:List PanicEntry) (a:Act) (d:Option Tmp) (hd:d≠some 4) (v:Value) (w:World) (h:bodyPostD Tryz.prog Tryz.f31 R (.panic x) (a.put d v) w):bodyPostD Tryz.prog Tryz.f31 R (.panic x) a w:=by
 cases d with
 | none=>exact h
 | some d=>exact kn (Ab a.tmps d (fun e=>hd (e ▸ rfl)) v) _ _ _ h
abbrev Cd (pb pm pt:Nat):Deferred:={ target:=.fn (.func 59) #[.pointer (some ⟨pb,0,none⟩),.pointer (some ⟨pm,0,none⟩),.pointer (some ⟨pt,0,none⟩)],args:=#[] }
theorem Ce (plain:Bool) (pick:Int) (h0:HartM) (r:RunM) (hc:r.cause≠0):(nW h0 r).cause=r.cause∧(nW h0 r).tval=r.tval∧(nW h0 r).h=dA h0 r:=by
 unfold nW;rw [if_neg hc];exact ⟨rfl,rfl,rfl⟩
theorem yR {h0:HartM} {r:RunM} (hc:r.cause=0):nW h0 r=r:=if_pos hc
theorem sE {plain:Bool} {pick:Int} {h0:HartM} {O O' X:Nat->Prop} {PI:World->Prop} {PA:World->RunM->Prop} {m:MP} (hp:PathOk m plain pick h0 X PI PA) {ov:Value} {hx:HartM} {ol:List (Nat × Int)} (pb pm pt:Nat) (T:Array Value) (w v:World) (r:RunM)
 (hT:T[4]?=some (.pointer (some ⟨pt,0,none⟩))) (hs:ew plain pick h0=nW h0 r) (hc:r.cause≠0) (hby:BytM h0.mem) (hrg:h0.regs.length=8)
 (k:MW v O' X m ov hx ol) (hk:hx.k=r.h.k) (hun:fx ol hx.mem=h0.mem) (hA:PA v r)
 (h1:v.heap[pb]?=some (.cells (fq h0) 90 (0,0))) (h2:v.heap[pm]?=some (.cells #[.pointer (some ⟨m.b,0,none⟩)] 70 (0,0))) (h3:v.heap[pt]?=some (.cells #[.int .i64 0,.int .u64 0] 75 (0,0))) (n1:¬O' pb) (n2:¬O' pm) (n3:¬O' pt)
 (N:Kp O w v) (hO:∀i,i<w.heap.size->O' i->O i) (hpt:w.heap.size<=pt):
 Leaves Tryz.prog Tryz.f31 T (mN plain pick h0 O X m PA w) [Cd pb pm pt] (.panicking [jz r.cause r.tval]) v:=by
 refine leaves_cons (f:=59) (args:=#[.pointer (some ⟨pb,0,none⟩),.pointer (some ⟨pm,0,none⟩),.pointer (some ⟨pt,0,none⟩)]) (by simp) (by kernel_rfl) ?_;refine (tH pb pm pt r.cause r.tval v k hun hby hrg h1 h2 h3 n1 n2 n3).mono ?_;rintro e u' w' ⟨rfl,rfl,k',h3',kp⟩;have kb:=k.ob;have km:=k.om;have c0:=aa h3' 0 (v:=.int .i64 r.cause) rfl;have c1:=aa h3' 1 (v:=.int .u64 r.tval) rfl;have e:=Ce plain pick h0 r hc;refine ⟨.agg #[.int .i64 r.cause,.int .u64 r.tval],?_,?_⟩
 ·simp [results,Tryz.results31,go_sem,hT,c0,c1]
 ·unfold mN;rw [hs,e.1,e.2.1,e.2.2];refine ⟨rfl,O',ov,ol,?_,?_,hO,?_⟩
  ·unfold dA;rw [<-hk];exact k'
  ·refine ⟨kp.os.trans N.os,kp.tape.trans N.tape,kp.output.trans N.output,Nat.le_trans N.size kp.size,fun i hi ho=>?_⟩;rw [kp.block i (Nat.lt_of_lt_of_le hi N.size) ?_,N.block i hi ho];rintro (e | e | e)
   ·exact ho (hO i hi (e ▸ kb))
   ·exact ho (hO i hi (e ▸ km))
   ·omega
  ·refine hp.congr _ r _ (hp.frame _ _ _ hA kp.size fun i hi=>?_) ?_ ?_ ?_ ?_
   ·refine kp.block i (k.xo i hi).2 ?_;rintro (e | e | e)
    ·exact k.xb (e ▸ hi)
    ·exact k.xm (e ▸ hi)
    ·exact n3 (e ▸ (k.xo i hi).1)
   all_goals (unfold nW;rw [if_neg hc];rfl)
theorem BG {plain:Bool} {pick:Int} {h0:HartM} {O X:Nat->Prop} {PI:World->Prop} {PA:World->RunM->Prop} {m:MP} (hp:PathOk m plain pick h0 X PI PA) (hpk:0<=pick∧pick<=255) {ov:Value} {ol:List (Nat × Int)} (w:World)
 (k:MW w O X m ov h0 ol) (hI:PI w) (hh:HOk h0):
 Calls Tryz.prog 31 #[.pointer (some ⟨m.b,0,none⟩),.int .i64 pick] w fun e w'=>mN plain pick h0 O X m PA w e w':=by
 have HK:Hid _:=k;have HI:Hid _:=hI;have HP:Hid _:=hp;have HH:Hid _:=hh;have hb:=k.lt;have F:=eu w #[.pointer (some ⟨m.b,0,none⟩)] #[.int .i64 0,.int .u64 0] 70 75;have hmf:∀(fn:Fn) (first cap:Array Value) (w:World),(Instr.makeFunc fn first cap).run Tryz.prog w=.ok (.func fn first cap) w:=fun _ _ _ _=>rfl;clear k hI hp hh
 go_enter_defers Tryz.func31,Tryz.ntmps31
 go_upto_region 1 with fail;generalize (w.alloc (Obj.cells #[.pointer (some ⟨m.b,0,none⟩)] 70)).alloc (Obj.cells #[.int .i64 0,.int .u64 0] 75)=v1 at F |-;obtain ⟨f1,f2,f3,n1⟩:=F;have K1:=hid (HK.out.low n1);have HF1:Hid _:=f1;have HG1:Hid _:=f2;have HN1:Hid _:=n1;have cm:=aa f1 0 (v:=.pointer (some ⟨m.b,0,none⟩)) rfl;have hsz:v1.heap.size=w.heap.size+2:=by omega
 have HSz:Hid _:=hsz;clear f1 f2 f3 n1;have HL:Hid _:=bY (P:=Tryz.prog) (T:=90) (o:=0) (n:=18) K1.out.blk Tryz.underlying90 rfl (fq h0).toList xT rfl (by simp [fq]);obtain ⟨v2,hs2,hb2,hsz2,n2⟩:∃v',(Instr.storeAt 90 (.pointer (some ⟨v1.heap.size,0,none⟩)) (.agg (fq h0))).run Tryz.prog (v1.alloc (Obj.cells Aa 90))=.ok () v'∧v'.heap[v1.heap.size]?=some (.cells (fq h0) 90 (0,0))∧v'.heap.size=v1.heap.size+1∧Below v1.heap.size v1 v':=by
  have a:=bL v1 Aa 90;refine ⟨_,bB (P:=Tryz.prog) (T:=90) a.1 xT rfl (by simp [fq,Value.oneCell']),aX a.1 rfl,?_,?_⟩
  ·rw [cN,a.2.1]
  ·exact aS nle _ _ _ a.2.2
 have HS:Hid _:=hs2;clear hs2 hsz;obtain ⟨CA,hCA⟩:∃CA,fq h0=CA:=⟨_,rfl⟩;have HCA:Hid _:=hCA;have HL':Hid ((Instr.loadAt 90 (.pointer (some ⟨m.b,0,none⟩))).run Tryz.prog v1=.ok (.agg CA) v1):=by rw [<-hCA];exact HL.out
 rw [hCA] at HS hb2;clear hCA HL;go_upto_region 2 with (first
  | ((with_reducible refine aI ?_ HL'.out ?_);(exact rfl))
  | ((with_reducible refine aH ?_ ?_ HS.out ?_);(exact rfl);(exact rfl)))
 simp only [Act.put];have hO1:∀i,w.heap.size<=i->¬O i:=fun i hi h=>by have:=HK.out.obd _ h;omega
 have hX1:∀i,w.heap.size<=i->¬X i:=fun i hi h=>hO1 i hi (HK.out.xo _ h).1;have K2:=hid (K1.out.low n2);have HF2:=ab HF1 n2;have HG2:=ab HG1 n2;have HB2:=hid hb2;have HN2:=hid (bst HN1.out n2);clear cm hb2 n2 HS HL' K1 HF1 HG1 hsz2;have cm:=aa HF2.out 0 (v:=.pointer (some ⟨m.b,0,none⟩)) rfl;go_wp2_with fail;refine (yT v2 K2.out).mono ?_;rintro e v3 ⟨rfl,ov3,k3,g3⟩;have hws:w.heap.size≠m.b:=by omega
 have hsz:=HSz.out;have K3:Hid _:=k3;have HF3:Hid _:=aQ HF2.out g3 hws;have HG3:Hid _:=aQ HG2.out g3 (show w.heap.size+1≠m.b by omega);have HB3:Hid _:=aQ HB2.out g3 (show v1.heap.size≠m.b by omega);have N3:=hid ((Kp.of_below O HN2.out).trans (Kp.of_gb g3 HK.out.ob));have I3:PI v3:=HP.out.framei w v3 HI.out N3.out.size fun i hi=>by
  have hl:=(HK.out.xo i hi).2;rw [g3.block i (by have:=HN2.out.size;omega) (by
   intro e;have:m.b=i:=by simpa using e.symm
   exact HK.out.xb (this ▸ hi)),HN2.out.block i hl]
 obtain ⟨fn,rv,hmt,hen,hcall⟩:=HP.out.begin v3 I3 K3.out.cells HH.out;have HCl:=hid hcall;clear cm k3 g3 I3 hcall HF2 HG2 HB2 HN2 K2 hsz;have cm:=aa HF3.out 0 (v:=.pointer (some ⟨m.b,0,none⟩)) rfl;have c29:=aa K3.out.blk 29 (v:=.iface m.pd m.px) rfl;go_wp2_with fail;refine Calls.mono HCl.out ?_;rintro e v4 ⟨rfl,a4,kp4⟩;have hsz:=HSz.out;have K4:Hid (MW v4 O X m ov3 (cC plain pick h0).h []):=(K3.out.keep kp4).withK ((um plain pick h0.k).set _ _ _);have A4:Hid _:=a4;have HF4:=Kp.hid HF3 kp4 (hX1 _ nle);have HG4:=Kp.hid HG3 kp4 (hX1 _ (Nat.le_succ _));have HB4:=Kp.hid HB3 kp4 (hX1 _ (by omega));have N4:=hid (N3.out.trans (kp4.mono fun i hi=>(HK.out.xo i hi).1));clear a4 kp4 cm c29 hmt hen HCl HF3 HG3 HB3 N3 K3 hsz;go_upto_region 5 with fail;have hby:=HK.out.byt;have hrg:=HK.out.regs;have CT:=fun (u:Has w.heap.size (.cells #[.pointer (some ⟨m.b,0,none⟩)] 70 (0,0)))=>aa u.h 0 rfl;have ne:Nonempty (Has w.heap.size (.cells #[.pointer (some ⟨m.b,0,none⟩)] 70 (0,0))):=⟨⟨v4,HF4.out⟩⟩;have HR0:Hid _:=kv plain pick HH.out;have HC0:Hid (SameC (cC plain pick h0).h h0):=⟨rfl,rfl,rfl,rfl,rfl⟩;have HS0:Hid (ew plain pick h0=nW h0 (dZ plain pick (cC plain pick h0))):=rfl;have HM0:Hid ((cC plain pick h0).h.mem=h0.mem):=rfl;have HZ0:Hid ((cC plain pick h0).cause=0):=rfl;have T0:Hid (TZ (cC plain pick h0)):=fun _=>rfl;generalize cC plain pick h0=r0 at K4 A4 HR0 HC0 HS0 HM0 HZ0 T0;refine aO (fun w'=>∃u:Has w.heap.size (.cells #[.pointer (some ⟨m.b,0,none⟩)] 70 (0,0)),w'=u.w) 3 (by kernel_rfl) ?_;refine sG (by kernel_rfl) (fuel:=2) ⟨⟨v4.drew,HF4.out⟩,rfl⟩ [0,1] _ _ (by
  intro i hi o ho x a v w hq;refine xe x a o.dst ?_ v w hq;simp only [List.mem_cons,List.not_mem_nil,or_false] at hi;rcases hi with rfl | rfl
  ·simp only [List.getElem?_toArray,List.getElem?_cons_zero,Option.some.injEq] at ho;subst ho;simp
  ·simp only [List.getElem?_toArray,List.getElem?_cons_zero,List.getElem?_cons_succ,Option.some.injEq] at ho;subst ho;simp) (by kernel_rfl) ?_
 simp only [fI,List.getElem?_toArray,List.getElem?_cons_zero,List.getElem?_cons_succ];repeat (go_big_quiet_step (fail))
 refine wpQuiet_nil ?_;have D4:=bdr v4;refine ck 2 23 (by kernel_rfl) rfl (by kernel_rfl) (by kernel_rfl) (f:=63) (args:=#[.pointer (some ⟨m.b,0,none⟩)]) (by kernel_rfl) ?_;refine (Av HP.out hpk r0 v4.drew (K4.out.low D4) (HP.out.keep A4.out (fun i hi=>(K4.out.xo i hi).2) (Kp.of_below (fun _=>False) D4) (fun _ _ h=>h)) HR0.out HC0.out HZ0.out).mono ?_;rintro e v5 (⟨hq1,hq2,hq3,rfl,k5,a5,n5',hx0,hx1⟩ | ⟨hcz,rfl,k5,a5,n5',hm5⟩)
 rotate_left
 ·
  have n5:=(Kp.of_below X D4).trans n5';have hsz:=HSz.out;refine .inr ⟨_,rfl,?_⟩;have HB5:=Kp.hid HB4 n5 (hX1 _ (by omega));rw [<-HCA.out] at HB5;exact sE (O':=O) HP.out v1.heap.size w.heap.size (w.heap.size+1) _ w v5 (dZ plain pick r0) rfl HS0.out hcz hby hrg k5 rfl (by rw [hm5,HM0.out];rfl) a5 HB5.out (n5.heap HF4.out (hX1 _ nle)) (n5.heap HG4.out (hX1 _ (Nat.le_succ _))) (hO1 _ (by omega)) (hO1 _ nle) (hO1 _ (Nat.le_succ _)) (N4.out.trans (n5.mono fun i hi=>(HK.out.xo i hi).1)) (fun i _ h=>h) (Nat.le_succ _)
 have n5:=(Kp.of_below X D4).trans n5';have hsz:=HSz.out;have HF5:=Kp.hid HF4 n5 (hX1 _ nle);have HG5:=Kp.hid HG4 n5 (hX1 _ (Nat.le_succ _));have HB5:=Kp.hid HB4 n5 (hX1 _ (by omega));have N5:Hid (Kp O w v5):=N4.out.trans (n5.mono fun i hi=>(HK.out.xo i hi).1);have hbd:dZ plain pick r0=jo plain pick (bw plain pick r0 0 r0.h.pc) (iY plain pick r0.h):=by
  unfold dZ;rw [if_pos hq1,if_pos hq2,if_pos hq3]
 rw [hbd] at HS0;have R1:Hid _:=iJ HR0.out plain hpk (kind:=0) (va:=r0.h.pc) ⟨by omega,by omega⟩ HR0.out.h.pc;have C1:Hid _:=HC0.out.look plain pick 0 r0.h.pc;have Z1:Hid ((bw plain pick r0 0 r0.h.pc).cause=0):=HZ0.out;have T1:Hid (TZ (bw plain pick r0 0 r0.h.pc)):=T0.out;have M1:Hid ((bw plain pick r0 0 r0.h.pc).h.mem=h0.mem):=HM0.out;refine .inl ⟨_,rfl,fun _=>⟨⟨v5,HF5.out⟩,rfl⟩,?_⟩;simp only [aPt,sTa,sCs,sCz];generalize bw plain pick r0 0 r0.h.pc=r1 at k5 a5 HS0 R1 C1 Z1 M1 T1;generalize iY plain pick r0.h=x at hx0 hx1 HS0 |-;clear hbd hq1 hq2 hq3 HR0 HC0 HZ0 HM0 A4 K4 HF4 HG4 HB4 N4;have hl5:w.heap.size+2<v5.heap.size:=by
  have:=(hpl HB5.out);omega
 refine ck 3 24 (by kernel_rfl) rfl (by kernel_rfl) (by kernel_rfl) (f:=62) (args:=#[.pointer (some ⟨m.b,0,none⟩),.agg (qw x)]) (by kernel_rfl) ?_;refine (yn HP.out hpk r1 x v5 k5 a5 R1.out C1.out Z1.out hx0 hx1).mono ?_;rintro e v6 (⟨hz6,rfl,O6,ov6,ol6,k6,n6,ho6,a6⟩ | ⟨hz6,rfl,O6,ov6,hx6,ol6,k6,hkk,hun6,n6,ho6,a6⟩)
 rotate_left
 ·
  refine .inr ⟨_,rfl,?_⟩;have HB6:=Kp.hid HB5 n6 (hO1 _ (by omega));rw [<-HCA.out] at HB6;exact sE (O':=O6) HP.out v1.heap.size w.heap.size (w.heap.size+1) _ w v6 (jo plain pick r1 x) rfl HS0.out hz6 hby hrg k6 hkk (by rw [hun6,M1.out]) a6 HB6.out (n6.heap HF5.out (hO1 _ nle)) (n6.heap HG5.out (hO1 _ (Nat.le_succ _))) (fun h=>hO1 _ (by omega) (ho6 _ (by omega) h)) (fun h=>hO1 _ nle (ho6 _ (by omega) h)) (fun h=>hO1 _ (Nat.le_succ _) (ho6 _ (by omega) h)) (N5.out.trans n6) (fun i hi h=>ho6 i (by omega) h) (Nat.le_succ _)
 have HG6:=Kp.hid HG5 n6 (hO1 _ (Nat.le_succ _));have HF6:=Kp.hid HF5 n6 (hO1 _ nle);have N6:=hid (N5.out.trans n6);have K6:Hid _:=k6;have A6:Hid _:=a6;have Z6:Hid _:=hz6;have HO6:=hid ho6;refine .inl ⟨_,rfl,fun _=>⟨⟨v6,HF6.out⟩,rfl⟩,?_⟩;simp only [aPt,sTa,sCs,sCz];refine cf (by kernel_rfl) ?_ _;clear k5 a5 k6 a6 n6 ho6 hz6 CT ne hsz D4 n5 n5' HF5 HG5 HF6 HB5 N5;have k0:=aa HG6.out 0 (v:=.int .i64 0) rfl;have k1:=aa HG6.out 1 (v:=.int .u64 0) rfl;have f0:=aE HG6.out 0;have f1:=aE HG6.out 1;go_wp2_with fail;have htv:(jo plain pick r1 x).tval=0:=BF plain pick x R1.out.h.v.mode.1 T1.out Z6.out;have g7:=ak (ak (au v6 (some (w.heap.size+1))) 0 (.int .i64 0)) 1 (.int .u64 0);have H7:Hid _:=bq (v:=.int .u64 0) (i:=1) (bq (v:=.int .i64 0) (i:=0) HG6.out);have n6:¬O6 (w.heap.size+1):=fun h=>hO1 _ (Nat.le_succ _) (HO6.out _ (by omega) h);have K:=K6.out;have hk7:=Kp.of_gb g7 rfl;have K7:MW ((v6.setCell ⟨w.heap.size+1,0,none⟩ (.int .i64 0)).setCell ⟨w.heap.size+1,1,none⟩ (.int .u64 0)) O6 X m ov6 (jo plain pick r1 x).h ol6:=
  ⟨hk7.heap K.blk (fun e=>n6 (e ▸ K.ob)),hk7.blk K.mem (fun e=>n6 (e ▸ K.om)),hk7.own K.old fun g e e'=>n6 (e' ▸ (K.oo g e).1),K.ob,K.om,K.oo,K.bm,K.xb,K.xm,fun i hi=>⟨(K.xo i hi).1,Nat.lt_of_lt_of_le (K.xo i hi).2 hk7.size⟩,K.byt,K.len,K.regs,K.oll,K.sh,fun i hi=>Nat.lt_of_lt_of_le (K.obd i hi) hk7.size,K.oln⟩
 generalize (v6.setCell ⟨w.heap.size+1,0,none⟩ (.int .i64 0)).setCell ⟨w.heap.size+1,1,none⟩ (.int .u64 0)=v7 at H7 hk7 K7 |-;refine leaves_cons (f:=59) (args:=#[.pointer (some ⟨v1.heap.size,0,none⟩),.pointer (some ⟨w.heap.size,0,none⟩),.pointer (some ⟨w.heap.size+1,0,none⟩)]) (by simp) (by kernel_rfl) ?_;refine (tG _ _ _ v7).mono ?_;rintro e u' w' ⟨rfl,rfl,hw⟩;rw [hw];have c0:=aa H7.out 0 (v:=.int .i64 0) rfl;have c1:=aa H7.out 1 (v:=.int .u64 0) rfl;refine ⟨.agg #[.int .i64 0,.int .u64 0],?_,?_⟩
 ·simp [results,Tryz.results31,go_sem,c0,c1]
 ·unfold mN;rw [HS0.out,yR Z6.out,Z6.out,htv];refine ⟨rfl,O6,ov6,ol6,K7,?_,fun i hi h=>HO6.out i (by omega) h,?_⟩
  ·have N:=N6.out;refine ⟨hk7.os.trans N.os,hk7.tape.trans N.tape,hk7.output.trans N.output,Nat.le_trans N.size hk7.size,fun i hi ho=>?_⟩;rw [hk7.block i (Nat.lt_of_lt_of_le hi N.size) (by omega),N.block i hi ho]
  ·exact HP.out.frame _ _ _ A6.out hk7.size fun i hi=>hk7.block i (K.xo i hi).2 fun e=>n6 (e ▸ (K.xo i hi).1)
section
attribute [local go_sem ↓] Go.wp_at_zero Go.wp_at_succ
theorem DecEnd.above {w v:World} {hb:Nat} {q:PtrM} {h:HartM} (d:DecEnd w v hb q h):∀x,some x∈aV q->w.heap.size+1<=x.block:=by
 intro x hx;have:=d.low;simp only [aV,List.mem_cons,List.not_mem_nil,or_false] at hx;rcases hx with hx | hx | hx | hx | hx
 ·have:=(jb d.mem x hx.symm).1;omega
 ·have:=(jb d.regs x hx.symm).1;omega
 ·exact (d.ks.ptrs x (.inl hx.symm)).1
 ·exact (d.ks.ptrs x (.inr (.inl hx.symm))).1
 ·exact (d.ks.ptrs x (.inr (.inr hx.symm))).1
theorem tS {e:TypeId} {size base n c:Nat} {w:World} {a:Option Addr} {cs:List Value} (h:w.ownsRow base e size (.slice a n c) n cs) (hn:0<n):∃g,a=some ⟨g,0,none⟩:=by
 rcases h.2 with ⟨_,h2⟩ | ⟨g,cap,cur,h1,_⟩
 ·omega
 ·simp only [Value.slice.injEq] at h1;exact ⟨g,h1.1⟩
theorem DecEnd.hart {w v:World} {hb:Nat} {q:PtrM} {h:HartM} (d:DecEnd w v hb q h) (hk:kOk h.k) (hm:0<h.mem.length) (hr:0<h.regs.length):HartIn v q h∧∀x,some x∈aV q->w.heap.size<=x.block:=by
 obtain ⟨g1,e1⟩:=tS d.mem hm;obtain ⟨g2,e2⟩:=tS d.regs hr;have om:=d.mem;have og:=d.regs;rw [e1] at om;rw [e2] at og;have f1:=OwnC.facts om;have f2:=OwnC.facts og;refine ⟨⟨?_,?_,dv d.regs,?_,?_,d.ks.at hk,?_⟩,fun x hx=>by have:=d.above x hx;omega⟩
 ·rw [e1];exact OwnB.byt (e:=5) (base:=hb+1) om (ge d.memb)
 ·simp only [maxLen] at f1;omega
 ·simp only [maxLen] at f2;omega
 ·rw [e2];exact ⟨fun h0=>(by cases h0),fun x hx=>(by cases hx;rfl)⟩
 ·intro x hx;simp only [aV,List.mem_cons,List.not_mem_nil,or_false] at hx;rcases hx with hx | hx | hx | hx | hx
  ·exact (jb d.mem x hx.symm).2
  ·exact (jb d.regs x hx.symm).2
  ·exact (d.ks.ptrs x (.inl hx.symm)).2
  ·exact (d.ks.ptrs x (.inr (.inl hx.symm))).2
  ·exact (d.ks.ptrs x (.inr (.inr hx.symm))).2
end
section
attribute [local go_sem ↓] Go.wp_at_zero Go.wp_at_succ
theorem zp (v:Value) (n:Nat):(madeCells #[v] n).toList=List.replicate n v:=by
 apply List.ext_getElem?;intro j;by_cases hj:j<n
 ·simp [madeCells,hj,Nat.mod_one]
 ·rw [List.getElem?_eq_none (by simp [madeCells];omega),List.getElem?_eq_none (by simp;omega)]
end
end Go.Proofs.YtgnnmgfgfihljaaGreat
