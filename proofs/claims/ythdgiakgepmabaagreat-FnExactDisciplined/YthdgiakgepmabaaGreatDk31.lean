import Derived.Test.YthdgiakgepmabaaGreatDk30
namespace Go.Proofs.YthdgiakgepmabaaGreat
open Go.RowKit
set_option linter.unusedVariables false
set_option maxHeartbeats 6400000
set_option maxRecDepth 20000
def Hh (w:World) (O X:Nat->Prop) (m:MP) (PA:World->RunM->Prop) (r':RunM) (w':World):Prop:=
 ∃O' ov' ol',MW w' O' X m ov' r'.h ol'∧Kp O w w'∧(∀i,i<w.heap.size->O' i->O i)∧PA w' r'
def Gb (w:World) (O X:Nat->Prop) (m:MP) (PA:World->RunM->Prop) (mem:List Int) (r':RunM) (w':World):Prop:=
 ∃O' ov' hx ol',MW w' O' X m ov' hx ol'∧hx.k=r'.h.k∧gA ol' hx.mem=mem∧Kp O w w'∧(∀i,i<w.heap.size->O' i->O i)∧PA w' r'
def rd (w:World) (O X:Nat->Prop) (m:MP) (PA:World->RunM->Prop) (mem:List Int) (r':RunM) (e:Ending) (w':World):Prop:=
 (r'.cause=0∧e=.returned (.tuple #[])∧Hh w O X m PA r' w')∨(r'.cause≠0∧e=.panicked [lz r'.cause r'.tval]∧Gb w O X m PA mem r' w')
theorem zp (plain:Bool) (pick:Int) (r:RunM) (pc op a b c s x:Int) (h:gQ op c r.h.mode=false) (h0:0<=op):doM plain pick r pc op a b c s x=bI r 2 x:=by
 unfold doM;by_cases hi:bH op c r.h.mode=true
 ·rw [if_pos hi]
 ·rw [if_neg hi];have:¬(1<=op∧op<=14):=fun hh=>by
   unfold gQ at h;rw [decide_eq_true hh] at h;simp at h;exact hi h
  iterate 14 rw [if_neg (by omega)]
theorem rY (h:HartM) (gm:Nat) (ov:Value) (gi gd gp:Nat) (pv:Value) (i:Nat) (hi:i<8):(cJ h gm ov gi gd gp pv)[i]?=some (VU (h.regs[i]?.getD 0)):=by
 rcases (show i=0∨i=1∨i=2∨i=3∨i=4∨i=5∨i=6∨i=7 by omega) with rfl | rfl | rfl | rfl | rfl | rfl | rfl | rfl <;> rfl
theorem EZ (x n:Int) (h:0<=n) (h1:n<=64) (w:World):(binOp .shl 33 (VU x) (VU n)).run Tryz.prog w=.ok (VU (x*2^n.toNat%18446744073709551616)) w:=by
 simp [binOp,go_sem,IntKind.wrap_u64];try omega
theorem mA {plain:Bool} {pick:Int} {h0:HartM} {O O' X:Nat->Prop} {PI:World->Prop} {PA:World->RunM->Prop} {m:MP} (hp:PathOk m plain pick h0 X PI PA) {ov:Value} {R1:RunM} {an:Nat} {y y':Int} {w v4 v4' v5:World} {mem:List Int} {ol:List (Nat × Int)} (k:MW v4 O' X m ov R1.h ol) (hA:PA v4 R1) (hk:Kp O w v4) (ho:∀i,i<w.heap.size->O' i->O i) (hc:R1.cause=0) (hd:Bw v4 v4') (hy:y=y')
 (k5:MW v5 O' X m ov (eH R1.h (if 0<(an:Int) then R1.h.regs.set an y else R1.h.regs)) ol) (g5:v4'.grownBy v5 (some m.b)):rd w O X m PA mem (bW R1 an y') (.returned (.tuple #[])) v5:=by
 subst hy;refine .inl ⟨hc,rfl,O',ov,ol,?_,?_,ho,?_⟩
 ·unfold bW;rw [Int.toNat_natCast];exact k5
 ·exact (hk.trans (Kp.of_below O hd)).trans' (Kp.of_gb g5 k.ob) ho
 ·have h1:=hp.keep hA (fun i hi=>(k.xo i hi).2) (Kp.of_below (fun _=>False) hd) (fun _ _ h=>h);have h2:=hp.box h1 (fun i hi=>ltl (k.xo i hi).2 hd.size) g5 k.xb;exact hp.congr _ _ _ h2 rfl rfl rfl rfl
theorem Dl {w:World} {b i:Nat} {C:Array Value} {T:TypeId} {v:Value} (x:Int) (h:w.heap[b]?=some (.cells C T (0,0))) (hv:C[i]?=some v):(Instr.storeAt 2 (PT b i) (VI x)).run Tryz.prog w=.ok () (w.setCell (AD b i) (VI x)):=by
 have c:=ab h i hv;have f:=ap h i;go_simp
theorem oO {plain:Bool} {pick:Int} {h0:HartM} {O X:Nat->Prop} {PI:World->Prop} {PA:World->RunM->Prop} {m:MP} (hp:PathOk m plain pick h0 X PI PA) {ov:Value} {R1:RunM} {h':HartM} {w v4 v4' v5:World} {mem:List Int} {ol:List (Nat × Int)} (k:MW v4 O X m ov R1.h ol) (hA:PA v4 R1) (hk:Kp O w v4) (hc:R1.cause=0) (hd:Bw v4 v4') (g5:v4'.grownBy v5 (some m.b))
 (hb:v5.heap[m.b]?=some (.cells (cJ h' m.gm ov m.gi m.gd m.gp m.pv) 90 (0,0))) (hm:h'.mem=R1.h.mem) (hr:h'.regs=R1.h.regs) (hkk:h'.k=R1.h.k):rd w O X m PA mem (bA R1 h') (.returned (.tuple #[])) v5:=by
 refine .inl ⟨hc,rfl,O,ov,ol,(k.low hd).put g5 hb hm (by show h'.regs.length=8;rw [hr];exact k.regs),?_,fun _ _ h=>h,?_⟩
 ·exact (hk.trans (Kp.of_below O hd)).trans (Kp.of_gb g5 k.ob)
 ·have h1:=hp.keep hA (fun i hi=>(k.xo i hi).2) (Kp.of_below (fun _=>False) hd) (fun _ _ h=>h);have h2:=hp.box h1 (fun i hi=>ltl (k.xo i hi).2 hd.size) g5 k.xb;exact hp.congr _ _ _ h2 hkk rfl rfl rfl
theorem Al (k:Nat) (x p:Int) (hp:p=2^k) (hk:p<18446744073709551616) (h0:0<=x) (h1:x<=18446744073709551615):(bits .and .u64 x p != 0)=bJ x p:=dI k x p hp hk h0 h1
theorem ki {O X:Nat->Prop} {PA:World->RunM->Prop} {m:MP} {ov:Value} {T:RunM} {h:HartM} {w v:World} {mem:List Int} (k:MW v O X m ov h []) (hk:h.k=T.h.k) (hm:h.mem=mem) (hkp:Kp O w v) (hA:PA v T) (hc:T.cause≠0):rd w O X m PA mem T (.panicked [lz T.cause T.tval]) v:=
 .inr ⟨hc,rfl,O,ov,h,[],k,hk,hm,hkp,fun _ _ h=>h,hA⟩
theorem uW (plain:Bool) (pick kind:Int):∀(ps:List bw) (r:RunM),(ag plain pick kind r ps).1.h.mem=r.h.mem
 | [],r=>rfl
 | p::ps,r=>by
  rw [ag];split
  ·exact uW plain pick kind ps (bf plain pick r kind p.1)
  ·rfl
theorem oQ (plain:Bool) (pick kind:Int):∀(ps:List bw) (r:RunM),bR (ag plain pick kind r ps).2=bR ps∧(ag plain pick kind r ps).2.length=ps.length
 | [],r=>⟨rfl,rfl⟩
 | p::ps,r=>by
  have ih:=oQ plain pick kind ps (bf plain pick r kind p.1);rw [ag];split
  ·simp [bR,ih.1,ih.2]
  ·exact ⟨rfl,rfl⟩
theorem pR (va wd:Int) (h:1<=wd∧wd<=8):bR (cD va wd)=wd.toNat∧(cD va wd).length<=2:=by
 unfold cD;split
 ·refine ⟨?_,by simp⟩;simp only [bR];omega
 ·exact ⟨by simp [bR],by simp⟩
theorem Dm (cn:Nat):1<=iO ((cn:Int)%4)∧iO ((cn:Int)%4)<=8:=by
 unfold iO;rcases (show (cn:Int)%4=0∨(cn:Int)%4=1∨(cn:Int)%4=2∨(cn:Int)%4=3 by omega) with h | h | h | h <;> rw [h] <;> decide
theorem uX {plain:Bool} {pick kind ea wd:Int} {r:RunM} (h:(ag plain pick kind r (cD ea wd)).1.cause≠0):aw plain pick r kind ea wd=ag plain pick kind r (cD ea wd):=by
 unfold aw;rw [if_neg h]
theorem uY {plain:Bool} {pick kind ea wd v:Int} {r:RunM} (h:(ag plain pick kind r (cD ea wd)).1.cause=0) (ho:fL (ag plain pick kind r (cD ea wd)).1.h.mem (ag plain pick kind r (cD ea wd)).2=some v):aw plain pick r kind ea wd=(bI (ag plain pick kind r (cD ea wd)).1 (bO kind) v,(ag plain pick kind r (cD ea wd)).2):=by
 unfold aw;rw [if_pos h,ho]
theorem uZ {plain:Bool} {pick kind ea wd:Int} {r:RunM} (h:(ag plain pick kind r (cD ea wd)).1.cause=0) (ho:fL (ag plain pick kind r (cD ea wd)).1.h.mem (ag plain pick kind r (cD ea wd)).2=none):aw plain pick r kind ea wd=ag plain pick kind r (cD ea wd):=by
 unfold aw;rw [if_pos h,ho]
theorem Bp {plain:Bool} {pick:Int} {h0:HartM} {O X:Nat->Prop} {PI:World->Prop} {PA:World->RunM->Prop} {m:MP} (hp:PathOk m plain pick h0 X PI PA) (hpk:0<=pick∧pick<=255) {ov:Value} (r:RunM) (x:Int) (w:World)
 (k:MW w O X m ov r.h []) (hA:PA w r) (hr:ROk r) (hc:SameC 1 r h0) (h0c:r.cause=0) (hx0:0<=x) (hx1:x<4294967296):
 Calls Tryz.prog 60 #[PT m.b 0,.agg (tK x)] w fun e w'=>rd w O X m PA r.h.mem (gE plain pick r x) e w':=by
 have HK:Hid _:=k;have HA:Hid _:=hA;have HP:Hid _:=hp;have HR:Hid _:=hr;have HC:Hid _:=hc;have H0:Hid _:=h0c;have hb:=k.lt;have hmo:=hr.h.v.mode;have hpcb:=hr.h.pc;clear hA hp hr hc h0c;obtain ⟨op,hop⟩:∃op,x%256=op:=⟨_,rfl⟩;obtain ⟨an,han⟩:∃an:Nat,x/256%256%8=an:=⟨(x/256%256%8).toNat,by omega⟩;obtain ⟨bn,hbn⟩:∃bn:Nat,x/256%256/8%8=bn:=⟨(x/256%256/8%8).toNat,by omega⟩;obtain ⟨cn,hcn⟩:∃cn:Nat,x/65536%256%8=cn:=⟨(x/65536%256%8).toNat,by omega⟩;obtain ⟨s,hs⟩:∃s,x/16777216=s:=⟨_,rfl⟩;obtain ⟨im,him⟩:∃im,hZ s%18446744073709551616=im:=⟨_,rfl⟩;have hop0:0<=op∧op<=255:=by omega
 have ha8:(an:Int)<8:=by omega
 have hb8:(bn:Int)<8:=by omega
 have hc8:(cn:Int)<8:=by omega
 have hs8:0<=s∧s<=255:=by omega
 have him1:0<=im∧im<=18446744073709551615:=by omega
 have HIm:Hid _:=him;have hD:gE plain pick r x=doM plain pick (bA r (dL r.h ((r.h.pc+4)%18446744073709551616))) r.h.pc op an bn cn s x:=by
  unfold gE eT;rw [hop,han,hbn,hcn,hs]
 obtain ⟨D,hDe⟩:∃D,gE plain pick r x=D:=⟨_,rfl⟩;have HD:Hid (D=doM plain pick (bA r (dL r.h ((r.h.pc+4)%18446744073709551616))) r.h.pc op an bn cn s x):=hDe.symm.trans hD;rw [hDe];unfold tK;rw [hop,han,hbn,hcn,hs,him];clear hop han hbn hcn hs him hD hDe;have F:=bF w #[VU x,VU op,VU an,VU bn,VU cn,VU im] 149;have c8:=ab k.blk 8 (v:=VU r.h.pc) rfl;have c9:=ab k.blk 9 (v:=VI r.h.mode) rfl;have ca:=ab k.blk an (rY _ _ _ _ _ _ _ an (by omega));have cb:=ab k.blk bn (rY _ _ _ _ _ _ _ bn (by omega));have cc:=ab k.blk cn (rY _ _ _ _ _ _ _ cn (by omega));clear k;obtain ⟨pc,hpe⟩:∃pc,r.h.pc=pc:=⟨_,rfl⟩;obtain ⟨mode,hme⟩:∃mode,r.h.mode=mode:=⟨_,rfl⟩;obtain ⟨xa,hxa⟩:∃xa,r.h.regs[an]?.getD 0=xa:=⟨_,rfl⟩;obtain ⟨xb,hxb⟩:∃xb,r.h.regs[bn]?.getD 0=xb:=⟨_,rfl⟩;obtain ⟨xc,hxc⟩:∃xc,r.h.regs[cn]?.getD 0=xc:=⟨_,rfl⟩;have hxab:inU xa:=by rw [<-hxa];exact HR.out.h.regs an
 have hxbb:inU xb:=by rw [<-hxb];exact HR.out.h.regs bn
 have hxcb:inU xc:=by rw [<-hxc];exact HR.out.h.regs cn
 rw [hpe] at c8 hpcb HD;rw [hme] at c9 hmo;rw [hxa] at ca;rw [hxb] at cb;rw [hxc] at cc;have HPc:Hid _:=hpe;have HMe:Hid _:=hme;have HXa:Hid _:=hxa;have HXb:Hid _:=hxb;have HXc:Hid _:=hxc;clear hpe hme hxa hxb hxc;obtain ⟨b,hbm⟩:∃b,m.b=b:=⟨_,rfl⟩;have HBm:Hid _:=hbm;rw [hbm] at hb c8 c9 ca cb cc |-;clear hbm;go_enter Tryz.func60,Tryz.ntmps60;go_upto_region 1 with fail;generalize w.alloc (Obj.cells #[VU x,VU op,VU an,VU bn,VU cn,VU im] 149)=v1 at F |-;obtain ⟨f1,f2,n1⟩:=F;have HF1:Hid _:=f1;have HN1:Hid _:=n1;have hb1:b<v1.heap.size:=by omega
 have hw1:w.heap.size<v1.heap.size:=by omega
 have C9:=aM (Below.cell2 n1 c9 hb) hb1;have I0:=aM (ab f1 0 (v:=VU x) rfl) hw1;have I1:=aM (ab f1 1 (v:=VU op) rfl) hw1;have I2:=aM (ab f1 2 (v:=VU an) rfl) hw1;have I3:=aM (ab f1 3 (v:=VU bn) rfl) hw1;have I4:=aM (ab f1 4 (v:=VU cn) rfl) hw1;have I5:=aM (ab f1 5 (v:=VU im) rfl) hw1;obtain ⟨lg,hlg⟩:∃lg,gQ op cn mode=lg:=⟨_,rfl⟩;have HLg:Hid _:=hlg;have HLe:Hid (∀u:Lies v1,Calls Tryz.prog 81 #[.agg #[VU x,VU op,VU an,VU bn,VU cn,VU im],VI mode] u.w fun e w'=>e=.returned (.bool lg)∧Below u.w.heap.size u.w w'):=fun u=>by
  have:=Fs x an bn im op cn mode u.w hop0.1 (by omega) (by omega);rw [HLg.out] at this;exact this
 have ne:=eF v1;clear f1 f2 n1 hlg;refine cN (by kernel_rfl) (by kernel_rfl) ?_;repeat (go_big_quiet_step ((go_at_call 81;exact fX _ (HLe.out _))))
 refine wpQuiet_nil ?_;rintro _ ⟨u,rfl⟩;have n2:=u.h;generalize u.w=v2 at n2 |-;have HF2:=ah HF1 n2;have HN2:Hid (Bw w v2):=bst HN1.out n2;clear C9 I0 I1 I2 I3 I4 I5 ne HLe n2 HF1 HN1;have K2:Hid (MW v2 O X m ov r.h []):=HK.out.low HN2.out;have A2:Hid (PA v2 r):=HP.out.keep HA.out (fun i hi=>(HK.out.xo i hi).2) (Kp.of_below (fun _=>False) HN2.out) (fun _ _ h=>h);have hb2:b<v2.heap.size:=ltl hb HN2.out.size;have hw2:w.heap.size<v2.heap.size:=(hpl HF2.out);cases lg
 ·have j0:=ab HF2.out 0 (v:=VU x) rfl;go_wp2_with fail;have hDt:D=bI (bA r (dL r.h ((pc+4)%18446744073709551616))) 2 x:=by
   rw [HD.out];exact zp _ _ _ _ _ _ _ _ _ _ (by show gQ op cn r.h.mode=false;rw [HMe.out];exact HLg.out) hop0.1
  rw [hDt];exact ⟨rfl,.inr ⟨by simp [bI],rfl,O,ov,r.h,[],K2.out,rfl,rfl,Kp.of_below O HN2.out,fun _ _ h=>h,HP.out.congr _ _ _ A2.out rfl rfl rfl rfl⟩⟩
 go_upto_region 3 with fail;replace c8:=Below.cell2 HN2.out c8 hb;replace ca:=Below.cell2 HN2.out ca hb;replace cb:=Below.cell2 HN2.out cb hb;replace cc:=Below.cell2 HN2.out cc hb;have C8:=aM c8 hb2;have Ca:=aM ca hb2;have Cb:=aM cb hb2;have Cc:=aM cc hb2;have I2:=aM (ab HF2.out 2 (v:=VU an) rfl) hw2;have I3:=aM (ab HF2.out 3 (v:=VU bn) rfl) hw2;have I4:=aM (ab HF2.out 4 (v:=VU cn) rfl) hw2;have ne:=eF v2;refine cN (by kernel_rfl) (by kernel_rfl) ?_;repeat (go_big_quiet_step (fail))
 refine wpQuiet_nil ?_;rintro _ ⟨u,rfl⟩;have n3:=u.h;generalize u.w=v3 at n3 |-;have HF3:=ah HF2 n3;have HN3:Hid (Bw w v3):=bst HN2.out n3;clear C8 Ca Cb Cc I2 I3 I4 ne n3 HF2 HN2 K2 A2 ca cb cc c8 c9;obtain ⟨hpc0,hpc1⟩:=hpcb;obtain ⟨pc4,hpc4⟩:∃pc4,(pc+4)%18446744073709551616=pc4:=⟨_,rfl⟩;have hw4:IntKind.u64.wrap (pc+4)=pc4:=(IntKind.wrap_u64 _).trans hpc4;have hp4:inU pc4:=by rw [<-hpc4];unfold inU;omega
 have HKo:Hid (∀i,O i->i<w.heap.size):=HK.out.obd;have HRk:Hid (ROk (bA r (dL r.h pc4))):=by
  have:=pJ HR.out;rw [HPc.out,hpc4] at this;exact this
 rw [hpc4] at HD;clear hpc4;have K3:MW v3 O X m ov r.h []:=HK.out.low HN3.out;have A3:PA v3 r:=HP.out.keep HA.out (fun i hi=>(HK.out.xo i hi).2) (Kp.of_below (fun _=>False) HN3.out) (fun _ _ h=>h);have g4:=au (ao v3 (some m.b)) 8 (VU pc4);have K4:Hid (MW (v3.setCell (AD m.b 8) (VU pc4)) O X m ov (dL r.h pc4) []):=K3.put g4 (bq K3.blk) rfl K3.regs;have A4:Hid (PA (v3.setCell (AD m.b 8) (VU pc4)) (bA r (dL r.h pc4))):=HP.out.congr _ _ _ (HP.out.box A3 (fun i hi=>(K3.xo i hi).2) g4 K3.xb) rfl rfl rfl rfl;have N4:Hid (Kp O w (v3.setCell (AD m.b 8) (VU pc4))):=(Kp.of_below O HN3.out).trans (Kp.of_gb g4 K3.ob);have HF4:Hid _:=aA HF3.out g4 (show w.heap.size≠m.b by rw [HBm.out];omega);have c8:v3.cell? (AD b 8)=some (VU pc):=by rw [<-HBm.out,<-HPc.out];exact ab K3.blk 8 rfl
 have f8:v3.frozen? (AD b 8)=false:=by rw [<-HBm.out];exact ap K3.blk 8
 have i1:=ab HF3.out 1 (v:=VU op) rfl;have nbw:w.heap.size≠b:=by omega
 have nbw':b≠w.heap.size:=by omega
 rw [HBm.out] at K4 A4 N4 HF4;clear K3 A3 g4;go_upto_region 6 with fail;generalize v3.setCell (AD b 8) (VU pc4)=v4 at K4 A4 N4 HF4 |-;clear c8 f8 i1 HF3 HN3;obtain ⟨R1,hR1⟩:∃R1,bA r (dL r.h pc4)=R1:=⟨_,rfl⟩;have HMm:Hid (R1.h.mem=r.h.mem):=by show _=_;rw [<-hR1];rfl
 have HC1:Hid (SameC 1 R1 h0):=by show SameC _ _ _;rw [<-hR1];exact ⟨HC.out.mem,HC.out.mode,HC.out.sum,HC.out.mxr,HC.out.satp,HC.out.nf,HC.out.few⟩
 have H01:Hid (R1.cause=0):=by show _=_;rw [<-hR1];exact H0.out
 have HRa:Hid (fO R1.h an=xa):=by show _=_;rw [<-hR1];exact HXa.out
 have HRb:Hid (fO R1.h bn=xb):=by show _=_;rw [<-hR1];exact HXb.out
 have HRc:Hid (fO R1.h cn=xc):=by show _=_;rw [<-hR1];exact HXc.out
 have HR1m:Hid (R1.h.mode=mode):=by show _=_;rw [<-hR1];exact HMe.out
 replace K4:Hid (MW v4 O X m ov R1.h []):=by show MW _ _ _ _ _ _ _;rw [<-hR1];exact K4.out
 rw [hR1] at A4 HD HRk;clear hR1 HK HA HC H0 HXa HXb HXc HR HMe HPc;have HI64:Hid (im%64=s%64):=by
  have:=HIm.out;unfold hZ at this;show _=_;split at this <;> omega
 have hlo:(1<=op∧op<=14)∧bH op cn mode=false:=by
  have:=HLg.out;unfold gQ at this;simpa using this
 have HIl:Hid (bH op cn R1.h.mode=false):=by show _=_;rw [HR1m.out];exact hlo.2
 obtain ⟨⟨hl1,hl2⟩,_⟩:=hlo;obtain ⟨hxa0,hxa1⟩:=hxab;obtain ⟨hxb0,hxb1⟩:=hxbb;obtain ⟨hxc0,hxc1⟩:=hxcb;clear HLg hb1 hw1 hb2 hw2;rcases (show op=1∨op=2∨op=3∨op=4∨op=5∨op=6∨op=7∨op=8∨op=9∨op=10∨op=11∨op=12∨op=13∨op=14 by omega) with rfl | rfl | rfl | rfl | rfl | rfl | rfl | rfl | rfl | rfl | rfl | rfl | rfl | rfl
 ·as_aux_lemma=>
   go_upto_region 7 with fail;have i2:=ab HF4.out 2 (v:=VU an) rfl;have i5:=ab HF4.out 5 (v:=VU im) rfl;refine dl 8 (by kernel_rfl) (by kernel_rfl) ?_;simp only [List.take_succ_cons,List.take_zero,List.drop_succ_cons,List.drop_zero];repeat still_step
   refine wpStill_nil ?_;have Dd:=bdr v4;clear i2 i5;go_wp2_with fail;rw [<-HBm.out];refine (ku an _ v4.drew (K4.out.low Dd) (by omega)).mono ?_;rintro e v5 ⟨rfl,k5,g5⟩;have K5:Hid _:=k5;have G5:Hid _:=g5;clear k5 g5;go_wp2;go_end0;have hDs:D=bW R1 an im:=by
    rw [HD.out];unfold doM;rw [if_neg (by rw [HIl.out];simp)];rw [if_pos rfl,HIm.out]
   rw [hDs];exact mA HP.out K4.out A4.out N4.out (fun _ _ h=>h) H01.out Dd (by rfl) K5.out G5.out
 ·as_aux_lemma=>
   go_upto_region 9 with fail;have i2:=ab HF4.out 2 (v:=VU an) rfl;have i5:=ab HF4.out 5 (v:=VU im) rfl;refine dl 9 (by kernel_rfl) (by kernel_rfl) ?_;simp only [List.take_succ_cons,List.take_zero,List.drop_succ_cons,List.drop_zero];repeat still_step
   refine wpStill_nil ?_;have Dd:=bdr v4;clear i2 i5;go_wp2_with fail;rw [<-HBm.out];refine (ku an _ v4.drew (K4.out.low Dd) (by omega)).mono ?_;rintro e v5 ⟨rfl,k5,g5⟩;have K5:Hid _:=k5;have G5:Hid _:=g5;clear k5 g5;go_wp2;go_end0;have hDs:D=bW R1 an ((xb+xc)%18446744073709551616):=by
    rw [HD.out];unfold doM;rw [if_neg (by rw [HIl.out];simp)];rw [if_neg (by omega),if_pos rfl,HRb.out,HRc.out]
   rw [hDs];exact mA HP.out K4.out A4.out N4.out (fun _ _ h=>h) H01.out Dd (by exact IntKind.wrap_u64 _) K5.out G5.out
 ·as_aux_lemma=>
   go_upto_region 11 with fail;have i2:=ab HF4.out 2 (v:=VU an) rfl;have i5:=ab HF4.out 5 (v:=VU im) rfl;refine dl 10 (by kernel_rfl) (by kernel_rfl) ?_;simp only [List.take_succ_cons,List.take_zero,List.drop_succ_cons,List.drop_zero];repeat still_step
   refine wpStill_nil ?_;have Dd:=bdr v4;clear i2 i5;go_wp2_with fail;rw [<-HBm.out];refine (ku an _ v4.drew (K4.out.low Dd) (by omega)).mono ?_;rintro e v5 ⟨rfl,k5,g5⟩;have K5:Hid _:=k5;have G5:Hid _:=g5;clear k5 g5;go_wp2;go_end0;have hDs:D=bW R1 an ((xb+hZ s)%18446744073709551616):=by
    rw [HD.out];unfold doM;rw [if_neg (by rw [HIl.out];simp)];rw [if_neg (by omega),if_neg (by omega),if_pos rfl];unfold eaM;rw [HRb.out]
   rw [hDs];exact mA HP.out K4.out A4.out N4.out (fun _ _ h=>h) H01.out Dd (by rw [IntKind.wrap_u64,<-HIm.out];omega) K5.out G5.out
 ·as_aux_lemma=>
   go_upto_region 13 with fail;have hsh:=EZ xb (im%64) (by omega) (by omega);have i2:=ab HF4.out 2 (v:=VU an) rfl;have i5:=ab HF4.out 5 (v:=VU im) rfl;have hwl:w.heap.size<v4.heap.size:=(hpl HF4.out);have I2:=aM i2 hwl;have I5:=aM i5 hwl;have ne:=eF v4;refine lA 11 (by kernel_rfl) (by kernel_rfl) ?_;simp only [List.take_succ_cons,List.take_zero,List.drop_succ_cons,List.drop_zero];repeat (go_big_quiet_step (fail))
   refine wpQuiet_nil ?_;rintro _ ⟨u,rfl⟩;have Dd:=u.h;generalize u.w=v4' at Dd |-;clear i2 i5 I2 I5 ne;go_wp2_with fail;rw [<-HBm.out];refine (ku an _ v4' (K4.out.low Dd) (by omega)).mono ?_;rintro e v5 ⟨rfl,k5,g5⟩;have K5:Hid _:=k5;have G5:Hid _:=g5;clear k5 g5;go_wp2;go_end0;have hDs:D=bW R1 an (xb*iO (s%64)%18446744073709551616):=by
    rw [HD.out];unfold doM;rw [if_neg (by rw [HIl.out];simp)];rw [if_neg (by omega),if_neg (by omega),if_neg (by omega),if_pos rfl,HRb.out]
   rw [hDs];exact mA HP.out K4.out A4.out N4.out (fun _ _ h=>h) H01.out Dd (by unfold iO;rw [<-HI64.out];first | rfl | exact IntKind.wrap_u64 _ | (rw [IntKind.wrap_u64];try omega)) K5.out G5.out
 ·as_aux_lemma=>
   have hea:IntKind.u64.wrap (xb+im)=eaM R1.h bn s:=by
    unfold eaM;rw [HRb.out,IntKind.wrap_u64,<-HIm.out];omega
   have heb:inU (eaM R1.h bn s):=fe _;have HEa:Hid (eaM R1.h bn s=eaM R1.h bn s):=rfl;obtain ⟨ea,hee⟩:∃ea,eaM R1.h bn s=ea:=⟨_,rfl⟩;have HEe:Hid _:=hee;rw [hee] at hea heb;clear hee HEa;obtain ⟨wd,hwd⟩:∃wd,iO ((cn:Int)%4)=wd:=⟨_,rfl⟩;have HWd:Hid _:=hwd;have hw18:1<=wd∧wd<=8:=by rw [<-hwd];exact Dm cn
   clear hwd;have hnO:¬O w.heap.size:=fun h=>by have:=HKo.out _ h;omega
   go_upto_region 15 with fail;have J0:∀u:Has w.heap.size (.cells #[VU x,VU 5,VU an,VU bn,VU cn,VU im] 149 (0,0)),u.w.cell? (AD w.heap.size 0)=some (VU x):=fun u=>ab u.h 0 rfl;have J1:∀u:Has w.heap.size (.cells #[VU x,VU 5,VU an,VU bn,VU cn,VU im] 149 (0,0)),u.w.cell? (AD w.heap.size 1)=some (VU 5):=fun u=>ab u.h 1 rfl;have J2:∀u:Has w.heap.size (.cells #[VU x,VU 5,VU an,VU bn,VU cn,VU im] 149 (0,0)),u.w.cell? (AD w.heap.size 2)=some (VU an):=fun u=>ab u.h 2 rfl;have J3:∀u:Has w.heap.size (.cells #[VU x,VU 5,VU an,VU bn,VU cn,VU im] 149 (0,0)),u.w.cell? (AD w.heap.size 3)=some (VU bn):=fun u=>ab u.h 3 rfl;have J4:∀u:Has w.heap.size (.cells #[VU x,VU 5,VU an,VU bn,VU cn,VU im] 149 (0,0)),u.w.cell? (AD w.heap.size 4)=some (VU cn):=fun u=>ab u.h 4 rfl;have J5:∀u:Has w.heap.size (.cells #[VU x,VU 5,VU an,VU bn,VU cn,VU im] 149 (0,0)),u.w.cell? (AD w.heap.size 5)=some (VU im):=fun u=>ab u.h 5 rfl;have ne:Nonempty (Has w.heap.size (.cells #[VU x,VU 5,VU an,VU bn,VU cn,VU im] 149 (0,0))):=⟨⟨v4,HF4.out⟩⟩;refine ax (fun w'=>∃u:Has w.heap.size (.cells #[VU x,VU 5,VU an,VU bn,VU cn,VU im] 149 (0,0)),w'=u.w) 16 ?_;refine eO (fuel:=4) ⟨⟨v4.drew,HF4.out⟩,rfl⟩ [0,1,2,3,4,5,6,7,8,9,10,11,12] ?_;simp only [gh,List.getElem?_toArray,List.getElem?_cons_zero,List.getElem?_cons_succ];repeat (go_big_quiet_step (fail))
   refine wpQuiet_nil ?_;have Dd:=bdr v4;refine ep 13 124 rfl ((Ax x 5 an bn cn im v4.drew (by omega)).mono ?_);rintro e v5 ⟨rfl,n5'⟩;rw [HWd.out];have n5:=bst Dd n5';have HF5:=ah HF4 n5;have K5:Hid (MW v5 O X m ov R1.h []):=K4.out.low n5;have A5:Hid (PA v5 R1):=HP.out.keep A4.out (fun i hi=>(K4.out.xo i hi).2) (Kp.of_below (fun _=>False) n5) (fun _ _ h=>h);have N5:Hid (Kp O w v5):=N4.out.trans (Kp.of_below O n5);refine .inl ⟨_,rfl,fun _=>⟨⟨v5,HF5.out⟩,rfl⟩,?_⟩
   go_frame
   refine ep 14 125 rfl (f:=84) (args:=#[PT b 0,VI 1,VU ea,VU wd]) ?_;rw [<-HBm.out];refine (rf HP.out hpk R1 1 ea wd v5 K5.out A5.out HRk.out HC1.out H01.out (by omega) (by omega) heb hw18).mono ?_;rw [HBm.out];rintro e v6 ⟨he,k6,a6,n6⟩;have htr:=fE plain hpk (kind:=1) ⟨by omega,by omega⟩ (cD ea wd) R1 HRk.out (rN ea wd heb hw18);have htm:=uW plain pick 1 (cD ea wd) R1;have hts:=oQ plain pick 1 (cD ea wd) R1;have hcs:=pR ea wd hw18;rw [hcs.1] at hts;have HPt:Hid (∀h:(ag plain pick 1 R1 (cD ea wd)).1.cause≠0,aw plain pick R1 1 ea wd=ag plain pick 1 R1 (cD ea wd)):=fun h=>uX h;have HPo:Hid (∀v,(ag plain pick 1 R1 (cD ea wd)).1.cause=0->fL (ag plain pick 1 R1 (cD ea wd)).1.h.mem (ag plain pick 1 R1 (cD ea wd)).2=some v->aw plain pick R1 1 ea wd=(bI (ag plain pick 1 R1 (cD ea wd)).1 (bO 1) v,(ag plain pick 1 R1 (cD ea wd)).2)):=fun v h h'=>uY h h';have HPn:Hid ((ag plain pick 1 R1 (cD ea wd)).1.cause=0->fL (ag plain pick 1 R1 (cD ea wd)).1.h.mem (ag plain pick 1 R1 (cD ea wd)).2=none->aw plain pick R1 1 ea wd=ag plain pick 1 R1 (cD ea wd)):=fun h h'=>uZ h h';have hlen:=hcs.2;rw [<-hts.2] at hlen;generalize ag plain pick 1 R1 (cD ea wd)=T at he k6 a6 htr htm hts hlen HPt HPo HPn;obtain ⟨T1,ps⟩:=T;simp only at he k6 a6 htr htm hts hlen HPt HPo HPn;have HTr:Hid _:=htr;have HTm:Hid (T1.h.mem=r.h.mem):=htm.trans HMm.out;have HSz:Hid (bR ps=wd.toNat):=hts.1;have K6:Hid _:=k6;have A6:Hid _:=a6;have N6:Hid (Kp O w v6):=N5.out.trans (n6.mono fun i hi=>(K5.out.xo i hi).1);have HFx:Hid _:=Kp.hid HF5 n6 (fun h=>by have:=(K5.out.xo _ h).1;exact hnO this);clear htr htm hts hcs k6 a6 n6;by_cases hz:T1.cause=0
   rotate_left
   ·obtain ⟨hcc,_⟩ | ⟨_,rfl⟩:=he
    ·exact absurd hcc hz
    refine .inr ⟨_,rfl,rfl,?_⟩;have hDs:D=T1:=by
     rw [HD.out];unfold doM;rw [if_neg (by rw [HIl.out];simp)];rw [if_neg (by omega),if_neg (by omega),if_neg (by omega),if_neg (by omega),if_pos rfl];unfold ia;rw [HEe.out,HWd.out];rw [if_neg (by rw [HPt.out hz];exact hz),HPt.out hz]
    rw [hDs];exact ki K6.out rfl HTm.out N6.out A6.out hz
   obtain ⟨_,g,rfl,hgl,hg⟩ | ⟨hcc,_⟩:=he
   rotate_left
   ·exact absurd hz hcc
   have HZ:Hid _:=hz;have HG:Hid _:=hg;have hgO:¬O g:=fun h=>by have:=K5.out.obd _ h;omega
   clear hz hg;refine .inl ⟨_,rfl,fun _=>⟨⟨v6,HFx.out⟩,rfl⟩,?_⟩
   go_frame
   refine ep 15 126 rfl (f:=83) (args:=#[PT b 0,SL g ps.length ps.length]) ?_;rw [<-HBm.out];refine (zu 1 ps g ps.length v6 K6.out rfl HG.out HTr.out.2 (by rw [HSz.out];omega) hlen).mono ?_;rw [HBm.out];rintro e v7 ⟨he,n7⟩;have K7:Hid _:=K6.out.low n7;have A7:Hid (PA v7 T1):=HP.out.keep A6.out (fun i hi=>(K6.out.xo i hi).2) (Kp.of_below (fun _=>False) n7) (fun _ _ h=>h);have N7:Hid (Kp O w v7):=N6.out.trans (Kp.of_below O n7);have HF7:=ah HFx n7;have hDs:D=ia plain pick R1 ea wd an:=by
    rw [HD.out];unfold doM;rw [if_neg (by rw [HIl.out];simp)]
    iterate 4 rw [if_neg (by omega)]
    rw [if_pos rfl];rw [HEe.out,HWd.out]
   cases ho:fL T1.h.mem ps with
   | some v=>
    unfold mW at he;rw [ho] at he;simp only at he;subst he;refine .inr ⟨_,rfl,rfl,?_⟩;have hq:=HPo.out v HZ.out ho;have hD2:D=bI T1 (bO 1) v:=by
     rw [hDs];unfold ia;rw [hq,if_neg (by simp [bI,eX])]
    rw [hD2];exact ki K7.out rfl HTm.out N7.out (HP.out.congr _ _ _ A7.out rfl rfl rfl rfl) (eX 1)
   | none=>
    unfold mW at he;rw [ho] at he;simp only at he;subst he;have hq:=HPn.out HZ.out ho;have HD2:Hid (D=bW T1 an (iS T1.h.mem ps)):=by
     show _=_;rw [hDs];unfold ia;rw [hq,if_pos HZ.out]
    clear ho hq hDs;refine .inl ⟨_,rfl,fun _=>⟨⟨v7,HF7.out⟩,rfl⟩,?_⟩
    go_frame
    refine ep 16 127 rfl (f:=82) (args:=#[PT b 0,VU an,VU (iS T1.h.mem ps)]) ?_;rw [<-HBm.out];refine (ku an _ v7 K7.out (by omega)).mono ?_;rw [HBm.out];rintro e v8 ⟨rfl,k8,g8⟩;have K8:Hid _:=k8;have G8:Hid _:=g8;have HF8:Hid _:=aA HF7.out g8 nbw;clear k8 g8;refine .inl ⟨_,rfl,fun _=>⟨⟨v8,HF8.out⟩,rfl⟩,?_⟩
    go_frame
    refine dc ?_;go_wp2;go_end0;rw [HD2.out];exact mA HP.out K7.out A7.out N7.out (fun _ _ h=>h) HZ.out brf rfl K8.out (by rw [HBm.out];exact G8.out)
 ·as_aux_lemma=>
   have hea:IntKind.u64.wrap (xb+im)=eaM R1.h bn s:=by
    unfold eaM;rw [HRb.out,IntKind.wrap_u64,<-HIm.out];omega
   have heb:inU (eaM R1.h bn s):=fe _;have HEa:Hid (eaM R1.h bn s=eaM R1.h bn s):=rfl;obtain ⟨ea,hee⟩:∃ea,eaM R1.h bn s=ea:=⟨_,rfl⟩;have HEe:Hid _:=hee;rw [hee] at hea heb;clear hee HEa;obtain ⟨wd,hwd⟩:∃wd,iO ((cn:Int)%4)=wd:=⟨_,rfl⟩;have HWd:Hid _:=hwd;have hw18:1<=wd∧wd<=8:=by rw [<-hwd];exact Dm cn
   clear hwd;have hnO:¬O w.heap.size:=fun h=>by have:=HKo.out _ h;omega
   go_upto_region 17 with fail;have J0:∀u:Has w.heap.size (.cells #[VU x,VU 6,VU an,VU bn,VU cn,VU im] 149 (0,0)),u.w.cell? (AD w.heap.size 0)=some (VU x):=fun u=>ab u.h 0 rfl;have J1:∀u:Has w.heap.size (.cells #[VU x,VU 6,VU an,VU bn,VU cn,VU im] 149 (0,0)),u.w.cell? (AD w.heap.size 1)=some (VU 6):=fun u=>ab u.h 1 rfl;have J2:∀u:Has w.heap.size (.cells #[VU x,VU 6,VU an,VU bn,VU cn,VU im] 149 (0,0)),u.w.cell? (AD w.heap.size 2)=some (VU an):=fun u=>ab u.h 2 rfl;have J3:∀u:Has w.heap.size (.cells #[VU x,VU 6,VU an,VU bn,VU cn,VU im] 149 (0,0)),u.w.cell? (AD w.heap.size 3)=some (VU bn):=fun u=>ab u.h 3 rfl;have J4:∀u:Has w.heap.size (.cells #[VU x,VU 6,VU an,VU bn,VU cn,VU im] 149 (0,0)),u.w.cell? (AD w.heap.size 4)=some (VU cn):=fun u=>ab u.h 4 rfl;have J5:∀u:Has w.heap.size (.cells #[VU x,VU 6,VU an,VU bn,VU cn,VU im] 149 (0,0)),u.w.cell? (AD w.heap.size 5)=some (VU im):=fun u=>ab u.h 5 rfl;have ne:Nonempty (Has w.heap.size (.cells #[VU x,VU 6,VU an,VU bn,VU cn,VU im] 149 (0,0))):=⟨⟨v4,HF4.out⟩⟩;refine ax (fun w'=>∃u:Has w.heap.size (.cells #[VU x,VU 6,VU an,VU bn,VU cn,VU im] 149 (0,0)),w'=u.w) 10 ?_;refine eO (fuel:=3) ⟨⟨v4.drew,HF4.out⟩,rfl⟩ [0,1,2,3,4,5,6,9] ?_;simp only [gh,List.getElem?_toArray,List.getElem?_cons_zero,List.getElem?_cons_succ];repeat (go_big_quiet_step (fail))
   refine wpQuiet_nil ?_;have Dd:=bdr v4;refine ep 7 137 rfl ((Ax x 6 an bn cn im v4.drew (by omega)).mono ?_);rintro e v5 ⟨rfl,n5'⟩;rw [HWd.out];have n5:=bst Dd n5';have HF5:=ah HF4 n5;have K5:Hid (MW v5 O X m ov R1.h []):=K4.out.low n5;have A5:Hid (PA v5 R1):=HP.out.keep A4.out (fun i hi=>(K4.out.xo i hi).2) (Kp.of_below (fun _=>False) n5) (fun _ _ h=>h);have N5:Hid (Kp O w v5):=N4.out.trans (Kp.of_below O n5);refine .inl ⟨_,rfl,fun _=>⟨⟨v5,HF5.out⟩,rfl⟩,?_⟩
   go_frame
   refine ep 8 138 rfl (f:=84) (args:=#[PT b 0,VI 2,VU ea,VU wd]) ?_;rw [<-HBm.out];refine (rf HP.out hpk R1 2 ea wd v5 K5.out A5.out HRk.out HC1.out H01.out (by omega) (by omega) heb hw18).mono ?_;rw [HBm.out];rintro e v6 ⟨he,k6,a6,n6⟩;have htr:=fE plain hpk (kind:=2) ⟨by omega,by omega⟩ (cD ea wd) R1 HRk.out (rN ea wd heb hw18);have htm:=uW plain pick 2 (cD ea wd) R1;have hts:=oQ plain pick 2 (cD ea wd) R1;have hcs:=pR ea wd hw18;rw [hcs.1] at hts;have HPt:Hid (∀h:(ag plain pick 2 R1 (cD ea wd)).1.cause≠0,aw plain pick R1 2 ea wd=ag plain pick 2 R1 (cD ea wd)):=fun h=>uX h;have HPo:Hid (∀v,(ag plain pick 2 R1 (cD ea wd)).1.cause=0->fL (ag plain pick 2 R1 (cD ea wd)).1.h.mem (ag plain pick 2 R1 (cD ea wd)).2=some v->aw plain pick R1 2 ea wd=(bI (ag plain pick 2 R1 (cD ea wd)).1 (bO 2) v,(ag plain pick 2 R1 (cD ea wd)).2)):=fun v h h'=>uY h h';have HPn:Hid ((ag plain pick 2 R1 (cD ea wd)).1.cause=0->fL (ag plain pick 2 R1 (cD ea wd)).1.h.mem (ag plain pick 2 R1 (cD ea wd)).2=none->aw plain pick R1 2 ea wd=ag plain pick 2 R1 (cD ea wd)):=fun h h'=>uZ h h';have hlen:=hcs.2;rw [<-hts.2] at hlen;generalize ag plain pick 2 R1 (cD ea wd)=T at he k6 a6 htr htm hts hlen HPt HPo HPn;obtain ⟨T1,ps⟩:=T;simp only at he k6 a6 htr htm hts hlen HPt HPo HPn;have HTr:Hid _:=htr;have HTm:Hid (T1.h.mem=r.h.mem):=htm.trans HMm.out;have HSz:Hid (bR ps=wd.toNat):=hts.1;have K6:Hid _:=k6;have A6:Hid _:=a6;have N6:Hid (Kp O w v6):=N5.out.trans (n6.mono fun i hi=>(K5.out.xo i hi).1);have HFx:Hid _:=Kp.hid HF5 n6 (fun h=>by have:=(K5.out.xo _ h).1;exact hnO this);clear htr htm hts hcs k6 a6 n6;by_cases hz:T1.cause=0
   rotate_left
   ·obtain ⟨hcc,_⟩ | ⟨_,rfl⟩:=he
    ·exact absurd hcc hz
    refine .inr ⟨_,rfl,rfl,?_⟩;have hDs:D=T1:=by
     rw [HD.out];unfold doM;rw [if_neg (by rw [HIl.out];simp)]
     iterate 4 rw [if_neg (by omega)]
     rw [if_neg (by omega),if_pos rfl];unfold fx;rw [HEe.out,HWd.out];rw [if_neg (by rw [HPt.out hz];exact hz),HPt.out hz]
    rw [hDs];exact ki K6.out rfl HTm.out N6.out A6.out hz
   obtain ⟨_,g,rfl,hgl,hg⟩ | ⟨hcc,_⟩:=he
   rotate_left
   ·exact absurd hz hcc
   have HZ:Hid _:=hz;have HG:Hid _:=hg;have hgO:¬O g:=fun h=>by have:=K5.out.obd _ h;omega
   clear hz hg;refine .inl ⟨_,rfl,fun _=>⟨⟨v6,HFx.out⟩,rfl⟩,?_⟩
   go_frame
   refine ep 10 140 rfl (f:=86) (args:=#[PT b 0,SL g ps.length ps.length,VU xa]) ?_;rw [<-HBm.out];refine (Aq 2 xa ps g ps.length v6 K6.out rfl HG.out hgO HTr.out.2 (by rw [HSz.out];omega) hlen (by rw [HSz.out];simp;omega) ⟨hxa0,hxa1⟩).mono ?_;rw [HBm.out];rintro e v7 ⟨mem',ol',⟨O7,ov7,k7,kp7,o7,x7⟩,hun,hres⟩;have P7:Hid (PA v7 T1):=HP.out.frame _ _ _ A6.out kp7.size x7;have N7:Hid (Kp O w v7):=N6.out.trans kp7;have O7':Hid (∀i,i<w.heap.size->O7 i->O i):=fun i hi h=>o7 i (ltl hi N6.out.size) h;have HF7:=Kp.hid HFx kp7 hnO;have K7:Hid _:=k7;have hDs:D=fx plain pick R1 ea wd xa:=by
    rw [HD.out];unfold doM;rw [if_neg (by rw [HIl.out];simp)]
    iterate 5 rw [if_neg (by omega)]
    rw [if_pos rfl];rw [HEe.out,HWd.out,HRa.out]
   obtain ⟨ho,rfl,hmm⟩ | ⟨v,ho,rfl⟩:=hres
   rotate_left
   ·refine .inr ⟨_,rfl,rfl,?_⟩;have hq:=HPo.out v HZ.out ho;have hD2:D=bI T1 (bO 2) v:=by
     rw [hDs];unfold fx;rw [hq,if_neg (by simp [bI,eX])]
    rw [hD2];exact .inr ⟨eX 2,rfl,O7,ov7,_,ol',K7.out,rfl,hun.trans HTm.out,N7.out,O7'.out,HP.out.congr _ _ _ P7.out rfl rfl rfl rfl⟩
   have hq:=HPn.out HZ.out ho;have HD2:Hid (D=bA T1 (dV T1.h mem')):=by
    show _=_;rw [hDs];unfold fx cT;rw [hq,if_pos HZ.out,hmm,HSz.out]
   clear ho hq hDs hmm k7 kp7 o7 x7;refine .inl ⟨_,rfl,fun _=>⟨⟨v7,HF7.out⟩,rfl⟩,?_⟩
   go_frame
   refine dc ?_;go_wp2;go_end0;rw [HD2.out];exact .inl ⟨HZ.out,rfl,O7,ov7,ol',K7.out,N7.out,O7'.out,HP.out.congr _ _ _ P7.out rfl rfl rfl rfl⟩
 ·as_aux_lemma=>
   have hea:IntKind.u64.wrap (xb+im)=eaM R1.h bn s:=by
    unfold eaM;rw [HRb.out,IntKind.wrap_u64,<-HIm.out];omega
   have heb:inU (eaM R1.h bn s):=fe _;obtain ⟨ea,hee⟩:∃ea,eaM R1.h bn s=ea:=⟨_,rfl⟩;have HEe:Hid _:=hee;rw [hee] at hea heb;clear hee;have hw18:(1:Int)<=8∧(8:Int)<=8:=⟨by omega,by omega⟩;have hnO:¬O w.heap.size:=fun h=>by have:=HKo.out _ h;omega
   have i5:=ab HF4.out 5 (v:=VU im) rfl;go_wp2_with fail;clear i5;rw [<-HBm.out];refine (rf HP.out hpk R1 2 ea 8 v4 K4.out A4.out HRk.out HC1.out H01.out (by omega) (by omega) heb hw18).mono ?_;rw [HBm.out];rintro e v6 ⟨he,k6,a6,n6⟩;have htr:=fE plain hpk (kind:=2) ⟨by omega,by omega⟩ (cD ea 8) R1 HRk.out (rN ea 8 heb hw18);have htm:=uW plain pick 2 (cD ea 8) R1;have hts:=oQ plain pick 2 (cD ea 8) R1;have hcs:=pR ea 8 hw18;rw [hcs.1] at hts;have HPt:Hid (∀h:(ag plain pick 2 R1 (cD ea 8)).1.cause≠0,aw plain pick R1 2 ea 8=ag plain pick 2 R1 (cD ea 8)):=fun h=>uX h;have HPo:Hid (∀v,(ag plain pick 2 R1 (cD ea 8)).1.cause=0->fL (ag plain pick 2 R1 (cD ea 8)).1.h.mem (ag plain pick 2 R1 (cD ea 8)).2=some v->aw plain pick R1 2 ea 8=(bI (ag plain pick 2 R1 (cD ea 8)).1 (bO 2) v,(ag plain pick 2 R1 (cD ea 8)).2)):=fun v h h'=>uY h h';have HPn:Hid ((ag plain pick 2 R1 (cD ea 8)).1.cause=0->fL (ag plain pick 2 R1 (cD ea 8)).1.h.mem (ag plain pick 2 R1 (cD ea 8)).2=none->aw plain pick R1 2 ea 8=ag plain pick 2 R1 (cD ea 8)):=fun h h'=>uZ h h';have hlen:=hcs.2;rw [<-hts.2] at hlen;generalize ag plain pick 2 R1 (cD ea 8)=T at he k6 a6 htr htm hts hlen HPt HPo HPn;obtain ⟨T1,ps⟩:=T;simp only at he k6 a6 htr htm hts hlen HPt HPo HPn;have HTr:Hid _:=htr;have HTm:Hid (T1.h.mem=r.h.mem):=htm.trans HMm.out;have HSz:Hid (bR ps=(8:Int).toNat):=hts.1;have K6:Hid _:=k6;have A6:Hid _:=a6;have N6:Hid (Kp O w v6):=N4.out.trans (n6.mono fun i hi=>(K4.out.xo i hi).1);have HFx:Hid _:=Kp.hid HF4 n6 (fun h=>by have:=(K4.out.xo _ h).1;exact hnO this);clear htr htm hts hcs k6 a6 n6;by_cases hz:T1.cause=0
   rotate_left
   ·obtain ⟨hcc,_⟩ | ⟨_,rfl⟩:=he
    ·exact absurd hcc hz
    go_wp2_with fail;refine ⟨rfl,?_⟩;have hDs:D=T1:=by
     rw [HD.out];unfold doM;rw [if_neg (by rw [HIl.out];simp)]
     iterate 5 rw [if_neg (by omega)]
     rw [if_neg (by omega),if_pos rfl];unfold lC;rw [HEe.out];rw [if_neg (by rw [HPt.out hz];exact hz),HPt.out hz]
    rw [hDs];exact ki K6.out rfl HTm.out N6.out A6.out hz
   obtain ⟨_,g,rfl,hgl,hg⟩ | ⟨hcc,_⟩:=he
   rotate_left
   ·exact absurd hz hcc
   have HZ:Hid _:=hz;have HG:Hid _:=hg;have hgO:¬O g:=fun h=>by have:=K4.out.obd _ h;omega
   clear hz hg;go_wp2_with fail;rw [<-HBm.out];refine (zu 2 ps g ps.length v6 K6.out rfl HG.out HTr.out.2 (by rw [HSz.out];decide) hlen).mono ?_;rw [HBm.out];rintro e v6' ⟨he,n7⟩;have hDs:D=lC plain pick R1 ea an xc:=by
    rw [HD.out];unfold doM;rw [if_neg (by rw [HIl.out];simp)]
    iterate 6 rw [if_neg (by omega)]
    rw [if_pos rfl];rw [HEe.out,HRc.out]
   replace A6:Hid (PA v6' T1):=HP.out.keep A6.out (fun i hi=>(K6.out.xo i hi).2) (Kp.of_below (fun _=>False) n7) (fun _ _ h=>h);replace K6:Hid (MW v6' O X m ov T1.h []):=K6.out.low n7;replace N6:Hid (Kp O w v6'):=N6.out.trans (Kp.of_below O n7);replace HFx:=ah HFx n7;replace HG:=ah HG n7;cases ho:fL T1.h.mem ps with
   | some v=>
    unfold mW at he;rw [ho] at he;simp only at he;subst he;go_wp2_with fail;refine ⟨rfl,?_⟩;have hq:=HPo.out v HZ.out ho;have hD2:D=bI T1 (bO 2) v:=by
     rw [hDs];unfold lC;rw [hq,if_neg (by simp [bI,eX])]
    rw [hD2];exact ki K6.out rfl HTm.out N6.out (HP.out.congr _ _ _ A6.out rfl rfl rfl rfl) (eX 2)
   | none=>
    unfold mW at he;rw [ho] at he;simp only at he;subst he;have hq:=HPn.out HZ.out ho;obtain ⟨od,hod⟩:∃od,iS T1.h.mem ps=od:=⟨_,rfl⟩;have HOd:Hid _:=hod;rw [hod];obtain ⟨y,hy⟩:∃y,(od+xc)%18446744073709551616=y:=⟨_,rfl⟩;have hyb:inU y:=by rw [<-hy];exact fe _
    have hwy:IntKind.u64.wrap (od+xc)=y:=(IntKind.wrap_u64 _).trans hy;have HD2:Hid (D=bW (cT (T1,ps) (bM y 8)) an od):=by
     show _=_;rw [hDs];unfold lC;rw [hq];simp only [HZ.out,if_true];rw [hod,hy]
    have HOut:Hid _:=ho;clear ho hq hDs hod hy;go_wp2_with fail;rw [<-HBm.out];refine (Aq 2 y ps g ps.length v6' K6.out rfl HG.out hgO HTr.out.2 (by rw [HSz.out];decide) hlen (by rw [HSz.out];decide) hyb).mono ?_;rw [HBm.out];rintro e v7 ⟨mem',ol',⟨O7,ov7,k7,kp7,o7,x7⟩,hun,hres⟩;have P7:Hid (PA v7 T1):=HP.out.frame _ _ _ A6.out kp7.size x7;have N7:Hid (Kp O w v7):=N6.out.trans kp7;have O7':Hid (∀i,i<w.heap.size->O7 i->O i):=fun i hi h=>o7 i (ltl hi N6.out.size) h;have HF7:=Kp.hid HFx kp7 hnO;have K7:Hid _:=k7;obtain ⟨_,rfl,hmm⟩ | ⟨v,ho,rfl⟩:=hres
    rotate_left
    ·rw [HOut.out] at ho;cases ho
    have HMm7:Hid (bA T1 (dV T1.h mem')=cT (T1,ps) (bM y 8)):=by
     show _=_;rw [hmm,HSz.out];rfl
    clear hmm k7 kp7 o7 x7;go_upto_region 22 with fail;have i2:=ab HF7.out 2 (v:=VU an) rfl;refine dl 7 (by kernel_rfl) (by kernel_rfl) ?_;simp only [List.take_succ_cons,List.take_zero,List.drop_succ_cons,List.drop_zero];repeat still_step
    refine wpStill_nil ?_;have Dd:=bdr v7;clear i2;go_wp2_with fail;rw [<-HBm.out];refine (ku an _ v7.drew (K7.out.low Dd) (by omega)).mono ?_;rintro e v8 ⟨rfl,k8,g8⟩;have K8:Hid _:=k8;have G8:Hid _:=g8;clear k8 g8;go_wp2;go_end0;rw [HD2.out,<-HMm7.out];exact mA (R1:=bA T1 (dV T1.h mem')) HP.out K7.out (HP.out.congr _ _ _ P7.out rfl rfl rfl rfl) N7.out O7'.out HZ.out Dd rfl K8.out G8.out
 ·as_aux_lemma=>
   have HBk:Hid (v4.heap[b]?=some (.cells (cJ R1.h m.gm ov m.gi m.gd m.gp m.pv) 90 (0,0))):=by rw [<-HBm.out];exact K4.out.blk
   obtain ⟨tg,htg⟩:∃tg,(pc+4*hZ s)%18446744073709551616=tg:=⟨_,rfl⟩;have hwt:IntKind.u64.wrap (pc+IntKind.u64.wrap (4*im))=tg:=by
    rw [IntKind.wrap_u64,IntKind.wrap_u64,<-htg,<-HIm.out];omega
   have HTg:Hid _:=htg;clear htg;by_cases hab:xa=xb
   ·have hab':decide (xa=xb)=true:=decide_eq_true hab;go_wp2;go_end0;have hDs:D=R1:=by
     rw [HD.out];unfold doM;rw [if_neg (by rw [HIl.out];simp)]
     iterate 7 rw [if_neg (by omega)]
     rw [if_pos rfl];rw [HRa.out,HRb.out,if_pos hab]
    rw [hDs];exact .inl ⟨H01.out,rfl,O,ov,[],K4.out,N4.out,fun _ _ h=>h,A4.out⟩
   ·have hab':decide (xa=xb)=false:=decide_eq_false hab;have hne:(xa == xb)=false:=by simpa using hab
    have c8:=ab HBk.out 8 (v:=VU R1.h.pc) rfl;have f8:=ap HBk.out 8;have i5:=ab HF4.out 5 (v:=VU im) rfl;have HBs:Hid _:=bq (v:=VU tg) (i:=8) HBk.out;go_wp2;go_end0;have hDs:D=bA R1 (dL R1.h tg):=by
     rw [HD.out];unfold doM;rw [if_neg (by rw [HIl.out];simp)]
     iterate 7 rw [if_neg (by omega)]
     rw [if_pos rfl];rw [HRa.out,HRb.out,if_neg hab,HTg.out]
    rw [hDs];exact oO HP.out K4.out A4.out N4.out H01.out brf (by rw [HBm.out];exact au (ao v4 (some b)) 8 (VU tg)) (by rw [HBm.out];exact HBs.out) rfl rfl rfl
 ·as_aux_lemma=>
   have HBk:Hid (v4.heap[b]?=some (.cells (cJ R1.h m.gm ov m.gi m.gd m.gp m.pv) 90 (0,0))):=by rw [<-HBm.out];exact K4.out.blk
   have HKs:Hid (Calls Tryz.prog 74 #[VU xa] v4 fun e w'=>e=.returned (.bool (de xa))∧w'=v4):=gO xa v4 hxa0 hxa1;go_wp2_with fail;refine Calls.mono HKs.out ?_;rintro e u ⟨rfl,hu⟩;rw [hu];clear hu u;cases hsc:de xa
   ·have HSc:Hid _:=hsc;clear hsc;go_wp2;go_end0;have hDs:D=R1:=by
     rw [HD.out];unfold doM;rw [if_neg (by rw [HIl.out];simp)]
     iterate 8 rw [if_neg (by omega)]
     rw [if_pos rfl];rw [HRa.out,HSc.out];simp
    rw [hDs];exact .inl ⟨H01.out,rfl,O,ov,[],K4.out,N4.out,fun _ _ h=>h,A4.out⟩
   ·have HSc:Hid _:=hsc;clear hsc;have c12:=ab HBk.out 12 (v:=VU R1.h.satp) rfl;have f12:=ap HBk.out 12;have HBs:Hid _:=bq (v:=VU xa) (i:=12) HBk.out;go_wp2;go_end0;have hDs:D=bA R1 ⟨R1.h.mem,R1.h.regs,R1.h.pc,R1.h.mode,R1.h.sum,R1.h.mxr,xa,R1.h.tvec,R1.h.epc,R1.h.emode,R1.h.cause,R1.h.tval,R1.h.k⟩:=by
     rw [HD.out];unfold doM;rw [if_neg (by rw [HIl.out];simp)]
     iterate 8 rw [if_neg (by omega)]
     rw [if_pos rfl];rw [HRa.out,if_pos HSc.out]
    rw [hDs];exact oO HP.out K4.out A4.out N4.out H01.out brf (by rw [HBm.out];exact au (ao v4 (some b)) 12 (VU xa)) (by rw [HBm.out];exact HBs.out) rfl rfl rfl
 ·as_aux_lemma=>
   have HBk:Hid (v4.heap[b]?=some (.cells (cJ R1.h m.gm ov m.gi m.gd m.gp m.pv) 90 (0,0))):=by rw [<-HBm.out];exact K4.out.blk
   have hq1:=Al 0 xa 1 rfl (by omega) hxa0 hxa1;have hq2:=Al 1 xa 2 rfl (by omega) hxa0 hxa1;have c10:=ab HBk.out 10 (v:=.bool R1.h.sum) rfl;have f10:=ap HBk.out 10;have c11:=ab HBk.out 11 (v:=.bool R1.h.mxr) rfl;have f11:=ap HBk.out 11;have HBs:Hid _:=bq (v:=.bool (bJ xa 2)) (i:=11) (bq (v:=.bool (bJ xa 1)) (i:=10) HBk.out);have HGs:Hid _:=au (au (ao v4 (some b)) 10 (.bool (bJ xa 1))) 11 (.bool (bJ xa 2));obtain ⟨s1,hs1⟩:∃s1,bJ xa 1=s1:=⟨_,rfl⟩;obtain ⟨s2,hs2⟩:∃s2,bJ xa 2=s2:=⟨_,rfl⟩;rw [hs1] at hq1 HBs HGs;rw [hs2] at hq2 HBs HGs;have HS1:Hid _:=hs1;have HS2:Hid _:=hs2;clear hs1 hs2;go_wp2;go_end0;have hDs:D=bA R1 ⟨R1.h.mem,R1.h.regs,R1.h.pc,R1.h.mode,s1,s2,R1.h.satp,R1.h.tvec,R1.h.epc,R1.h.emode,R1.h.cause,R1.h.tval,R1.h.k⟩:=by
    rw [HD.out];unfold doM;rw [if_neg (by rw [HIl.out];simp)]
    iterate 9 rw [if_neg (by omega)]
    rw [if_pos rfl];rw [HRa.out,HS1.out,HS2.out]
   rw [hDs];exact oO HP.out K4.out A4.out N4.out H01.out brf (by rw [HBm.out];exact HGs.out) (by rw [HBm.out];exact HBs.out) rfl rfl rfl
 ·as_aux_lemma=>
   have HBk:Hid (v4.heap[b]?=some (.cells (cJ R1.h m.gm ov m.gi m.gd m.gp m.pv) 90 (0,0))):=by rw [<-HBm.out];exact K4.out.blk
   have HBd:Hid (v4.drew.heap[b]?=some (.cells (cJ R1.h m.gm ov m.gi m.gd m.gp m.pv) 90 (0,0))):=HBk;have Dd:=bdr v4;have HFd:Hid (v4.drew.heap[w.heap.size]?=some (.cells #[VU x,VU 11,VU an,VU bn,VU cn,VU im] 149 (0,0))):=HF4;have hnO:¬O w.heap.size:=fun h=>by have:=HKo.out _ h;omega
   obtain ⟨f,hf⟩:∃f,jQ R1.h an bn=f:=⟨_,rfl⟩;have hfa:f.hasVa=decide ((an:Int)≠0):=by rw [<-hf];rfl
   have hfb:f.va=xa:=by rw [<-hf,<-HRa.out];rfl
   have hfc:f.hasAsid=decide ((bn:Int)≠0):=by rw [<-hf];rfl
   have hfd:f.asid=xb%65536:=by rw [<-hf,<-HRb.out];rfl
   have HFo:Hid _:=hf;have hmk:bits .and .u64 xb 65535=xb%65536:=eJ 16 xb 65535 rfl (by omega) hxb0 hxb1;have hna:((an:Int) != 0)=f.hasVa:=by
    rw [hfa];by_cases hz:(an:Int)=0
    ·rw [hz];rfl
    ·rw [decide_eq_true hz,bne_iff_ne];exact hz
   have hnb:((bn:Int) != 0)=f.hasAsid:=by
    rw [hfc];by_cases hz:(bn:Int)=0
    ·rw [hz];rfl
    ·rw [decide_eq_true hz,bne_iff_ne];exact hz
   clear hf hfa hfc;have J0:∀u:HasC [((AD b 29),.iface m.pd m.px),((AD w.heap.size 2),VU an),((AD w.heap.size 3),VU bn)],u.w.cell? (AD b 29)=some (.iface m.pd m.px):=fun u=>u.h ((AD b 29),.iface m.pd m.px) (by simp);have J1:∀u:HasC [((AD b 29),.iface m.pd m.px),((AD w.heap.size 2),VU an),((AD w.heap.size 3),VU bn)],u.w.cell? (AD w.heap.size 2)=some (VU an):=fun u=>u.h ((AD w.heap.size 2),VU an) (by simp);have J2:∀u:HasC [((AD b 29),.iface m.pd m.px),((AD w.heap.size 2),VU an),((AD w.heap.size 3),VU bn)],u.w.cell? (AD w.heap.size 3)=some (VU bn):=fun u=>u.h ((AD w.heap.size 3),VU bn) (by simp);have g0:∃u:HasC [((AD b 29),.iface m.pd m.px),((AD w.heap.size 2),VU an),((AD w.heap.size 3),VU bn)],v4.drew=u.w:=⟨⟨v4.drew,by
    intro q hq;simp only [List.mem_cons,List.not_mem_nil,or_false] at hq;rcases hq with rfl | rfl | rfl
    ·exact ab HBd.out 29 rfl
    ·exact ab HFd.out 2 rfl
    ·exact ab HFd.out 3 rfl
   ⟩,rfl⟩
   have ne:Nonempty (HasC [((AD b 29),.iface m.pd m.px),((AD w.heap.size 2),VU an),((AD w.heap.size 3),VU bn)]):=let ⟨u,_⟩:=g0;⟨u⟩
   go_upto_region 32 with fail;refine ax (fun w'=>∃u:HasC [((AD b 29),.iface m.pd m.px),((AD w.heap.size 2),VU an),((AD w.heap.size 3),VU bn)],w'=u.w) 18 ?_;refine eO (fuel:=5) g0 [0,1,2,3,4,5,6,7,8,9,10,11,16,17] ?_;simp only [gh,List.getElem?_toArray,List.getElem?_cons_zero,List.getElem?_cons_succ];repeat (go_big_quiet_step (fail))
   refine wpQuiet_nil ?_;refine ep 12 219 rfl ((dy 16 65535 v4.drew (by omega)).mono ?_);rintro e u ⟨rfl,hu⟩;rw [hu];clear hu u;refine .inl ⟨_,rfl,fun _=>g0,?_⟩
   go_frame
   refine eO (fuel:=2) g0 [13,14] ?_;simp only [gh,List.getElem?_toArray,List.getElem?_cons_zero,List.getElem?_cons_succ];repeat (go_big_quiet_step (fail))
   refine wpQuiet_nil ?_;refine ep 15 222 rfl ((rS f.hasVa xa f.hasAsid (xb%65536) v4.drew hxa0 hxa1).mono ?_);rintro e v5 ⟨hca,n5'⟩;have hfe:(⟨f.hasVa,xa,f.hasAsid,xb%65536⟩:FenceM)=f:=by rw [<-hfb,<-hfd]
   rw [hfe] at hca;have n5:=bst Dd n5';have hxo:=fun i (hi:X i)=>(K4.out.xo i hi).2;have hcv:∃cv,e=.returned cv∧CovFree X v5 cv f:=by
    rcases hca with ⟨h1,h2,rfl⟩ | ⟨h1,pf,pv,rfl,lf,lp,hF,hV⟩
    ·exact ⟨_,rfl,.inl ⟨h1,h2,rfl⟩⟩
    ·exact ⟨_,rfl,.inr ⟨h1,pf,pv,rfl,fun h=>by have:=hxo _ h;have e1:v4.drew.heap.size=v4.heap.size:=rfl;omega,fun h=>by have:=hxo _ h;have e1:v4.drew.heap.size=v4.heap.size:=rfl;omega,hF,hV⟩⟩
   obtain ⟨cv,rfl,hcf⟩:=hcv;have HB5:Hid (v5.heap[b]?=some (.cells (cJ R1.h m.gm ov m.gi m.gd m.gp m.pv) 90 (0,0))):=ah HBk n5;have HF5:=ah HF4 n5;have K5:Hid (MW v5 O X m ov R1.h []):=K4.out.low n5;have A5:PA v5 R1:=HP.out.keep A4.out hxo (Kp.of_below (fun _=>False) n5) (fun _ _ h=>h);have N5:Hid (Kp O w v5):=N4.out.trans (Kp.of_below O n5);obtain ⟨fn,rv,hmt,hen,hcall⟩:=HP.out.fence v5 R1 cv f A5 K5.out.cells hcf HC1.out.up HRk.out (by rw [hfb];exact ⟨hxa0,hxa1⟩) (by rw [hfd];unfold inU;omega);have HCl:Hid (Calls Tryz.prog fn #[rv,cv] v5 fun e w'=>e=.returned (.tuple #[])∧PA w' (mN plain R1 f)∧Kp X v5 w'):=hcall;have g5:∃u:HasC [((AD b 29),.iface m.pd m.px),((AD w.heap.size 2),VU an),((AD w.heap.size 3),VU bn)],v5=u.w:=⟨⟨v5,by
    intro q hq;simp only [List.mem_cons,List.not_mem_nil,or_false] at hq;rcases hq with rfl | rfl | rfl
    ·exact ab HB5.out 29 rfl
    ·exact ab HF5.out 2 rfl
    ·exact ab HF5.out 3 rfl
   ⟩,rfl⟩
   refine .inl ⟨_,rfl,fun _=>g5,?_⟩
   go_frame
   clear hcall A5 hca hcf n5';refine ep 18 225 rfl (f:=fn) (args:=#[rv,cv]) ?_ (he:=by go_simp);refine Calls.mono HCl.out ?_;rintro e v6 ⟨rfl,a6,n6⟩;have K6:Hid (MW v6 O X m ov (mN plain R1 f).h []):=by
    have k6:=K5.out.keep n6;show MW _ _ _ _ _ _ _;unfold mN;cases plain
    ·exact k6.withK ((xd R1.h.k f).set _ _ _)
    ·exact k6
   have A6:Hid _:=a6;have N6:Hid (Kp O w v6):=N5.out.trans (n6.mono fun i hi=>(K5.out.xo i hi).1);have HB6:=Kp.hid HB5 n6 (by rw [<-HBm.out];exact K4.out.xb);have HF6:=Kp.hid HF5 n6 (fun h=>hnO (K4.out.xo _ h).1);have g6:∃u:HasC [((AD b 29),.iface m.pd m.px),((AD w.heap.size 2),VU an),((AD w.heap.size 3),VU bn)],v6=u.w:=⟨⟨v6,by
    intro q hq;simp only [List.mem_cons,List.not_mem_nil,or_false] at hq;rcases hq with rfl | rfl | rfl
    ·exact ab HB6.out 29 rfl
    ·exact ab HF6.out 2 rfl
    ·exact ab HF6.out 3 rfl
   ⟩,rfl⟩
   refine .inl ⟨_,rfl,fun _=>g6,?_⟩
   go_frame
   refine dc ?_;clear a6 n6 hmt hen g0 g5 g6 ne J0 J1 J2;go_wp2;go_end0;have hDs:D=mN plain R1 f:=by
    rw [HD.out];unfold doM;rw [if_neg (by rw [HIl.out];simp)]
    iterate 10 rw [if_neg (by omega)]
    rw [if_pos rfl];rw [HFo.out];rfl
   rw [hDs];exact .inl ⟨H01.out,rfl,O,ov,[],K6.out,N6.out,fun _ _ h=>h,A6.out⟩
 ·as_aux_lemma=>
   have HBk:Hid (v4.heap[b]?=some (.cells (cJ R1.h m.gm ov m.gi m.gd m.gp m.pv) 90 (0,0))):=by rw [<-HBm.out];exact K4.out.blk
   have HBd:Hid (v4.drew.heap[b]?=some (.cells (cJ R1.h m.gm ov m.gi m.gd m.gp m.pv) 90 (0,0))):=HBk;have Dd:=bdr v4;have HFd:Hid (v4.drew.heap[w.heap.size]?=some (.cells #[VU x,VU 12,VU an,VU bn,VU cn,VU im] 149 (0,0))):=HF4;obtain ⟨tg,htg⟩:∃tg,(R1.h.epc+4*hZ s)%18446744073709551616=tg:=⟨_,rfl⟩;have hwt:IntKind.u64.wrap (R1.h.epc+IntKind.u64.wrap (4*im))=tg:=by
    rw [IntKind.wrap_u64,IntKind.wrap_u64,<-htg,<-HIm.out];omega
   have HTg:Hid _:=htg;clear htg;have c8:=ab HBd.out 8 (v:=VU R1.h.pc) rfl;have f8:=ap HBd.out 8;have c9:=ab HBd.out 9 (v:=VI R1.h.mode) rfl;have f9:=ap HBd.out 9;have J0:∀u:HasC [((AD b 14),VU R1.h.epc),((AD b 15),VI R1.h.emode),((AD w.heap.size 5),VU im)],u.w.cell? (AD b 14)=some (VU R1.h.epc):=fun u=>u.h ((AD b 14),VU R1.h.epc) (by simp);have J1:∀u:HasC [((AD b 14),VU R1.h.epc),((AD b 15),VI R1.h.emode),((AD w.heap.size 5),VU im)],u.w.cell? (AD b 15)=some (VI R1.h.emode):=fun u=>u.h ((AD b 15),VI R1.h.emode) (by simp);have J2:∀u:HasC [((AD b 14),VU R1.h.epc),((AD b 15),VI R1.h.emode),((AD w.heap.size 5),VU im)],u.w.cell? (AD w.heap.size 5)=some (VU im):=fun u=>u.h ((AD w.heap.size 5),VU im) (by simp);have g0:∃u:HasC [((AD b 14),VU R1.h.epc),((AD b 15),VI R1.h.emode),((AD w.heap.size 5),VU im)],v4.drew=u.w:=⟨⟨v4.drew,by
    intro q hq;simp only [List.mem_cons,List.not_mem_nil,or_false] at hq;rcases hq with rfl | rfl | rfl
    ·exact ab HBd.out 14 rfl
    ·exact ab HBd.out 15 rfl
    ·exact ab HF4.out 5 rfl
   ⟩,rfl⟩
   have g1:∃u:HasC [((AD b 14),VU R1.h.epc),((AD b 15),VI R1.h.emode),((AD w.heap.size 5),VU im)],(v4.drew.setCell (AD b 8) (VU tg))=u.w:=⟨⟨(v4.drew.setCell (AD b 8) (VU tg)),by
    intro q hq;simp only [List.mem_cons,List.not_mem_nil,or_false] at hq;rcases hq with rfl | rfl | rfl
    ·exact ab (bq (v:=VU tg) (i:=8) HBd.out) 14 rfl
    ·exact ab (bq (v:=VU tg) (i:=8) HBd.out) 15 rfl
    ·exact ab (aA HFd.out (au (ao v4.drew (some b)) 8 (VU tg)) nbw) 5 rfl
   ⟩,rfl⟩
   have ne:Nonempty (HasC [((AD b 14),VU R1.h.epc),((AD b 15),VI R1.h.emode),((AD w.heap.size 5),VU im)]):=let ⟨u,_⟩:=g0;⟨u⟩
   have HBs:Hid _:=bq (v:=VI R1.h.emode) (i:=9) (bq (v:=VU tg) (i:=8) HBd.out);have HGs:Hid _:=au (au (ao v4.drew (some b)) 8 (VU tg)) 9 (VI R1.h.emode);go_upto_region 34 with fail;refine ax (fun w'=>∃u:HasC [((AD b 14),VU R1.h.epc),((AD b 15),VI R1.h.emode),((AD w.heap.size 5),VU im)],w'=u.w) 23 ?_;refine eO (fuel:=5) g0 [0,1,2,3,4,5,6,7,8,9,10,11,12,13,14,15,16,17,18] ?_;simp only [gh,List.getElem?_toArray,List.getElem?_cons_zero,List.getElem?_cons_succ];repeat (go_big_quiet_step (fail))
   refine wpQuiet_nil ?_;refine dz 19 246 238 (T:=33) (b:=b) (off:=8) (V:=VU tg) (w':=v4.drew.setCell (AD b 8) (VU tg)) rfl (by go_simp) ?_ (hS:=.inr g1);refine eO (fuel:=1) g1 [20,21,22] ?_;simp only [gh,List.getElem?_toArray,List.getElem?_cons_zero,List.getElem?_cons_succ];repeat (go_big_quiet_step (fail))
   refine wpQuiet_nil ?_;refine dz 23 249 243 (T:=2) (b:=b) (off:=9) (V:=VI R1.h.emode) (w':=(v4.drew.setCell (AD b 8) (VU tg)).setCell (AD b 9) (VI R1.h.emode)) rfl (Dl _ (bq HBd.out) rfl) ?_;refine dc ?_;generalize ((v4.drew.setCell (AD b 8) (VU tg)).setCell (AD b 9) (VI R1.h.emode))=v5 at HBs HGs |-;clear g0 g1 ne;go_wp2;go_end0;have hDs:D=bA R1 ⟨R1.h.mem,R1.h.regs,tg,R1.h.emode,R1.h.sum,R1.h.mxr,R1.h.satp,R1.h.tvec,R1.h.epc,R1.h.emode,R1.h.cause,R1.h.tval,R1.h.k⟩:=by
    rw [HD.out];unfold doM;rw [if_neg (by rw [HIl.out];simp)]
    iterate 11 rw [if_neg (by omega)]
    rw [if_pos rfl];rw [HTg.out]
   rw [hDs];exact oO HP.out K4.out A4.out N4.out H01.out Dd (by rw [HBm.out];exact HGs.out) (by rw [HBm.out];exact HBs.out) rfl rfl rfl
 ·as_aux_lemma=>
   have HBk:Hid (v4.heap[b]?=some (.cells (cJ R1.h m.gm ov m.gi m.gd m.gp m.pv) 90 (0,0))):=by rw [<-HBm.out];exact K4.out.blk
   have HBd:Hid (v4.drew.heap[b]?=some (.cells (cJ R1.h m.gm ov m.gi m.gd m.gp m.pv) 90 (0,0))):=HBk;have Dd:=bdr v4;have HFd:Hid (v4.drew.heap[w.heap.size]?=some (.cells #[VU x,VU 13,VU an,VU bn,VU cn,VU im] 149 (0,0))):=HF4;have hwc:IntKind.i64.wrap (cn:Int)=cn:=(IntKind.wrap_i64 _).trans (by omega);have c14:=ab HBd.out 14 (v:=VU R1.h.epc) rfl;have f14:=ap HBd.out 14;have c15:=ab HBd.out 15 (v:=VI R1.h.emode) rfl;have f15:=ap HBd.out 15;have J0:∀u:HasC [((AD w.heap.size 4),VU cn)],u.w.cell? (AD w.heap.size 4)=some (VU cn):=fun u=>u.h ((AD w.heap.size 4),VU cn) (by simp);have g0:∃u:HasC [((AD w.heap.size 4),VU cn)],v4.drew=u.w:=⟨⟨v4.drew,by
    intro q hq;simp only [List.mem_cons,List.not_mem_nil,or_false] at hq;rcases hq with rfl
    ·exact ab HF4.out 4 rfl
   ⟩,rfl⟩
   have g1:∃u:HasC [((AD w.heap.size 4),VU cn)],(v4.drew.setCell (AD b 14) (VU xa))=u.w:=⟨⟨(v4.drew.setCell (AD b 14) (VU xa)),by
    intro q hq;simp only [List.mem_cons,List.not_mem_nil,or_false] at hq;rcases hq with rfl
    ·exact ab (aA HFd.out (au (ao v4.drew (some b)) 14 (VU xa)) nbw) 4 rfl
   ⟩,rfl⟩
   have ne:Nonempty (HasC [((AD w.heap.size 4),VU cn)]):=let ⟨u,_⟩:=g0;⟨u⟩
   have HBs:Hid _:=bq (v:=VI cn) (i:=15) (bq (v:=VU xa) (i:=14) HBd.out);have HGs:Hid _:=au (au (ao v4.drew (some b)) 14 (VU xa)) 15 (VI cn);go_upto_region 36 with fail;refine ax (fun w'=>∃u:HasC [((AD w.heap.size 4),VU cn)],w'=u.w) 13 ?_;refine eO (fuel:=5) g0 [0,1,2,3,4,5,6,7,8] ?_;simp only [gh,List.getElem?_toArray,List.getElem?_cons_zero,List.getElem?_cons_succ];repeat (go_big_quiet_step (fail))
   refine wpQuiet_nil ?_;refine dz 9 260 254 (T:=33) (b:=b) (off:=14) (V:=VU xa) (w':=v4.drew.setCell (AD b 14) (VU xa)) rfl (by go_simp) ?_ (hS:=.inr g1);refine eO (fuel:=1) g1 [10,11,12] ?_;simp only [gh,List.getElem?_toArray,List.getElem?_cons_zero,List.getElem?_cons_succ];repeat (go_big_quiet_step (fail))
   refine wpQuiet_nil ?_;refine dz 13 263 257 (T:=2) (b:=b) (off:=15) (V:=VI cn) (w':=(v4.drew.setCell (AD b 14) (VU xa)).setCell (AD b 15) (VI cn)) rfl (Dl _ (bq HBd.out) rfl) ?_;refine dc ?_;generalize ((v4.drew.setCell (AD b 14) (VU xa)).setCell (AD b 15) (VI cn))=v5 at HBs HGs |-;clear g0 g1 ne;go_wp2;go_end0;have hDs:D=bA R1 ⟨R1.h.mem,R1.h.regs,R1.h.pc,R1.h.mode,R1.h.sum,R1.h.mxr,R1.h.satp,R1.h.tvec,xa,cn,R1.h.cause,R1.h.tval,R1.h.k⟩:=by
    rw [HD.out];unfold doM;rw [if_neg (by rw [HIl.out];simp)]
    iterate 12 rw [if_neg (by omega)]
    rw [if_pos rfl];rw [HRa.out]
   rw [hDs];exact oO HP.out K4.out A4.out N4.out H01.out Dd (by rw [HBm.out];exact HGs.out) (by rw [HBm.out];exact HBs.out) rfl rfl rfl
 ·as_aux_lemma=>
   have HBk:Hid (v4.heap[b]?=some (.cells (cJ R1.h m.gm ov m.gi m.gd m.gp m.pv) 90 (0,0))):=by rw [<-HBm.out];exact K4.out.blk
   have HCc:Hid (Calls Tryz.prog 89 #[VI mode] v4 fun e w'=>e=.returned (VI (8+mode))∧w'=v4):=xX mode v4 hmo;have c9:=ab HBk.out 9 (v:=VI mode) (by rw [<-HR1m.out];rfl);go_wp2_with fail;refine Calls.mono HCc.out ?_;rintro e u ⟨rfl,hu⟩;rw [hu];clear hu u;go_wp2_with fail;refine ⟨rfl,?_⟩;have hDs:D=bI R1 (8+mode) 0:=by
    rw [HD.out];unfold doM;rw [if_neg (by rw [HIl.out];simp)]
    iterate 13 rw [if_neg (by omega)]
    rw [if_pos rfl];rw [HR1m.out]
   rw [hDs];exact ki K4.out rfl HMm.out N4.out (HP.out.congr _ _ _ A4.out rfl rfl rfl rfl) (by simp only [bI];omega)
end Go.Proofs.YthdgiakgepmabaaGreat
