import Derived.Deep.Slices
import Derived.Lib.SmallJoins
import Derived.Test.YtjdmhibnhpdjaaaGreatPk19
namespace Go.Proofs.YtjdmhibnhpdjaaaGreat
open Go.RowKit
set_option linter.unusedVariables false
set_option maxHeartbeats 6400000
set_option maxRecDepth 20000
theorem rt (v:Value) (t:TlbM) (w:World) (h:TlbAt w v t):
 Calls Tryz.prog 59 #[v] w fun e w'=>(∃s y l n c,e=.returned (.tuple #[.agg #[VI s,VI y,.slice l n c],.bool (ah t false)])∧(ah t false=true->∃g,s=t.sets∧y=t.ways∧l=some (AD g 0)∧n=t.es.length∧c=t.es.length∧w'.ownsRow w.heap.size 193 6 (SL g t.es.length t.es.length) t.es.length (dn t.es)))∧Bw w w':=by
 refine (rQ.1 v t w h).mono ?_;rintro e w' ⟨hc,nb⟩;refine ⟨?_,nb⟩;cases hv:ah t false
 ·rw [hv] at hc;dsimp only [cond] at hc;exact ⟨_,_,_,_,_,hc,fun h=>by cases h⟩
 ·rw [hv] at hc;dsimp only [cond] at hc;obtain ⟨g,he,ho⟩:=hc;exact ⟨_,_,_,_,_,he,fun _=>⟨g,rfl,rfl,rfl,rfl,rfl,ho⟩⟩
theorem wO (v:Value) (t:TlbM) (w:World) (h:TlbAt w v t):
 Calls Tryz.prog 60 #[v] w fun e w'=>(∃s y l n c,e=.returned (.tuple #[.agg #[VI s,VI y,.slice l n c],.bool (ah t true)])∧(ah t true=true->∃g,s=t.sets∧y=t.ways∧l=some (AD g 0)∧n=t.es.length∧c=t.es.length∧w'.ownsRow w.heap.size 198 6 (SL g t.es.length t.es.length) t.es.length (dn t.es)))∧Bw w w':=by
 refine (rQ.2 v t w h).mono ?_;rintro e w' ⟨hc,nb⟩;refine ⟨?_,nb⟩;cases hv:ah t true
 ·rw [hv] at hc;dsimp only [cond] at hc;exact ⟨_,_,_,_,_,hc,fun h=>by cases h⟩
 ·rw [hv] at hc;dsimp only [cond] at hc;obtain ⟨g,he,ho⟩:=hc;exact ⟨_,_,_,_,_,he,fun _=>⟨g,rfl,rfl,rfl,rfl,rfl,ho⟩⟩
def zE (base:Nat) (w:World) (e:Ending) (k:KM):Prop:=∃gi gd gp,e=.returned (.tuple #[.agg (cY k gi gd gp),.bool true])∧RowsAt w base gi gd gp k
theorem pz (v:Value) (k:KM) (w:World) (h:KAt w v k):
 Calls Tryz.prog 28 #[v] w fun e w'=>cond (iP k) (zE w.heap.size w' e k) (e=.returned (.tuple #[.agg #[VI 0,VI 0,SN,VI 0,VI 0,SN,VI 0,VI 0,SN],.bool false]))∧Bw w w':=by
 obtain ⟨a1,c1,a2,c2,a3,c3,rfl,T1,T2,T3⟩:=h;obtain ⟨q1,hq1⟩:∃q,ah k.i false=q:=⟨_,rfl⟩;obtain ⟨q2,hq2⟩:∃q,ah k.d false=q:=⟨_,rfl⟩;obtain ⟨q3,hq3⟩:∃q,ah k.p true=q:=⟨_,rfl⟩;have HQ1:=hid hq1;have HQ2:=hid hq2;have HQ3:=hid hq3;have hgood:iP k=(q1 && q2 && q3):=by unfold iP;rw [hq1,hq2,hq3]
 rw [hgood];clear hgood hq1 hq2 hq3;have HT1:=hid fun u (hu:Bw w u)=>T1.keep hu;have HT2:=hid fun u (hu:Bw w u)=>T2.keep hu;have HT3:=hid fun u (hu:Bw w u)=>T3.keep hu;clear T1 T2 T3;have n1:=((Below.refl w.heap.size w).alloc nle (Obj.cells #[VI k.i.sets,VI k.i.ways,.slice a1 k.i.es.length c1,VI k.d.sets,VI k.d.ways,.slice a2 k.d.es.length c2,VI k.p.sets,VI k.p.ways,.slice a3 k.p.es.length c3] 35)).alloc (by simp) (Obj.cells #[VI 0,VI 0,SN,VI 0,VI 0,SN,VI 0,VI 0,SN] 86);have H1:Hid (((w.alloc (Obj.cells #[VI k.i.sets,VI k.i.ways,.slice a1 k.i.es.length c1,VI k.d.sets,VI k.d.ways,.slice a2 k.d.es.length c2,VI k.p.sets,VI k.p.ways,.slice a3 k.p.es.length c3] 35)).alloc (Obj.cells #[VI 0,VI 0,SN,VI 0,VI 0,SN,VI 0,VI 0,SN] 86)).heap[w.heap.size]?=some (.cells #[VI k.i.sets,VI k.i.ways,.slice a1 k.i.es.length c1,VI k.d.sets,VI k.d.ways,.slice a2 k.d.es.length c2,VI k.p.sets,VI k.p.ways,.slice a3 k.p.es.length c3] 35 (0,0))):=by
  exact (mT w _ _ _ _).1
 have H2:Hid (((w.alloc (Obj.cells #[VI k.i.sets,VI k.i.ways,.slice a1 k.i.es.length c1,VI k.d.sets,VI k.d.ways,.slice a2 k.d.es.length c2,VI k.p.sets,VI k.p.ways,.slice a3 k.p.es.length c3] 35)).alloc (Obj.cells #[VI 0,VI 0,SN,VI 0,VI 0,SN,VI 0,VI 0,SN] 86)).heap[w.heap.size+1]?=some (.cells #[VI 0,VI 0,SN,VI 0,VI 0,SN,VI 0,VI 0,SN] 86 (0,0))):=by
  have:=F6 (w.alloc (Obj.cells #[VI k.i.sets,VI k.i.ways,.slice a1 k.i.es.length c1,VI k.d.sets,VI k.d.ways,.slice a2 k.d.es.length c2,VI k.p.sets,VI k.p.ways,.slice a3 k.p.es.length c3] 35)) (Obj.cells #[VI 0,VI 0,SN,VI 0,VI 0,SN,VI 0,VI 0,SN] 86);simp only [World.size_alloc] at this;exact this
 have l1:((w.alloc (Obj.cells #[VI k.i.sets,VI k.i.ways,.slice a1 k.i.es.length c1,VI k.d.sets,VI k.d.ways,.slice a2 k.d.es.length c2,VI k.p.sets,VI k.p.ways,.slice a3 k.p.es.length c3] 35)).alloc (Obj.cells #[VI 0,VI 0,SN,VI 0,VI 0,SN,VI 0,VI 0,SN] 86)).heap.size=w.heap.size+2:=by simp
 go_enter Tryz.func28,Tryz.ntmps28;go_wp2_with fail;generalize ((w.alloc (Obj.cells #[VI k.i.sets,VI k.i.ways,.slice a1 k.i.es.length c1,VI k.d.sets,VI k.d.ways,.slice a2 k.d.es.length c2,VI k.p.sets,VI k.p.ways,.slice a3 k.p.es.length c3] 35)).alloc (Obj.cells #[VI 0,VI 0,SN,VI 0,VI 0,SN,VI 0,VI 0,SN] 86))=u0 at n1 H1 H2 l1 |-;have A1:=n1;have I1:=H1;have J1:=H2;clear n1 H1 H2;refine (rt _ k.i u0 (HT1.out u0 A1)).mono ?_;rw [HQ1.out];rintro e z1 ⟨⟨s1,y1,t1,x1,cc1,rfl,hv1⟩,nz1⟩;have HV1:Hid _:=hv1;have m1:=nz1.alloc nz1.size (Obj.cells #[VI s1,VI y1,.slice t1 x1 cc1] 81);have mz1:=(Below.refl z1.heap.size z1).alloc nle (Obj.cells #[VI s1,VI y1,.slice t1 x1 cc1] 81);have B11:Hid ((z1.alloc (Obj.cells #[VI s1,VI y1,.slice t1 x1 cc1] 81)).heap[z1.heap.size]?=some (.cells #[VI s1,VI y1,.slice t1 x1 cc1] 81 (0,0))):=F6 z1 _;have A2:=bst A1 m1;have J2:=gZ J1 m1;have I2:=gZ I1 m1;have IZ1:=jr (gZ I1 nz1).out;have lz1:=(hpl (gZ I1 nz1).out);have ls1:=nz1.size;have lt1:z1.heap.size<(z1.alloc (Obj.cells #[VI s1,VI y1,.slice t1 x1 cc1] 81)).heap.size:=by simp
 obtain ⟨b0,b1,b2,b3,b4,b5,b6,b7,b8⟩:=IZ1;clear hv1 nz1;go_wp2_with fail;generalize z1.alloc (Obj.cells #[VI s1,VI y1,.slice t1 x1 cc1] 81)=u1 at m1 mz1 B11 A2 J2 I2 lt1 |-;clear b0 b1 b2 b3 b4 b5 b6 b7 b8;refine (rt _ k.d u1 (HT2.out u1 A2)).mono ?_;rw [HQ2.out];rintro e z2 ⟨⟨s2,y2,t2,x2,cc2,rfl,hv2⟩,nz2⟩;have HV2:Hid _:=hv2;have m2:=nz2.alloc nz2.size (Obj.cells #[VI s2,VI y2,.slice t2 x2 cc2] 81);have mz2:=(Below.refl z2.heap.size z2).alloc nle (Obj.cells #[VI s2,VI y2,.slice t2 x2 cc2] 81);have B22:Hid ((z2.alloc (Obj.cells #[VI s2,VI y2,.slice t2 x2 cc2] 81)).heap[z2.heap.size]?=some (.cells #[VI s2,VI y2,.slice t2 x2 cc2] 81 (0,0))):=F6 z2 _;have A3:=bst A2 m2;have J3:=gZ J2 m2;have I3:=gZ I2 m2;have B21:=gZ B11 m2;have IZ2:=jr (gZ I2 nz2).out;have lz2:=(hpl (gZ I2 nz2).out);have ls2:=nz2.size;have lt2:z2.heap.size<(z2.alloc (Obj.cells #[VI s2,VI y2,.slice t2 x2 cc2] 81)).heap.size:=by simp
 obtain ⟨b0,b1,b2,b3,b4,b5,b6,b7,b8⟩:=IZ2;clear hv2 nz2;go_wp2_with fail;generalize z2.alloc (Obj.cells #[VI s2,VI y2,.slice t2 x2 cc2] 81)=u2 at m2 mz2 B22 A3 J3 I3 lt2 B21 |-;clear b0 b1 b2 b3 b4 b5 b6 b7 b8;refine (wO _ k.p u2 (HT3.out u2 A3)).mono ?_;rw [HQ3.out];rintro e z3 ⟨⟨s3,y3,t3,x3,cc3,rfl,hv3⟩,nz3⟩;have HV3:Hid _:=hv3;have A4:=bst A3 nz3;have J4:=gZ J3 nz3;have B31:=gZ B21 nz3;have B32:=gZ B22 nz3;have q31:=(hpl B31.out);have q32:=(hpl B32.out);have q33:=(hpl J4.out);clear hv3;obtain ⟨p0,p1,p2⟩:=(ij B31.out).1;obtain ⟨p3,p4,p5⟩:=(ij B32.out).1;obtain ⟨d0,d1,d2,d3,d4,d5,d6,d7,d8⟩:=jr J4.out;have ff:=sD J4.out;have f0:=ff 0;have f1:=ff 1;have f2:=ff 2;have f3:=ff 3;have f4:=ff 4;have f5:=ff 5;have f6:=ff 6;have f7:=ff 7;have f8:=ff 8;clear ff;have r31:z1.heap.size≠z3.heap.size:=by omega
 have r32:z2.heap.size≠z3.heap.size:=by omega
 have r33:w.heap.size+1≠z3.heap.size:=by omega
 by_cases hall:q1=true∧q2=true∧q3=true
 ·obtain ⟨rfl,rfl,rfl⟩:=hall;obtain ⟨gi,rfl,rfl,rfl,rfl,rfl,oi⟩:=HV1.out (by trivial);obtain ⟨gd,rfl,rfl,rfl,rfl,rfl,od⟩:=HV2.out (by trivial);obtain ⟨gp,rfl,rfl,rfl,rfl,rfl,op⟩:=HV3.out (by trivial);have lgi:=(eh oi).2;have lgd:=(eh od).2;have lgp:=(eh op).2;simp only at lgi lgd lgp;have oi':=ab (ab (ab oi mz1) m2) nz3;have od':=ab (ab od mz2) nz3;have s1':=m2.size;have s2':=nz3.size;have s3':=m1.size;go_wp2_with fail;refine bodyPost_ret (v:=.tuple #[.agg (cY k gi gd gp),.bool true]) (by simp [results,Tryz.results28,go_sem,cY,d0,d1,d2,d3,d4,d5,d6,d7,d8,q33]) rfl ⟨⟨gi,gd,gp,rfl,?_⟩,(Ek A4 (by omega) _ _ _ _ _ _ _ _ _).alloc (by simp;omega) _⟩;have g9:=gb9 z3 (w.heap.size+1);exact RowsAt.keep ⟨ir (aD oi' (g9 _ _ _ _ _ _ _ _ _) (by omega)) (by omega),ir (aD od' (g9 _ _ _ _ _ _ _ _ _) (by omega)) (by omega),ir (aD op (g9 _ _ _ _ _ _ _ _ _) (by omega)) (by omega),by omega,by omega,by omega⟩ ((brf).alloc nle _)
 ·have hall':(q1 && q2 && q3)=false:=by
   cases q1 <;> cases q2 <;> cases q3 <;> simp at hall |-
  cases q1 <;> cases q2 <;> cases q3;all_goals first | (exfalso;simp at hall';done) | skip
  all_goals
   go_wp2_with fail;exact bodyPost_ret (v:=.tuple #[.agg #[VI 0,VI 0,SN,VI 0,VI 0,SN,VI 0,VI 0,SN],.bool false]) (by simp [results,Tryz.results28,go_sem,d0,d1,d2,d3,d4,d5,d6,d7,d8,q33]) rfl ⟨rfl,(Ek A4 (by omega) _ _ _ _ _ _ _ _ _).alloc (by simp;omega) _⟩
section
open Go.RowKit Go.Joins Go.ChangeShapes Go.WideShapes Go.ChangeAt
def tlbIn (w:World) (t:TlbM) (a:Option Addr) (cap:Nat):Prop:=
 RowC w a t.es.length 6 (ao t.es)∧(∀e∈t.es,bO e)∧(-9223372036854775808<=t.sets∧t.sets<=9223372036854775807)∧(-9223372036854775808<=t.ways∧t.ways<=9223372036854775807)∧t.es.length<=cap∧(cap:Int)<=9223372036854775807
end
theorem xR (w:World):(method 414 168 (.agg #[]) "loop.example/s0051/impl.phys").run Tryz.prog w=.ok (208,.agg #[]) w:=by kernel_rfl
theorem wS (w:World):(method 414 168 (.agg #[]) "loop.example/s0051/impl.fence").run Tryz.prog w=.ok (207,.agg #[]) w:=by kernel_rfl
theorem wT (w:World):(method 414 168 (.agg #[]) "loop.example/s0051/impl.begin").run Tryz.prog w=.ok (206,.agg #[]) w:=by kernel_rfl
theorem zK (args:Array Value) (w:World):(callFunc 208 args).run Tryz.prog w=.ok (.enter 208 args) w:=by kernel_rfl
theorem xT (args:Array Value) (w:World):(callFunc 207 args).run Tryz.prog w=.ok (.enter 207 args) w:=by kernel_rfl
theorem xU (args:Array Value) (w:World):(callFunc 206 args).run Tryz.prog w=.ok (.enter 206 args) w:=by kernel_rfl
theorem zL (zs:List Int) (mode:Int) (sum mxr:Bool) (satp kind va:Int) (hk:0<=kind∧kind<=2) (hm:0<=mode∧mode<=2):
 mx zs mode sum mxr satp kind va=(if (mX zs mode sum mxr satp kind va).2=1 then 0 else if (mX zs mode sum mxr satp kind va).2=2 then bW kind else aV kind,(mX zs mode sum mxr satp kind va).1)∧((mX zs mode sum mxr satp kind va).2=1∨(mX zs mode sum mxr satp kind va).2=2∨(mX zs mode sum mxr satp kind va).2=3):=by
 have hcd:=ee zs satp va;refine ⟨?_,?_⟩
 ·unfold mx;rw [if_neg (by omega)];unfold mX;cases onM mode satp
  ·simp
  ·simp only [Bool.true_eq_false,if_false];exact zG (aB zs satp va) mode sum mxr kind va hcd
 ·unfold mX;cases onM mode satp
  ·simp
  ·simp only [Bool.true_eq_false,if_false];exact Bh (aB zs satp va) mode sum mxr kind va hcd
theorem DX (r:RunM) (sv:Value) (kind va:Int) (w:World) (hs:SrcAt w sv r.h.mem) (hr:ROk r) (hv:inU va):
 Calls Tryz.prog 208 #[.agg #[],sv,tj r.h,VI kind,VU va] w fun e w'=>e=.returned (.tuple #[VU (mX r.h.mem r.h.mode r.h.sum r.h.mxr r.h.satp kind va).1,jg (mX r.h.mem r.h.mode r.h.sum r.h.mxr r.h.satp kind va).2])∧Bw w w':=by
 have F:=mT w #[] #[VI r.h.mode,.bool r.h.sum,.bool r.h.mxr,VU r.h.satp] 168 205;have HS:Hid _:=hs;have hsp:=hr.h.satp;obtain ⟨hv0,hv1⟩:=hv;clear hs hr;generalize r.h.mem=zs at HS |-;unfold tj;generalize r.h.satp=satp at hsp F |-;generalize r.h.mode=mode at F |-;generalize r.h.sum=sum at F |-;generalize r.h.mxr=mxr at F |-;go_enter Tryz.func208,Tryz.ntmps208;go_upto_region 1 with fail;generalize (w.alloc (Obj.cells #[] 168)).alloc (Obj.cells #[VI mode,.bool sum,.bool mxr,VU satp] 205)=v1 at F |-;obtain ⟨f1,f2,f3,n1⟩:=F;have c0:=gX f2 0 (v:=VI mode) rfl;have c1:=gX f2 1 (v:=.bool sum) rfl;have c2:=gX f2 2 (v:=.bool mxr) rfl;have c3:=gX f2 3 (v:=VU satp) rfl;have HN1:Hid _:=n1;have HC:Hid _:=ve sv zs mode sum mxr satp kind va v1 (SrcAt.keep HS.out n1) hv0 hv1 hsp.1 hsp.2;unfold kg at HC;clear f1 f2 f3 n1;go_wp2_with fail;refine Calls.mono HC.out ?_;rintro e v2 ⟨rfl,n2⟩;have HN2:=hid (bst HN1.out n2);obtain ⟨A,hA⟩:∃A,mX zs mode sum mxr satp kind va=A:=⟨_,rfl⟩;rw [hA];have HA:Hid _:=hA;clear hA n2 c0 c1 c2 c3;go_wp2_with fail;exact bodyPost_ret (v:=.tuple #[VU A.1,jg A.2]) (by simp [results,Tryz.results208,go_sem]) rfl ⟨by rw [HA.out],HN2.out⟩
theorem Cp (pick:Int) (w:World):Calls Tryz.prog 206 #[.agg #[],VI pick] w fun e w'=>e=.returned (.tuple #[])∧Bw w w':=by
 have F:=iV w #[] 168;go_enter Tryz.func206,Tryz.ntmps206;go_wp2_with fail;exact ⟨rfl,.tuple #[],by kernel_rfl,rfl,F.2.2⟩
theorem Cq (cv:Value) (w:World):Calls Tryz.prog 207 #[.agg #[],cv] w fun e w'=>e=.returned (.tuple #[])∧Bw w w':=by
 have F:=iV w #[] 168;go_enter Tryz.func207,Tryz.ntmps207;go_wp2_with fail;exact ⟨rfl,.tuple #[],by kernel_rfl,rfl,F.2.2⟩
structure Path (m:MP) (plain:Bool) (base:Nat) (X:Nat->Prop) (PI:KM->World->Prop) (PA:Int->World->RunM->Prop):Prop where
 ok:∀pick h0,0<=pick∧pick<=255->PathOk m plain pick h0 X (PI h0.k) (PA pick)
 next:∀pick w r,PA pick w r->PI r.h.k w
 rows:∀k w,PI k w->RowsAt w base m.gi m.gd m.gp k
theorem Path.cached (m:MP) (pb base:Nat) (hd:CDist m pb) (hbp:m.b≠pb):Path m false base (cX m pb) (cI m pb base) (fun pick w r=>cA m pb base pick r.h.k w):=
 ⟨fun pick h0 hp=>yA m pb base hd hbp pick hp h0,fun pick w r h=>⟨pick,h⟩,fun k w h=>h.elim fun _ h=>h.1⟩
def pX (m:MP) (i:Nat):Prop:=i=m.gi∨i=m.gd∨i=m.gp
theorem vS {w w':World} {m:MP} {base:Nat} {k:KM} (h:RowsAt w base m.gi m.gd m.gp k) (hx:∀i,pX m i->w'.heap[i]?=w.heap[i]?):RowsAt w' base m.gi m.gd m.gp k:=
 ⟨cH h.1 (hx _ (.inl rfl)),cH h.2.1 (hx _ (.inr (.inl rfl))),cH h.2.2.1 (hx _ (.inr (.inr rfl))),h.2.2.2⟩
theorem qW {w w':World} {m:MP} {base:Nat} {k:KM} (h:RowsAt w base m.gi m.gd m.gp k) (n:Bw w w'):RowsAt w' base m.gi m.gd m.gp k:=h.keep n
theorem Path.plain (m:MP) (base:Nat) (hpd:m.pd=168) (hpx:m.px=.agg #[]):Path m true base (pX m) (fun k w=>RowsAt w base m.gi m.gd m.gp k) (fun _ w r=>RowsAt w base m.gi m.gd m.gp r.h.k):=by
 refine ⟨fun pick h0 hp=>⟨fun w w' r h _ hx=>vS h hx,fun w w' h _ hx=>vS h hx,fun w r r' h e _ _ _=>by rw [e];exact h,?_,?_,?_⟩,fun _ _ _ h=>h,fun _ _ h=>h⟩
 ·intro w r sv kind va hA _ hs hc hr hk0 hk2 hv;rw [hpd,hpx];refine ⟨_,_,xR w,fun args u=>zK args u,?_⟩;refine (DX r sv kind va w (hs w (Kp.refl _ w)) hr hv).mono ?_;rintro e w' ⟨rfl,n⟩;have h:=zL r.h.mem r.h.mode r.h.sum r.h.mxr r.h.satp kind va ⟨hk0,hk2⟩ hr.h.v.mode;refine ⟨_,_,rfl,h.2,?_,?_,Kp.of_below _ n⟩
  ·unfold aw;rw [if_pos rfl];exact h.1
  ·exact qW (m:=m) hA n
 ·intro w r cv f hA _ _ _ _ _ _;rw [hpd,hpx];refine ⟨_,_,wS w,fun args u=>xT args u,?_⟩;exact (Cq cv w).mono fun e w' h=>⟨h.1,qW (m:=m) hA h.2,Kp.of_below _ h.2⟩
 ·intro w hI _ _;rw [hpd,hpx];refine ⟨_,_,wT w,fun args u=>xU args u,?_⟩;refine (Cp pick w).mono fun e w' h=>⟨h.1,?_,Kp.of_below _ h.2⟩;have e:(aW true pick h0).h.k=h0.k:=by
   unfold aW cT;rw [if_neg (by simp)];rfl
  rw [e];exact qW (m:=m) hI h.2
theorem Cz (b base gi gd gp:Nat) (k:KM) (w:World) (hS:SetM w b base gi gd gp k) (hli:k.i.es.length<=1048576) (hld:k.d.es.length<=1048576) (hkl:k.p.es.length<=1048576):
 Calls Tryz.prog 58 #[PT b 20] w fun e w'=>(∃x,e=.returned x∧Fb w.heap.size w' x k)∧Bw w w':=by
 have HS:=hid hS;have hb:=hS.lt;obtain ⟨v1,Ev1,n1,H1,l1⟩:=al1 w #[VI 0,VI 0,SN,VI 0,VI 0,SN,VI 0,VI 0,SN] 35;have HI:Hid (∀u,Bw w u->Calls Tryz.prog 92 #[PT b 20] u fun e w'=>(∃x,e=.returned x∧TlbOwn u.heap.size w' x k.i)∧Bw u w'):=fun u hu=>by
  have S:=HS.out.keep hu;obtain ⟨c0,c1,c2⟩:=S.cellI;exact uT.1 b 20 gi k.i.es.length k.i u rfl hli S.lt (eh S.2.1.1).2.2 c0 c1 c2 (dq S.2.1.1)
 have HD:Hid (∀u,Bw w u->Calls Tryz.prog 92 #[PT b 23] u fun e w'=>(∃x,e=.returned x∧TlbOwn u.heap.size w' x k.d)∧Bw u w'):=fun u hu=>by
  have S:=HS.out.keep hu;obtain ⟨c0,c1,c2⟩:=S.cellD;exact uT.1 b 23 gd k.d.es.length k.d u rfl hld S.lt (eh S.2.1.2.1).2.2 c0 c1 c2 (dq S.2.1.2.1)
 have HP:Hid (∀u,Bw w u->Calls Tryz.prog 93 #[PT b 26] u fun e w'=>(∃x,e=.returned x∧TlbOwn u.heap.size w' x k.p)∧Bw u w'):=fun u hu=>by
  have S:=HS.out.keep hu;obtain ⟨c0,c1,c2⟩:=S.cellP;exact uT.2 b 26 gp k.p.es.length k.p u rfl hkl S.lt (eh S.2.1.2.2.1).2.2 c0 c1 c2 (dq S.2.1.2.2.1)
 have HC:=hid fun u (hu:Bw w u)=>(HS.out.keep hu).cellI.1;have nb1:b≠w.heap.size:=by omega
 have nb2:w.heap.size≠b:=by omega
 clear hS;go_enter Tryz.func58,Tryz.ntmps58;go_wp2_with fail;rw [Ev1.out];clear Ev1;have D1:=bdr v1;have A1:=bst n1 D1;have cb:=HC.out v1 n1;have HJ1:=gZ H1 D1;go_region_held3 (fun w'=>w'.cell? (AD b 20)=some (VI k.i.sets)) (go_keep)
  (first
  | (go_at_call 92;(with_reducible refine (HI.out v1.drew A1).mono ?_);rintro e y1 ⟨⟨x1,rfl,hx1⟩,m1⟩;have A2:=bst A1 m1;have cb1:=HC.out y1 A2;have HJ2:=gZ HJ1 m1;obtain ⟨g1,e1,rfl,o1⟩:=hx1;have O1:Hid _:=o1;clear o1)
  | (go_at_call 92;(with_reducible refine (HD.out y1 A2).mono ?_);rintro e y2 ⟨⟨x2,rfl,hx2⟩,m2⟩;have A3:=bst A2 m2;have cb2:=HC.out y2 A3;have HJ3:=gZ HJ2 m2;obtain ⟨g2,e2,rfl,o2⟩:=hx2;have O2:Hid _:=o2;clear o2)
  | (go_at_call 93;(with_reducible refine (HP.out y2 A3).mono ?_);rintro e y3 ⟨⟨x3,rfl,hx3⟩,m3⟩;have A4:=bst A3 m3;have cb3:=HC.out y3 A4;have HJ4:=gZ HJ3 m3;obtain ⟨g3,e3,rfl,o3⟩:=hx3;have O3:Hid _:=o3;have jj:=jr HJ4.out;obtain ⟨j0,j1,j2,j3,j4,j5,j6,j7,j8⟩:=jj;have ff:=sD HJ4.out;have f0:=ff 0;have f1:=ff 1;have f2:=ff 2;have f3:=ff 3;have f4:=ff 4;have f5:=ff 5;have f6:=ff 6;have f7:=ff 7;have f8:=ff 8;clear o3 ff))
 all_goals
  go_wp2_with fail;have q1:=(eh O1.out).2;have q2:=(eh O2.out).2;have q3:=(eh O3.out).2;have z1:=m1.size;have z2:=m2.size;have z0:=D1.size;simp only at q1 q2 q3;have g9:=gb9 y3 w.heap.size;refine bodyPost_ret (v:=.agg #[VI k.i.sets,VI k.i.ways,SL g1 k.i.es.length e1,VI k.d.sets,VI k.d.ways,SL g2 k.d.es.length e2,VI k.p.sets,VI k.p.ways,SL g3 k.p.es.length e3]) (by simp [results,Tryz.results58,go_sem,j0,j1,j2,j3,j4,j5,j6,j7,j8]) rfl ⟨⟨_,rfl,g1,e1,g2,e2,g3,e3,rfl,?_,?_,?_,by omega,by omega,by omega⟩,Ek A4 nle _ _ _ _ _ _ _ _ _⟩
  ·exact ir (aD (ab (ab O1.out m2) m3) (g9 _ _ _ _ _ _ _ _ _) (by omega)) (by omega)
  ·exact ir (aD (ab O2.out m3) (g9 _ _ _ _ _ _ _ _ _) (by omega)) (by omega)
  ·exact ir (aD O3.out (g9 _ _ _ _ _ _ _ _ _) (by omega)) (by omega)
end Go.Proofs.YtjdmhibnhpdjaaaGreat
