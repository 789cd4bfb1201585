import Derived.Deep.DeepCutAuto
import Derived.Test.YtaoaifmkhbgaiaaGreatPk14
import Derived.Test.YtaoaifmkhbgaiaaGreatPk03
namespace Go.Proofs.YtaoaifmkhbgaiaaGreat
open Go.RowKit
set_option linter.unusedVariables false
set_option maxRecDepth 20000 in
set_option maxHeartbeats 800000 in
theorem jk (p:PtrM) (al:Option Addr) (cl:Nat) (plain:Bool) (pick:Int) (r:RunM) (c t:Int) (w:World):
 Calls Tryz.prog 145 #[.agg (aK p al cl plain pick r),.int .i64 c,.int .u64 t] w fun e w'=>e=.returned (.agg (aK p al cl plain pick (dc r c t)))∧Below w.heap.size w w':=by
 have hsz:=bD p al cl plain pick r;have h1:=dU p al cl plain pick r;have HE:Hid (((aK p al cl plain pick r).setIfInBounds 23 (.int .i64 c)).setIfInBounds 24 (.int .u64 t)=aK p al cl plain pick (dc r c t)):=rfl;have g23:(aK p al cl plain pick r)[23]?=some (.int .i64 r.cause):=rfl;have g24:(aK p al cl plain pick r)[24]?=some (.int .u64 r.tval):=rfl;generalize aK p al cl plain pick r=C at *;generalize aK p al cl plain pick (dc r c t)=D at *;have HO:Hid (C.all (·.oneCell')=true):=h1;clear h1;go_enter Tryz.func145,Tryz.ntmps145;go_upto_region 1 with fail;have F:=eU w C ek 143 143;generalize (w.alloc (Obj.cells C 143)).alloc (Obj.cells ek 143)=v1 at F ⊢;obtain ⟨h3,h6,l1,n1⟩:=F;have H3:Hid _:=h3;have H6:Hid _:=h6;have b1:w.heap.size<v1.heap.size:=by omega
 have f23:=aA h3 23;have f24:=aA h3 24;have c23:=ag h3 23 g23;have c24:=ag h3 24 g24;clear h3 h6;have hz:=a8;have HL:Hid ((Instr.loadAt 143 (.pointer (some ⟨w.heap.size,0,none⟩))).run Tryz.prog ((v1.setCell ⟨w.heap.size,23,none⟩ (.int .i64 c)).setCell ⟨w.heap.size,24,none⟩ (.int .u64 t))=.ok (.agg ((C.setIfInBounds 23 (.int .i64 c)).setIfInBounds 24 (.int .u64 t))) ((v1.setCell ⟨w.heap.size,23,none⟩ (.int .i64 c)).setCell ⟨w.heap.size,24,none⟩ (.int .u64 t))):=aB (da (da H3.out 23 _) 24 _) Tryz.underlying143 rfl (by simp only [Array.size_setIfInBounds,hsz];exact du);have HS:Hid _:=bO (P:=Tryz.prog) (T:=143) (V:=(C.setIfInBounds 23 (.int .i64 c)).setIfInBounds 24 (.int .u64 t)) (dJ (dJ H6.out 23 (.int .i64 c) (show w.heap.size+1≠w.heap.size by omega)) 24 (.int .u64 t) (show w.heap.size+1≠w.heap.size by omega)) (by simp only [Array.size_setIfInBounds,hsz];exact du) (by simp only [Array.size_setIfInBounds,hsz,hz]) (mJ (mJ HO.out _ rfl) _ rfl);go_wp2_with (first
  | ((with_reducible refine az ?_ HL.out ?_);(exact rfl))
  | ((with_reducible refine au ?_ ?_ HS.out ?_);(exact rfl);(exact rfl)))
 have hD:D.size=31:=by rw [←HE.out];simp only [Array.size_setIfInBounds,hsz]
 have e1:=bs (V:=(C.setIfInBounds 23 (.int .i64 c)).setIfInBounds 24 (.int .u64 t)) (dJ (dJ H6.out 23 (.int .i64 c) (show w.heap.size+1≠w.heap.size by omega)) 24 (.int .u64 t) (show w.heap.size+1≠w.heap.size by omega)) (by rw [HE.out,hD,hz]);have e2:=bf (show w.heap.size≤w.heap.size+1 by omega) ((C.setIfInBounds 23 (.int .i64 c)).setIfInBounds 24 (.int .u64 t)).toList 0 _ (dC (dC n1 (Nat.le_refl _) 23 (.int .i64 c)) (Nat.le_refl _) 24 (.int .u64 t));rw [HE.out] at e1 e2 ⊢;generalize ((v1.setCell ⟨w.heap.size,23,none⟩ (.int .i64 c)).setCell ⟨w.heap.size,24,none⟩ (.int .u64 t)).setCells (w.heap.size+1) 0 D.toList=v2 at e1 e2 ⊢;exact ec (b:=w.heap.size+1) Tryz.results145 rfl (bj (P:=Tryz.prog) e1 Tryz.underlying143 rfl (by rw [hD];exact du)) rfl ⟨rfl,e2⟩
set_option maxRecDepth 20000 in
set_option maxHeartbeats 800000 in
theorem p8 (p:PtrM) (h:HartM) (w:World):
 Calls Tryz.prog 81 #[.agg (aD p h)] w fun e w'=>e=.returned (dx h.mode h.sum h.mxr h.satp)∧Below w.heap.size w w':=by
 have hsz:=ez p h;have g3:(aD p h)[3]?=some (.int .i64 h.mode):=rfl;have g4:(aD p h)[4]?=some (.bool h.sum):=rfl;have g5:(aD p h)[5]?=some (.bool h.mxr):=rfl;have g6:(aD p h)[6]?=some (.int .u64 h.satp):=rfl;generalize aD p h=C at *;unfold dx;go_enter Tryz.func81,Tryz.ntmps81;go_upto_region 1 with fail;have F:=eU w C #[.int .i64 0,.bool false,.bool false,.int .u64 0] 48 25;generalize (w.alloc (Obj.cells C 48)).alloc (Obj.cells #[.int .i64 0,.bool false,.bool false,.int .u64 0] 25)=v1 at F ⊢;obtain ⟨h3,h6,l1,n1⟩:=F;have c3:=ag h3 3 g3;have c4:=ag h3 4 g4;have c5:=ag h3 5 g5;have c6:=ag h3 6 g6;have k0:=ag h6 0 (v:=.int .i64 0) rfl;have k1:=ag h6 1 (v:=.bool false) rfl;have k2:=ag h6 2 (v:=.bool false) rfl;have k3:=ag h6 3 (v:=.int .u64 0) rfl;have f0:=aA h6 0;have f1:=aA h6 1;have f2:=aA h6 2;have f3:=aA h6 3;have ne1:w.heap.size≠w.heap.size+1:=by omega
 have ne2:w.heap.size+1≠w.heap.size:=by omega
 have b1:w.heap.size<v1.heap.size:=by omega
 have b2:w.heap.size+1<v1.heap.size:=by omega
 clear h3 h6;go_wp2_with fail;exact bodyPost_ret (v:=.agg #[.int .i64 h.mode,.bool h.sum,.bool h.mxr,.int .u64 h.satp]) (by simp [results,Tryz.results81,go_sem,k0,k1,k2,k3]) rfl ⟨rfl,dC (dC (dC (dC n1 (by omega) _ _) (by omega) _ _) (by omega) _ _) (by omega) _ _⟩
set_option maxHeartbeats 400000 in
theorem po (satp:Int) (w:World) (h0:0≤satp) (h1:satp≤18446744073709551615):
 Calls Tryz.prog 65 #[.int .u64 satp] w fun e w'=>e=.returned (.bool (eM satp))∧Below w.heap.size w w':=by
 have HS:Hid (eM satp=(satp/1152921504606846976%16 == 0 || satp/1152921504606846976%16 == 8)):=rfl;have HB:Hid (∀u,Calls Tryz.prog 49 #[.int .u64 satp,.int .i64 60,.int .i64 63] u fun e w'=>e=.returned (.int .u64 (satp/1152921504606846976%16))∧∃n,w'=u.drewN n):=fun u=>bS satp 60 63 _ _ u h0 h1 (by omega) (by omega) (by omega) (by omega) (by decide) (by decide);generalize eM satp=q at *;generalize satp/1152921504606846976%16=x at *;by_cases hx:x=0
 ·subst hx;have hq:q=true:=by rw [HS.out];rfl
  subst hq;go_enter Tryz.func65,Tryz.ntmps65;go_wp2_with fail;refine (HB.out w).mono ?_;rintro e v1 ⟨rfl,n,rfl⟩;go_wp2_with fail;go_ret;exact ⟨rfl,below_drewN (Below.refl _ _) n⟩
 ·have hx':(x == 0)=false:=by simpa using hx
  go_enter Tryz.func65,Tryz.ntmps65;go_wp2_with fail;refine (HB.out w).mono ?_;rintro e v1 ⟨rfl,n,rfl⟩;go_wp2_with fail;refine (HB.out _).mono ?_;rintro e v2 ⟨rfl,m,rfl⟩;go_wp2_with fail;go_ret;exact ⟨aF (by rw [HS.out,hx'];simp),below_drewN (Below.refl _ _) (n+m)⟩
set_option maxHeartbeats 400000 in
theorem pr (a:Option Addr) (len cap:Nat) (zs:List Int) (i:Nat) (w:World) (h:Byt w a len zs) (hl:len≤1048576) (hi:i≤9223372036854775807):
 Calls Tryz.prog 63 #[.slice a len cap,.int .i64 i] w fun e w'=>e=.returned (.int .i64 (atM zs i))∧w'=w:=by
 obtain ⟨h1,h2,h3⟩:=h;by_cases hlt:i<len
 ·rcases h3 with h3 | ⟨b,off,rfl,hbw,hc⟩
  ·omega
  have g1:=hc i hlt;have g2:=h2 i;have HA:Hid (zs[i]?.getD 0=atM zs i):=rfl;generalize zs[i]?.getD 0=x at g1 g2 HA;clear hc h2;go_enter Tryz.func63,Tryz.ntmps63;go_wp2_with fail;go_ret;exact ⟨cA HA.out,rfl⟩
 ·have HA:Hid (atM zs i=0):=by
   show zs[i]?.getD 0=0;rw [List.getElem?_eq_none (by omega)];rfl
  clear h2 h3;go_enter Tryz.func63,Tryz.ntmps63;go_wp2_with fail;go_ret;exact ⟨cA HA.out.symm,rfl⟩
end Go.Proofs.YtaoaifmkhbgaiaaGreat

namespace Go.Proofs.YtaoaifmkhbgaiaaGreat
open Go.RowKit
set_option linter.unusedVariables false
theorem Tryz.infoU:(Tryz.prog.info? 23).map (fun i=>(i.zero,i.size,i.bytes))=some (some (.int .u64 0),1,8):=by kernel_rfl
theorem pL (zs:List Int):∀u∈fx zs,u.oneCell'=true:=by
 intro u hu;obtain ⟨_,_,rfl⟩:=List.mem_map.1 hu;rfl
theorem yr (zs:List Int) (i:Nat) (x:Int):(fx zs).set i (.int .u64 x)=fx (zs.set i x):=by simp [fx,List.map_set]
theorem uW (zs:List Int) (i:Nat) (h:i<zs.length):(fx zs)[i]?=some (.int .u64 (zs[i]?.getD 0)):=by
 simp [fx,h]
def uX (p:PtrM) (g cap:Nat):PtrM:=⟨p.am,p.cm,some ⟨g,0,none⟩,cap,p.a1,p.c1,p.a2,p.c2,p.a3,p.c3⟩
theorem RunIn.reg {w w':World} {p:PtrM} {al:Option Addr} {cl:Nat} {r:RunM} {rs:List Int} {g cap:Nat} (k:RunIn w p al cl r) (hb:Below w.heap.size w w') (hr:RowC w' (some ⟨g,0,none⟩) rs.length 1 (fx rs)) (hc:rs.length≤cap∧cap≤9223372036854775807) (hlt:g<w'.heap.size):
 RunIn w' (uX p g cap) al cl (cF r (iD r.h rs)):=
 ⟨⟨k.h.mem.keep hb,k.h.memc,hr,hc,⟨fun h=>(by cases h),fun q hq=>by cases hq;rfl⟩,k.h.ks.keep hb,fun q hq=>by
  simp only [aQ,uX,List.mem_cons,List.not_mem_nil,or_false] at hq;have hl:=fun q hq=>Nat.lt_of_lt_of_le (k.h.low q hq) hb.size;rcases hq with hq | hq | hq | hq | hq
  ·exact hl q (by simp [aQ,hq])
  ·cases hq;exact hlt
  ·exact hl q (by simp [aQ,hq])
  ·exact hl q (by simp [aQ,hq])
  ·exact hl q (by simp [aQ,hq])⟩,k.looks.keep hb,k.lookc,k.looka,k.lookl,fun q hq=>Nat.lt_of_lt_of_le (k.low q hq) hb.size⟩
theorem th {B g cap:Nat} {p:PtrM} (h:B≤g):From B p (uX p g cap):=fun q hq=>by
 simp only [aQ,uX,List.mem_cons,List.not_mem_nil,or_false] at hq;rcases hq with hq | hq | hq | hq | hq
 ·exact .inl (by simp [aQ,hq])
 ·cases hq;exact .inr h
 ·exact .inl (by simp [aQ,hq])
 ·exact .inl (by simp [aQ,hq])
 ·exact .inl (by simp [aQ,hq])
set_option maxRecDepth 20000 in
set_option maxHeartbeats 1600000 in
theorem iJ (p:PtrM) (al:Option Addr) (cl:Nat) (plain:Bool) (pick:Int) (r:RunM) (a x:Int) (w:World) (hr:RunIn w p al cl r) (ha:0≤a) (ha':a.toNat<r.h.regs.length) (hl:r.h.regs.length≤1048576):
 Calls Tryz.prog 158 #[.agg (aK p al cl plain pick r),.int .i64 a,.int .u64 x] w fun e w'=>(∃p',e=.returned (.agg (aK p' al cl plain pick (cZ r a x)))∧RunIn w' p' al cl (cZ r a x)∧From w.heap.size p p')∧Below w.heap.size w w':=by
 obtain ⟨n,rfl⟩:=Int.eq_ofNat_of_zero_le ha;have HI:Hid (RunIn w p al cl r):=hr;have HA:Hid (n<r.h.regs.length):=ha';have HR:Hid (RowC w p.ar r.h.regs.length 1 (fx r.h.regs)):=hr.h.regs;have HRa:Hid ((p.ar=none→r.h.regs.length=0∧p.cr=0)∧∀q,p.ar=some q→q.spot=none):=hr.h.rega;have HP:Hid (∀g cap rs,rs.length=r.h.regs.length→(aK p al cl plain pick r).setIfInBounds 1 (.slice (some ⟨g,0,none⟩) r.h.regs.length cap)=aK (uX p g cap) al cl plain pick (cF r (iD r.h rs))):=fun g cap rs hl=>by
  unfold aK uX cF iD;simp [hl]
 have HM:Hid (cZ r (n:Int) x=cF r (iD r.h (if 0<(n:Int) then r.h.regs.set n x else r.h.regs))):=rfl;have hsz:=bD p al cl plain pick r;have g1:(aK p al cl plain pick r)[1]?=some (.slice p.ar r.h.regs.length p.cr):=rfl;have HO:Hid ((aK p al cl plain pick r).all (·.oneCell')=true):=dU p al cl plain pick r;generalize hC:aK p al cl plain pick r=C at *;have hlen:=hl;generalize hN:r.h.regs.length=N at *;have hn:n<N:=HA.out;clear hr hC ha ha';go_enter Tryz.func158,Tryz.ntmps158;go_upto_region 1 with fail;have F:=eU w C ek 143 143;generalize (w.alloc (Obj.cells C 143)).alloc (Obj.cells ek 143)=v1 at F ⊢;obtain ⟨h3,h6,l1,n1⟩:=F;have H3:Hid _:=h3;have H6:Hid _:=h6;have b1:w.heap.size<v1.heap.size:=by omega
 have b2:w.heap.size+1<v1.heap.size:=by omega
 have c1:=ag h3 1 g1;have OE:=OwnC.new 23 1 v1 [] 0 rfl (by decide);have nE:=(Below.refl v1.heap.size v1).alloc (Nat.le_refl _) (Obj.cells #[] 23);clear h3 h6 l1;go_upto_region 2 with (at_builtin;refine iX _ rfl (.tmp 8) (.tmp 11) 46 rfl 23 Tryz.underlying46 (.int .u64 0) 1 8 Tryz.infoU rfl (by decide) v1.heap.size v1.heap.size 0 0 [] rfl OE p.ar N p.cr (fx r.h.regs) rfl HRa.out.1 HRa.out.2 (RowC.keep (RowC.keep HR.out n1) nE) (pL _) (by omega) (by omega) v1.heap.size v1 nE (Nat.le_refl _) ?_;intro g2 cap2 v2 o2 n2;clear OE nE c1);simp only [Nat.zero_add,List.nil_append] at o2 ⊢;have f2:=o2.facts;have K3:Hid _:=ab H3.out n2 b1;have K6:Hid _:=ab H6.out n2 b2;have n12:=Below.step n1 n2 (Nat.le_refl _);have z2:=n2.size;have hcap:(cap2:Int)≤9223372036854775807:=by have:=f2.2.2.2.2;unfold maxLen at this;omega
 have HM2:Hid (cap2≤9223372036854775807):=by have:=f2.2.2.2.2;unfold maxLen at this;exact this
 have hNc:N≤cap2:=f2.2.2.2.1;have hg1:v1.heap.size≤g2:=f2.2.1;have hg2:g2<v2.heap.size:=f2.2.2.1;clear f2 H3 H6 n1 n2 HR HRa;have b5:w.heap.size<v2.heap.size:=by omega
 have q1:=ag K3.out 1 g1;have q2:=aA K3.out 1;have ng:w.heap.size≠g2:=by omega
 have ng':g2≠w.heap.size:=by omega
 by_cases h0:0<n
 ·have h0':(0:Int)<(n:Int):=by omega
  have HM1:Hid (cZ r (n:Int) x=cF r (iD r.h (r.h.regs.set n x))):=by
   have hm:=HM.out;rw [if_pos h0'] at hm;exact hm
  have s1:=aI o2 n _ (uW r.h.regs n (by omega));have s2:=aP o2 n;have O3:Hid (OwnC 23 1 (v2.setCell ⟨g2,n,none⟩ (.int .u64 x)) v1.heap.size g2 N cap2 (fx (r.h.regs.set n x))):=by
   have:=aJ o2 n (.int .u64 x);rw [yr] at this;exact this
  have K3':Hid _:=dJ K3.out n (.int .u64 x) (show w.heap.size≠g2 by omega);have K6':Hid _:=dJ K6.out n (.int .u64 x) (show w.heap.size+1≠g2 by omega);have n3:=dC n12 (show w.heap.size≤g2 by omega) n (.int .u64 x);go_upto_region 4 with fail;generalize v2.setCell ⟨g2,n,none⟩ (.int .u64 x)=v3 at O3 K3' K6' n3 ⊢;clear q1 q2 s1 s2;have q1:=ag K3'.out 1 g1;have q2:=aA K3'.out 1;have b6:w.heap.size<v3.heap.size:=(Array.getElem?_eq_some_iff.1 K3'.out).1;go_upto_region 5 with fail;have K3q:Hid _:=da K3'.out 1 (.slice (some ⟨g2,0,none⟩) N cap2);have K6q:Hid _:=dJ K6'.out 1 (.slice (some ⟨g2,0,none⟩) N cap2) (show w.heap.size+1≠w.heap.size by omega);have n4:=dC n3 (Nat.le_refl _) 1 (.slice (some ⟨g2,0,none⟩) N cap2);have O4:Hid _:=OwnC.gb O3.out (ax (aE v3 (some w.heap.size)) 1 (.slice (some ⟨g2,0,none⟩) N cap2)) ng';have HV:Hid _:=HP.out g2 cap2 (r.h.regs.set n x) (by simp [hN]);have hV:(C.setIfInBounds 1 (.slice (some ⟨g2,0,none⟩) N cap2)).size=31:=by simp only [Array.size_setIfInBounds,hsz]
  generalize v3.setCell ⟨w.heap.size,1,none⟩ (.slice (some ⟨g2,0,none⟩) N cap2)=v4 at K3q K6q n4 O4 ⊢;have hone:=mJ HO.out 1 (v:=.slice (some ⟨g2,0,none⟩) N cap2) rfl;generalize C.setIfInBounds 1 (.slice (some ⟨g2,0,none⟩) N cap2)=D at K3q HV hV hone;have HLr:Hid _:=aB (P:=Tryz.prog) (T:=143) K3q.out Tryz.underlying143 rfl (by rw [hV];exact du);have HSr:Hid _:=bO (P:=Tryz.prog) (T:=143) (V:=D) K6q.out (by rw [hV];exact du) (by rw [hV,a8]) hone;have e1:=bs (V:=D) K6q.out (by rw [hV,a8]);have e2:=bf (show w.heap.size≤w.heap.size+1 by omega) (D).toList 0 _ n4;have eG:=aU (w.heap.size+1) (D).toList 0 v4 v4 (aE v4 _);go_wp2_with (first
   | ((with_reducible refine az ?_ HLr.out ?_);(exact rfl))
   | ((with_reducible refine au ?_ ?_ HSr.out ?_);(exact rfl);(exact rfl)))
  refine ec (b:=w.heap.size+1) Tryz.results158 rfl (bj (P:=Tryz.prog) e1 Tryz.underlying143 rfl (by rw [hV];exact du)) rfl ?_;rw [HM1.out];exact ⟨⟨uX p g2 cap2,by rw [HV.out],RunIn.reg (rs:=r.h.regs.set n x) HI.out e2 (by rw [List.length_set,hN];exact (OwnC.gb O4.out eG (by omega)).row) (by rw [List.length_set,hN];exact ⟨hNc,HM2.out⟩) (OwnC.facts (OwnC.gb O4.out eG (show g2≠w.heap.size+1 by omega))).2.2.1,th (by omega)⟩,e2⟩
 ·have h0':¬(0:Int)<(n:Int):=by omega
  have hn0:n=0:=by omega
  have HM1:Hid (cZ r (n:Int) x=cF r (iD r.h r.h.regs)):=by
   have hm:=HM.out;rw [if_neg h0'] at hm;exact hm
  clear hn0;have O2:Hid _:=o2;clear o2;go_upto_region 5 with fail;have K3q:Hid _:=da K3.out 1 (.slice (some ⟨g2,0,none⟩) N cap2);have K6q:Hid _:=dJ K6.out 1 (.slice (some ⟨g2,0,none⟩) N cap2) (show w.heap.size+1≠w.heap.size by omega);have n4:=dC n12 (Nat.le_refl _) 1 (.slice (some ⟨g2,0,none⟩) N cap2);have O4:Hid _:=OwnC.gb O2.out (ax (aE v2 (some w.heap.size)) 1 (.slice (some ⟨g2,0,none⟩) N cap2)) ng';have HV:Hid _:=HP.out g2 cap2 r.h.regs hN;have hV:(C.setIfInBounds 1 (.slice (some ⟨g2,0,none⟩) N cap2)).size=31:=by simp only [Array.size_setIfInBounds,hsz]
  generalize v2.setCell ⟨w.heap.size,1,none⟩ (.slice (some ⟨g2,0,none⟩) N cap2)=v4 at K3q K6q n4 O4 ⊢;have hone:=mJ HO.out 1 (v:=.slice (some ⟨g2,0,none⟩) N cap2) rfl;generalize C.setIfInBounds 1 (.slice (some ⟨g2,0,none⟩) N cap2)=D at K3q HV hV hone;have HLr:Hid _:=aB (P:=Tryz.prog) (T:=143) K3q.out Tryz.underlying143 rfl (by rw [hV];exact du);have HSr:Hid _:=bO (P:=Tryz.prog) (T:=143) (V:=D) K6q.out (by rw [hV];exact du) (by rw [hV,a8]) hone;have e1:=bs (V:=D) K6q.out (by rw [hV,a8]);have e2:=bf (show w.heap.size≤w.heap.size+1 by omega) (D).toList 0 _ n4;have eG:=aU (w.heap.size+1) (D).toList 0 v4 v4 (aE v4 _);go_wp2_with (first
   | ((with_reducible refine az ?_ HLr.out ?_);(exact rfl))
   | ((with_reducible refine au ?_ ?_ HSr.out ?_);(exact rfl);(exact rfl)))
  refine ec (b:=w.heap.size+1) Tryz.results158 rfl (bj (P:=Tryz.prog) e1 Tryz.underlying143 rfl (by rw [hV];exact du)) rfl ?_;rw [HM1.out];exact ⟨⟨uX p g2 cap2,by rw [HV.out],RunIn.reg (rs:=r.h.regs) HI.out e2 (by rw [hN];exact (OwnC.gb O4.out eG (by omega)).row) (by rw [hN];exact ⟨hNc,HM2.out⟩) (OwnC.facts (OwnC.gb O4.out eG (show g2≠w.heap.size+1 by omega))).2.2.1,th (by omega)⟩,e2⟩
end Go.Proofs.YtaoaifmkhbgaiaaGreat

namespace Go.Proofs.YtaoaifmkhbgaiaaGreat
open Go.RowKit
set_option linter.unusedVariables false
def ig (zs:List Int):List Value:=zs.map (Value.int .u8)
theorem uJ (zs:List Int):∀u∈ig zs,u.oneCell'=true:=xj zs
theorem Byt.rowC {w:World} {a:Option Addr} {len:Nat} {zs:List Int} (h:Byt w a len zs):RowC w a len 1 (ig zs):=by
 obtain ⟨h1,h2,h3⟩:=h;refine ⟨by simp [ig,h1],?_⟩;rcases h3 with h3 | ⟨b,off,rfl,hb,hc⟩
 ·exact .inl h3
 ·refine .inr ⟨b,off,rfl,hb,fun i v hv=>?_⟩;have hi:i<len:=by
   have:=(List.getElem?_eq_some_iff.1 hv).1;simpa [ig,h1] using this
  rw [hc i hi];simp only [ig,List.getElem?_map] at hv;cases hz:zs[i]? with
  | none=>simp [hz] at hv
  | some z=>simpa [hz] using hv
theorem Byt.addr {w:World} {a:Option Addr} {len:Nat} {zs:List Int} (h:Byt w a len zs) (hl:0<len):(a=none→len=0)∧∀q,a=some q→q.spot=none:=by
 rcases h.2.2 with h3 | ⟨b,off,rfl,hb,hc⟩
 ·omega
 ·exact ⟨fun h=>(by cases h),fun q hq=>by cases hq;rfl⟩
def sH (p:PtrM) (gm cm gr cr:Nat):PtrM:=⟨some ⟨gm,0,none⟩,cm,some ⟨gr,0,none⟩,cr,p.a1,p.c1,p.a2,p.c2,p.a3,p.c3⟩
def pK (p:PtrM) (a1:Option Addr) (c1:Nat) (a2:Option Addr) (c2:Nat) (a3:Option Addr) (c3:Nat):PtrM:=⟨p.am,p.cm,p.ar,p.cr,a1,c1,a2,c2,a3,c3⟩
theorem KOwn.gb {base r:Nat} {w w':World} {v:Value} {k:KM} (h:KOwn base w v k) (hg:w.grownBy w' (some r)) (hr:r<base):KOwn base w' v k:=by
 obtain ⟨g1,c1,g2,c2,g3,c3,rfl,o1,o2,o3⟩:=h;exact ⟨g1,c1,g2,c2,g3,c3,rfl,bZ o1 hg hr,bZ o2 hg hr,bZ o3 hg hr⟩
theorem KOwn.open {base:Nat} {w:World} {v:Value} {k:KM} (h:KOwn base w v k):∃a1 c1 a2 c2 a3 c3,∀p,v=.agg (kA (pK p a1 c1 a2 c2 a3 c3) k):=by
 obtain ⟨g1,c1,g2,c2,g3,c3,rfl,o1,o2,o3⟩:=h;exact ⟨some ⟨g1,0,none⟩,c1,some ⟨g2,0,none⟩,c2,some ⟨g3,0,none⟩,c3,fun p=>rfl⟩
def KRows (base:Nat) (w:World) (q:PtrM) (k:KM):Prop:=
 w.ownsRow base 62 6 (.slice q.a1 k.i.es.length q.c1) k.i.es.length (aL k.i.es)∧w.ownsRow base 62 6 (.slice q.a2 k.d.es.length q.c2) k.d.es.length (aL k.d.es)∧w.ownsRow base 62 6 (.slice q.a3 k.p.es.length q.c3) k.p.es.length (aL k.p.es)
theorem KRows.gb {base r:Nat} {w w':World} {q:PtrM} {k:KM} (h:KRows base w q k) (hg:w.grownBy w' (some r)) (hr:r<base):KRows base w' q k:=
 ⟨bZ h.1 hg hr,bZ h.2.1 hg hr,bZ h.2.2 hg hr⟩
theorem KRows.set {base pb:Nat} {w w':World} {q:PtrM} {k:KM} {cur:Array Value} {T:TypeId} {f:Nat × Nat} (h:KRows base w q k) (hp:w.heap[pb]?=some (.cells cur T f)) (hT:T≠62) (hg:w.grownBy w' (some pb)):KRows base w' q k:=
 ⟨bT h.1 hp hT hg,bT h.2.1 hp hT hg,bT h.2.2 hp hT hg⟩
theorem KRows.keep {base:Nat} {w w':World} {q:PtrM} {k:KM} (h:KRows base w q k) (hb:Below w.heap.size w w'):KRows base w' q k:=
 ⟨aj h.1 hb,aj h.2.1 hb,aj h.2.2 hb⟩
theorem cw {base:Nat} {w:World} {t:TlbM} {a:Option Addr} {c:Nat} (ho:w.ownsRow base 62 6 (.slice a t.es.length c) t.es.length (aL t.es)) (hk:ex t):TlbAt w (.agg #[.int .i64 t.sets,.int .i64 t.ways,.slice a t.es.length c]) t:=by
 have hr:=en ho;rcases ho.2 with ⟨h2,h3⟩ | ⟨g',cap',cur,h2,hb,hg,hc1,hc2,_⟩
 ·simp only [Value.slice.injEq] at h2;obtain ⟨rfl,h4,rfl⟩:=h2;exact ⟨none,0,rfl,hr,hk.1,hk.2.1,hk.2.2.1,hk.2.2.2,by omega,by omega,fun _=>⟨h4,rfl⟩,fun q hq=>(by cases hq)⟩
 ·simp only [Value.slice.injEq] at h2;obtain ⟨rfl,_,rfl⟩:=h2;exact ⟨some ⟨g',0,none⟩,_,rfl,hr,hk.1,hk.2.1,hk.2.2.1,hk.2.2.2,hc1,by unfold maxLen at hc2;omega,(by intro h;cases h),(by intro q hq;cases hq;rfl)⟩
theorem KRows.at {base:Nat} {w:World} {q:PtrM} {k:KM} (h:KRows base w q k) (hk:kOk k):KAt w (.agg (kA q k)) k:=
 ⟨_,_,_,_,_,_,rfl,cw h.1 hk.1,cw h.2.1 hk.2.1,cw h.2.2 hk.2.2⟩
theorem gj {base size n c:Nat} {e:TypeId} {w:World} {a:Option Addr} {cs:List Value} (h:w.ownsRow base e size (.slice a n c) n cs) (q:Addr) (hq:a=some q):base≤q.block∧q.block<w.heap.size:=by
 subst hq;exact (bI h).2
theorem KRows.ptrs {base:Nat} {w:World} {p:PtrM} {k:KM} (h:KRows base w p k) (q:Addr) (hq:p.a1=some q∨p.a2=some q∨p.a3=some q):base≤q.block∧q.block<w.heap.size:=by
 rcases hq with hq | hq | hq
 ·exact gj h.1 q hq
 ·exact gj h.2.1 q hq
 ·exact gj h.2.2 q hq
theorem xD {B:Nat} {p:PtrM} {a1 a2 a3:Option Addr} {c1 c2 c3:Nat} (h:∀q,(a1=some q∨a2=some q∨a3=some q)→B≤q.block):From B p (pK p a1 c1 a2 c2 a3 c3):=fun q hq=>by
 simp only [aQ,pK,List.mem_cons,List.not_mem_nil,or_false] at hq;rcases hq with hq | hq | hq | hq | hq
 ·exact .inl (by simp [aQ,hq])
 ·exact .inl (by simp [aQ,hq])
 ·exact .inr (h q (.inl hq.symm))
 ·exact .inr (h q (.inr (.inl hq.symm)))
 ·exact .inr (h q (.inr (.inr hq.symm)))
theorem AJ {B:Nat} {p:PtrM} {a1 a2 a3:Option Addr} {c1 c2 c3:Nat} (hp:∀q,some q∈aQ p→q.block<B) (h:∀q,(a1=some q∨a2=some q∨a3=some q)→q.block<B):∀q,some q∈aQ (pK p a1 c1 a2 c2 a3 c3)→q.block<B:=fun q hq=>by
 simp only [aQ,pK,List.mem_cons,List.not_mem_nil,or_false] at hq;rcases hq with hq | hq | hq | hq | hq
 ·exact hp q (by simp [aQ,hq])
 ·exact hp q (by simp [aQ,hq])
 ·exact h q (.inl hq.symm)
 ·exact h q (.inr (.inl hq.symm))
 ·exact h q (.inr (.inr hq.symm))
theorem KOwn.rows {base:Nat} {w:World} {v:Value} {k:KM} (h:KOwn base w v k):∃a1 c1 a2 c2 a3 c3,∀p,v=.agg (kA (pK p a1 c1 a2 c2 a3 c3) k)∧KRows base w (pK p a1 c1 a2 c2 a3 c3) k:=by
 obtain ⟨g1,c1,g2,c2,g3,c3,rfl,o1,o2,o3⟩:=h;exact ⟨some ⟨g1,0,none⟩,c1,some ⟨g2,0,none⟩,c2,some ⟨g3,0,none⟩,c3,fun p=>⟨rfl,o1,o2,o3⟩⟩
theorem KAt.ok {w:World} {v:Value} {k:KM} (h:KAt w v k):kOk k:=by
 obtain ⟨a1,c1,a2,c2,a3,c3,rfl,h1,h2,h3⟩:=h;exact ⟨h1.ok,h2.ok,h3.ok⟩
theorem sX (p q:PtrM) (h:HartM) (k:KM):jF (aD p h) 12 (kA q k).toList=aD (pK p q.a1 q.c1 q.a2 q.c2 q.a3 q.c3) (eN h k):=by
 simp [jF,aD,kA,pK,eN]
theorem uK (p:PtrM) (k:KM):(kA p k).all (·.oneCell')=true:=by
 simp [kA,Value.oneCell']
theorem kI:(Tryz.prog.info? 30).map (·.size)=some 9:=by kernel_rfl
set_option maxRecDepth 20000 in
set_option maxHeartbeats 1600000 in
theorem wJ (p:PtrM) (h:HartM) (w:World) (hi:HartIn w p h) (hm0:0<h.mem.length) (hm1:h.mem.length≤1048576) (hr1:h.regs.length≤1048576):
 Calls Tryz.prog 123 #[.agg (aD p h)] w fun e w'=>(∃p',e=.returned (.agg (aD p' h))∧HartIn w' p' h∧∀q,some q∈aQ p'→w.heap.size≤q.block)∧Below w.heap.size w w':=by
 have HI:Hid (HartIn w p h):=hi;have HB:Hid (RowC w p.am h.mem.length 1 (ig h.mem)):=hi.mem.rowC;have HBa:Hid ((p.am=none→h.mem.length=0∧p.cm=0)∧∀q,p.am=some q→q.spot=none):=⟨fun hh=>absurd ((hi.mem.addr hm0).1 hh) (by omega),(hi.mem.addr hm0).2⟩;have HR:Hid (RowC w p.ar h.regs.length 1 (fx h.regs)):=hi.regs;have HRa:Hid ((p.ar=none→h.regs.length=0∧p.cr=0)∧∀q,p.ar=some q→q.spot=none):=hi.rega;have HK:Hid (KAt w (.agg (kA p h.k)) h.k):=hi.ks;have HZ:Hid (gn h.mem):=hi.mem.2.1;have HP:Hid (∀gm cm gr cr,((aD p h).setIfInBounds 0 (.slice (some ⟨gm,0,none⟩) h.mem.length cm)).setIfInBounds 1 (.slice (some ⟨gr,0,none⟩) h.regs.length cr)=aD (sH p gm cm gr cr) h):=fun gm cm gr cr=>rfl;have hsz:=ez p h;have g0:(aD p h)[0]?=some (.slice p.am h.mem.length p.cm):=rfl;have g1:(aD p h)[1]?=some (.slice p.ar h.regs.length p.cr):=rfl;have HO:Hid ((aD p h).all (·.oneCell')=true):=fD p h;have HKp:Hid (∀x y,((((aD p h).setIfInBounds 0 x).setIfInBounds 1 y).toList.drop 12).take 9=(kA p h.k).toList):=fun x y=>by simp [aD,kA]
 generalize aD p h=C at *;obtain ⟨M,hM⟩:∃M,h.mem.length=M:=⟨_,rfl⟩;obtain ⟨N,hN⟩:∃N,h.regs.length=N:=⟨_,rfl⟩;rw [hM] at HB HBa g0 hm0 hm1 HP;rw [hN] at HR HRa g1 hr1 HP;have HM:Hid (h.mem.length=M):=hM;have HN:Hid (h.regs.length=N):=hN;clear hi hM hN;go_enter Tryz.func123,Tryz.ntmps123;go_upto_region 1 with fail;have F:=eU w C fu 48 48;generalize (w.alloc (Obj.cells C 48)).alloc (Obj.cells fu 48)=v1 at F ⊢;obtain ⟨h3,h6,l1,n1⟩:=F;have H3:Hid _:=h3;have H6:Hid _:=h6;have b1:w.heap.size<v1.heap.size:=by omega
 have b2:w.heap.size+1<v1.heap.size:=by omega
 have c0:=ag h3 0 g0;have OE:=OwnC.new 5 1 v1 [] 0 rfl (by decide);have nE:=(Below.refl v1.heap.size v1).alloc (Nat.le_refl _) (Obj.cells #[] 5);clear h3 h6 l1;go_upto_region 2 with (at_builtin;refine iX _ rfl (.tmp 3) (.tmp 5) 22 rfl 5 Tryz.underlying22 (.int .u8 0) 1 1 Tryz.infoB rfl (by decide) v1.heap.size v1.heap.size 0 0 [] rfl OE p.am M p.cm (ig h.mem) rfl HBa.out.1 HBa.out.2 (RowC.keep (RowC.keep HB.out n1) nE) (uJ _) (by omega) (by omega) v1.heap.size v1 nE (Nat.le_refl _) ?_;intro g2 cap2 v2 o2 n2;have c0:=ag (ab H3.out n2 b1) 0 g0;have f0:=aA (ab H3.out n2 b1) 0;have b3:=Nat.lt_of_lt_of_le b1 n2.size;clear OE nE);simp only [Nat.zero_add,List.nil_append] at o2 ⊢;have f2:=o2.facts;have hg1:v1.heap.size≤g2:=f2.2.1;have hg2:g2<v2.heap.size:=f2.2.2.1;have HC2:Hid (M≤cap2∧cap2≤9223372036854775807):=⟨f2.2.2.2.1,by have:=f2.2.2.2.2;unfold maxLen at this;exact this⟩;have ng':g2≠w.heap.size:=by omega
 have n12:=dC (Below.step n1 n2 (Nat.le_refl _)) (Nat.le_refl _) 0 (.slice (some ⟨g2,0,none⟩) M cap2);have K3:Hid _:=da (ab H3.out n2 b1) 0 (.slice (some ⟨g2,0,none⟩) M cap2);have K6:Hid _:=dJ (ab H6.out n2 b2) 0 (.slice (some ⟨g2,0,none⟩) M cap2) (show w.heap.size+1≠w.heap.size by omega);have O2:Hid _:=OwnC.gb o2 (ax (aE v2 (some w.heap.size)) 0 (.slice (some ⟨g2,0,none⟩) M cap2)) ng';have z2:v1.heap.size≤(v2.setCell ⟨w.heap.size,0,none⟩ (.slice (some ⟨g2,0,none⟩) M cap2)).heap.size:=by simp;exact n2.size
 have hg2':g2<(v2.setCell ⟨w.heap.size,0,none⟩ (.slice (some ⟨g2,0,none⟩) M cap2)).heap.size:=by simp;exact hg2
 generalize v2.setCell ⟨w.heap.size,0,none⟩ (.slice (some ⟨g2,0,none⟩) M cap2)=v3 at n12 K3 K6 O2 z2 hg2' ⊢;clear o2 f2 n2 H3 H6 c0 n1 hg2 HB HBa;have g1':(C.setIfInBounds 0 (.slice (some ⟨g2,0,none⟩) M cap2))[1]?=some (.slice p.ar N p.cr):=by
  rw [Array.getElem?_setIfInBounds_ne (by omega)];exact g1
 have c1:=ag K3.out 1 g1';have b4:w.heap.size<v3.heap.size:=by omega
 have b5:w.heap.size+1<v3.heap.size:=by omega
 have OE:=OwnC.new 23 1 v3 [] 0 rfl (by decide);have nE:=(Below.refl v3.heap.size v3).alloc (Nat.le_refl _) (Obj.cells #[] 23);go_upto_region 3 with (at_builtin;refine iX _ rfl (.tmp 8) (.tmp 10) 46 rfl 23 Tryz.underlying46 (.int .u64 0) 1 8 Tryz.infoU rfl (by decide) v3.heap.size v3.heap.size 0 0 [] rfl OE p.ar N p.cr (fx h.regs) rfl HRa.out.1 HRa.out.2 (RowC.keep (RowC.keep HR.out n12) nE) (pL _) (by omega) (by omega) v3.heap.size v3 nE (Nat.le_refl _) ?_;intro g4 cap4 v4 o4 n4;have c1:=ag (ab K3.out n4 b4) 1 g1';have f1:=aA (ab K3.out n4 b4) 1;have b6:=Nat.lt_of_lt_of_le b4 n4.size;clear OE nE);simp only [Nat.zero_add,List.nil_append] at o4 ⊢;have f4:=o4.facts;have hh1:v3.heap.size≤g4:=f4.2.1;have hh2:g4<v4.heap.size:=f4.2.2.1;have HC4:Hid (N≤cap4∧cap4≤9223372036854775807):=⟨f4.2.2.2.1,by have:=f4.2.2.2.2;unfold maxLen at this;exact this⟩;have nh':g4≠w.heap.size:=by omega
 have n14:=dC (Below.step n12 n4 (Nat.le_refl _)) (Nat.le_refl _) 1 (.slice (some ⟨g4,0,none⟩) N cap4);have J3:Hid _:=da (ab K3.out n4 b4) 1 (.slice (some ⟨g4,0,none⟩) N cap4);have J6:Hid _:=dJ (ab K6.out n4 b5) 1 (.slice (some ⟨g4,0,none⟩) N cap4) (show w.heap.size+1≠w.heap.size by omega);have O4:Hid _:=OwnC.gb o4 (ax (aE v4 (some w.heap.size)) 1 (.slice (some ⟨g4,0,none⟩) N cap4)) nh';have O5:Hid _:=OwnC.gb (OwnC.keep O2.out n4 hg2') (ax (aE v4 (some w.heap.size)) 1 (.slice (some ⟨g4,0,none⟩) N cap4)) ng';have z4:v3.heap.size≤(v4.setCell ⟨w.heap.size,1,none⟩ (.slice (some ⟨g4,0,none⟩) N cap4)).heap.size:=by simp;exact n4.size
 have hh2':g4<(v4.setCell ⟨w.heap.size,1,none⟩ (.slice (some ⟨g4,0,none⟩) N cap4)).heap.size:=by simp;exact hh2
 generalize v4.setCell ⟨w.heap.size,1,none⟩ (.slice (some ⟨g4,0,none⟩) N cap4)=v5 at n14 J3 J6 O4 O5 z4 hh2' ⊢;clear o4 f4 n4 K3 K6 c1 hh2 HR HRa O2 n12;have hsz2:((C.setIfInBounds 0 (.slice (some ⟨g2,0,none⟩) M cap2)).setIfInBounds 1 (.slice (some ⟨g4,0,none⟩) N cap4)).size=21:=by simp only [Array.size_setIfInBounds,hsz]
 have HE:Hid _:=HP.out g2 cap2 g4 cap4;have HLk:Hid _:=co (P:=Tryz.prog) (T:=30) J3.out Tryz.underlying30 rfl (o:=12) (kA p h.k).toList kI (HKp.out _ _) rfl;have HKc:Hid (∀u,Below w.heap.size w u→Calls Tryz.prog 39 #[.agg (kA p h.k)] u fun e w'=>(∃x,e=.returned x∧KOwn u.heap.size w' x h.k)∧Below u.heap.size u w'):=fun u hu=>gY _ _ u (HK.out.keep hu);rw [show (kA p h.k).toList.toArray=kA p h.k from rfl] at HLk;generalize ((C.setIfInBounds 0 (.slice (some ⟨g2,0,none⟩) M cap2)).setIfInBounds 1 (.slice (some ⟨g4,0,none⟩) N cap4))=D at J3 hsz2 HE HLk;have b7:w.heap.size<v5.heap.size:=by omega
 have b8:w.heap.size+1<v5.heap.size:=by omega
 have HKK:Hid (kOk h.k):=HK.out.ok;generalize kA p h.k=E at *;go_wp2_with (first | ((with_reducible refine az ?_ HLk.out ?_);(exact rfl)));refine (HKc.out v5 n14).mono ?_;rintro e v6 ⟨⟨x,rfl,hx⟩,n6⟩;obtain ⟨a1,c1,a2,c2,a3,c3,hxe⟩:=hx.rows;have hx0:=(hxe p).1;subst hx0;have HX:Hid (KRows v5.heap.size v6 (pK p a1 c1 a2 c2 a3 c3) h.k):=(hxe p).2;clear hxe hx;have I3:Hid _:=ab J3.out n6 b7;have I6:Hid _:=ab J6.out n6 b8;have n16:=Below.step n14 n6 (Nat.le_refl _);have O6:Hid _:=OwnC.keep O4.out n6 hh2';have O7:Hid _:=OwnC.keep O5.out n6 (by omega);have hEs:(kA (pK p a1 c1 a2 c2 a3 c3) h.k).size=9:=rfl;have HSk:Hid _:=fe (P:=Tryz.prog) (T:=30) I3.out (o:=12) (V:=kA (pK p a1 c1 a2 c2 a3 c3) h.k) (by rw [hEs];exact kI) (by rw [hEs,hsz2];omega) (uK _ _);have e1:=dr w.heap.size (kA (pK p a1 c1 a2 c2 a3 c3) h.k).toList 12 v6 D _ _ I3.out (by rw [hsz2];show 12+9≤21;omega);rw [HE.out,sX] at e1;have L3:Hid _:=e1;have L6:Hid _:=ia I6.out 12 (kA (pK p a1 c1 a2 c2 a3 c3) h.k).toList (show w.heap.size+1≠w.heap.size by omega);have n17:=bf (Nat.le_refl w.heap.size) (kA (pK p a1 c1 a2 c2 a3 c3) h.k).toList 12 v6 n16;have gG:=aU w.heap.size (kA (pK p a1 c1 a2 c2 a3 c3) h.k).toList 12 v6 v6 (aE v6 _);have O8:Hid _:=OwnC.gb O6.out gG nh';have O9:Hid _:=OwnC.gb O7.out gG ng';have HX2:Hid (KRows v5.heap.size (v6.setCells w.heap.size 12 (kA (pK p a1 c1 a2 c2 a3 c3) h.k).toList) (pK p a1 c1 a2 c2 a3 c3) h.k):=KRows.gb HX.out gG b7;have hDD:(aD (pK (sH p g2 cap2 g4 cap4) (pK p a1 c1 a2 c2 a3 c3).a1 (pK p a1 c1 a2 c2 a3 c3).c1 (pK p a1 c1 a2 c2 a3 c3).a2 (pK p a1 c1 a2 c2 a3 c3).c2 (pK p a1 c1 a2 c2 a3 c3).a3 (pK p a1 c1 a2 c2 a3 c3).c3) (eN h h.k)).size=21:=rfl;have hone:=fD (pK (sH p g2 cap2 g4 cap4) (pK p a1 c1 a2 c2 a3 c3).a1 (pK p a1 c1 a2 c2 a3 c3).c1 (pK p a1 c1 a2 c2 a3 c3).a2 (pK p a1 c1 a2 c2 a3 c3).c2 (pK p a1 c1 a2 c2 a3 c3).a3 (pK p a1 c1 a2 c2 a3 c3).c3) (eN h h.k);have HFin:Hid (aD (pK (sH p g2 cap2 g4 cap4) (pK p a1 c1 a2 c2 a3 c3).a1 (pK p a1 c1 a2 c2 a3 c3).c1 (pK p a1 c1 a2 c2 a3 c3).a2 (pK p a1 c1 a2 c2 a3 c3).c2 (pK p a1 c1 a2 c2 a3 c3).a3 (pK p a1 c1 a2 c2 a3 c3).c3) (eN h h.k)=aD (pK (sH p g2 cap2 g4 cap4) a1 c1 a2 c2 a3 c3) h):=rfl;generalize aD (pK (sH p g2 cap2 g4 cap4) (pK p a1 c1 a2 c2 a3 c3).a1 (pK p a1 c1 a2 c2 a3 c3).c1 (pK p a1 c1 a2 c2 a3 c3).a2 (pK p a1 c1 a2 c2 a3 c3).c2 (pK p a1 c1 a2 c2 a3 c3).a3 (pK p a1 c1 a2 c2 a3 c3).c3) (eN h h.k)=G at L3 hDD hone HFin;generalize kA (pK p a1 c1 a2 c2 a3 c3) h.k=E2 at *;go_upto_region 4 with (first | ((with_reducible refine au ?_ ?_ HSk.out ?_);(exact rfl);(exact rfl)));generalize v6.setCells w.heap.size 12 E2.toList=v7 at L3 L6 n17 O8 O9 HX2 ⊢;have HLr:Hid _:=aB (P:=Tryz.prog) (T:=48) L3.out Tryz.underlying48 rfl (by rw [hDD];exact fW);have HSr:Hid _:=bO (P:=Tryz.prog) (T:=48) (V:=G) L6.out (by rw [hDD];exact fW) (by rw [hDD,fE]) hone;have e1:=bs (V:=G) L6.out (by rw [hDD,fE]);have e2:=bf (show w.heap.size≤w.heap.size+1 by omega) (G).toList 0 _ n17;have eG:=aU (w.heap.size+1) (G).toList 0 v7 v7 (aE v7 _);go_wp2_with (first
  | ((with_reducible refine az ?_ HLr.out ?_);(exact rfl))
  | ((with_reducible refine au ?_ ?_ HSr.out ?_);(exact rfl);(exact rfl)))
 refine ec (b:=w.heap.size+1) Tryz.results123 rfl (bj (P:=Tryz.prog) e1 Tryz.underlying48 rfl (by rw [hDD];exact fW)) rfl ?_;have OA:=OwnC.gb O8.out eG (show g4≠w.heap.size+1 by omega);have OB:=OwnC.gb O9.out eG (show g2≠w.heap.size+1 by omega);have hX3:=KRows.gb HX2.out eG b8;have hks:=KRows.ptrs hX3;simp only [pK] at hks;refine ⟨⟨pK (sH p g2 cap2 g4 cap4) a1 c1 a2 c2 a3 c3,by rw [HFin.out],?_,?_⟩,e2⟩
 rotate_left 1
 ·intro q hq;simp only [aQ,pK,sH,List.mem_cons,List.not_mem_nil,or_false] at hq;rcases hq with hq | hq | hq | hq | hq
  ·cases hq;show w.heap.size≤g2;omega
  ·cases hq;show w.heap.size≤g4;omega
  ·have:=(hks q (.inl hq.symm)).1;omega
  ·have:=(hks q (.inr (.inl hq.symm))).1;omega
  ·have:=(hks q (.inr (.inr hq.symm))).1;omega
 refine ⟨?_,?_,?_,?_,⟨fun hh=>(by cases hh),fun q hq=>by cases hq;rfl⟩,?_,?_⟩
 ·have:=OwnB.byt (e:=5) (zs:=h.mem) OB HZ.out;rw [HM.out];exact this
 ·rw [HM.out];exact HC2.out
 ·rw [HN.out];exact OA.row
 ·rw [HN.out];exact HC4.out
 ·exact KRows.at (q:=pK (sH p g2 cap2 g4 cap4) a1 c1 a2 c2 a3 c3) hX3 HKK.out
 ·intro q hq;simp only [aQ,pK,sH,List.mem_cons,List.not_mem_nil,or_false] at hq;rcases hq with hq | hq | hq | hq | hq
  ·cases hq;exact (OwnC.facts OB).2.2.1
  ·cases hq;exact (OwnC.facts OA).2.2.1
  ·exact (hks q (.inl hq.symm)).2
  ·exact (hks q (.inr (.inl hq.symm))).2
  ·exact (hks q (.inr (.inr hq.symm))).2
end Go.Proofs.YtaoaifmkhbgaiaaGreat
