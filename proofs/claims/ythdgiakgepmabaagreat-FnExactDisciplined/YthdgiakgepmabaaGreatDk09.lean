import Derived.Test.YthdgiakgepmabaaGreatDk08
namespace Go.Proofs.YthdgiakgepmabaaGreat
open Go.RowKit
set_option linter.unusedVariables false
set_option maxHeartbeats 6400000
set_option maxRecDepth 20000
theorem Tryz.infoU:(Tryz.prog.info? 33).map (fun i=>(i.zero,i.size,i.bytes))=some (some (VU 0),1,8):=by kernel_rfl
theorem pQ (zs:List Int):∀u∈cW zs,u.oneCell'=true:=by
 intro u hu;obtain ⟨_,_,rfl⟩:=List.mem_map.1 hu;rfl
theorem uc (zs:List Int) (i:Nat) (x:Int):(cW zs).set i (VU x)=cW (zs.set i x):=by simp [cW,List.map_set]
theorem rX (zs:List Int) (i:Nat) (h:i<zs.length):(cW zs)[i]?=some (VU (zs[i]?.getD 0)):=by
 simp [cW,h]
def xt (p:PtrM) (g cap:Nat):PtrM:=⟨p.am,p.cm,some (AD g 0),cap,p.a1,p.c1,p.a2,p.c2,p.a3,p.c3⟩
theorem RunIn.reg {w w':World} {p:PtrM} {al:Option Addr} {cl:Nat} {r:RunM} {rs:List Int} {g cap:Nat} (k:RunIn w p al cl r) (hb:Bw w w') (hr:RowC w' (some (AD g 0)) rs.length 1 (cW rs)) (hc:rs.length<=cap∧cap<=9223372036854775807) (hlt:g<w'.heap.size):
 RunIn w' (xt p g cap) al cl (bA r (eH r.h rs)):=
 ⟨⟨k.h.mem.keep hb,k.h.memc,hr,hc,⟨fun h=>(by cases h),fun q hq=>by cases hq;rfl⟩,k.h.ks.keep hb,fun q hq=>by
  simp only [be,xt,List.mem_cons,List.not_mem_nil,or_false] at hq;have hl:=fun q hq=>ltl (k.h.low q hq) hb.size;rcases hq with hq | hq | hq | hq | hq
  ·exact hl q (by simp [be,hq])
  ·cases hq;exact hlt
  ·exact hl q (by simp [be,hq])
  ·exact hl q (by simp [be,hq])
  ·exact hl q (by simp [be,hq])⟩,k.looks.keep hb,k.lookc,k.looka,k.lookl,fun q hq=>ltl (k.low q hq) hb.size⟩
theorem ud {B g cap:Nat} {p:PtrM} (h:B<=g):From B p (xt p g cap):=fun q hq=>by
 simp only [be,xt,List.mem_cons,List.not_mem_nil,or_false] at hq;rcases hq with hq | hq | hq | hq | hq
 ·exact .inl (by simp [be,hq])
 ·cases hq;exact .inr h
 ·exact .inl (by simp [be,hq])
 ·exact .inl (by simp [be,hq])
 ·exact .inl (by simp [be,hq])
theorem iX (p:PtrM) (al:Option Addr) (cl:Nat) (plain:Bool) (pick:Int) (r:RunM) (a x:Int) (w:World) (hr:RunIn w p al cl r) (ha:0<=a) (ha':a.toNat<r.h.regs.length) (hl:r.h.regs.length<=1048576):
 Calls Tryz.prog 94 #[.agg (aG p al cl plain pick r),VI a,VU x] w fun e w'=>(∃p',e=.returned (.agg (aG p' al cl plain pick (bW r a x)))∧RunIn w' p' al cl (bW r a x)∧From w.heap.size p p')∧Bw w w':=by
 obtain ⟨n,rfl⟩:=Int.eq_ofNat_of_zero_le ha;have HI:=hid hr;have HA:=hid ha';have HR:=hid hr.h.regs;have HRa:=hid hr.h.rega;have HP:Hid (∀g cap rs,rs.length=r.h.regs.length->(aG p al cl plain pick r).setIfInBounds 1 (SL g r.h.regs.length cap)=aG (xt p g cap) al cl plain pick (bA r (eH r.h rs))):=fun g cap rs hl=>by
  unfold aG xt bA eH;simp [hl]
 have HM:Hid (bW r (n:Int) x=bA r (eH r.h (if 0<(n:Int) then r.h.regs.set n x else r.h.regs))):=rfl;have hsz:=bP p al cl plain pick r;have g1:(aG p al cl plain pick r)[1]?=some (.slice p.ar r.h.regs.length p.cr):=rfl;have HO:=hid (dM p al cl plain pick r);generalize hC:aG p al cl plain pick r=C at *;have hlen:=hl;generalize hN:r.h.regs.length=N at *;have hn:=HA.out;clear hr hC ha ha';go_enter Tryz.func94,Tryz.ntmps94;go_upto_region 1 with fail;obtain ⟨v1,Ev1,F⟩:=ax2 w C eS 54 54;rw [Ev1.out];clear Ev1;obtain ⟨h3,h6,l1,n1⟩:=F;have H3:Hid _:=h3;have H6:Hid _:=h6;have b1:w.heap.size<v1.heap.size:=by omega
 have b2:w.heap.size+1<v1.heap.size:=by omega
 have c1:=ab h3 1 g1;have OE:=OwnC.new 33 1 v1 [] 0 rfl (by decide);have nE:=(Below.refl v1.heap.size v1).alloc nle (Obj.cells #[] 33);clear h3 h6 l1;go_upto_region 2 with (at_builtin;refine iC _ rfl (.tmp 8) (.tmp 11) 32 rfl 33 Tryz.underlying32 (VU 0) 1 8 Tryz.infoU rfl (by decide) v1.heap.size v1.heap.size 0 0 [] rfl OE p.ar N p.cr (cW r.h.regs) rfl HRa.out.1 HRa.out.2 (RowC.keep (RowC.keep HR.out n1) nE) (pQ _) (by omega) (by omega) v1.heap.size v1 nE nle ?_;intro g2 cap2 v2 o2 n2;clear OE nE c1);simp only [Nat.zero_add,List.nil_append] at o2 |-;have f2:=o2.facts;have K3:Hid _:=ae H3.out n2 b1;have K6:Hid _:=ae H6.out n2 b2;have n12:=bst n1 n2;have z2:=n2.size;have hcap:(cap2:Int)<=9223372036854775807:=by have:=f2.2.2.2.2;unfold maxLen at this;omega
 have HM2:Hid (cap2<=9223372036854775807):=by have:=f2.2.2.2.2;unfold maxLen at this;exact this
 have hNc:=f2.2.2.2.1;have hg1:=f2.2.1;have hg2:=f2.2.2.1;clear f2 H3 H6 n1 n2 HR HRa;have b5:w.heap.size<v2.heap.size:=by omega
 have q1:=ab K3.out 1 g1;have q2:=ap K3.out 1;have ng:w.heap.size≠g2:=by omega
 have ng':g2≠w.heap.size:=by omega
 by_cases h0:0<n
 ·have h0':(0:Int)<(n:Int):=by omega
  have HM1:Hid (bW r (n:Int) x=bA r (eH r.h (r.h.regs.set n x))):=by
   have hm:=HM.out;rw [if_pos h0'] at hm;exact hm
  have s1:=aQ o2 n _ (rX r.h.regs n (by omega));have s2:=bL o2 n;have O3:Hid (OwnC 33 1 (v2.setCell (AD g2 n) (VU x)) v1.heap.size g2 N cap2 (cW (r.h.regs.set n x))):=by
   have:=br o2 n (VU x);rw [uc] at this;exact this
  have K3':Hid _:=eL K3.out n (VU x) (show w.heap.size≠g2 by omega);have K6':Hid _:=eL K6.out n (VU x) (show w.heap.size+1≠g2 by omega);have n3:=cH n12 (show w.heap.size<=g2 by omega) n (VU x);go_upto_region 4 with fail;generalize v2.setCell (AD g2 n) (VU x)=v3 at O3 K3' K6' n3 |-;clear q1 q2 s1 s2;have q1:=ab K3'.out 1 g1;have q2:=ap K3'.out 1;have b6:=(hpl K3'.out);go_upto_region 5 with fail;have K3q:Hid _:=cf K3'.out 1 (SL g2 N cap2);have K6q:Hid _:=eL K6'.out 1 (SL g2 N cap2) (show w.heap.size+1≠w.heap.size by omega);have n4:=cH n3 nle 1 (SL g2 N cap2);have O4:Hid _:=OwnC.gb O3.out (au (ao v3 (some w.heap.size)) 1 (SL g2 N cap2)) ng';have HV:Hid _:=HP.out g2 cap2 (r.h.regs.set n x) (by simp [hN]);have hV:(C.setIfInBounds 1 (SL g2 N cap2)).size=31:=by simp only [Array.size_setIfInBounds,hsz]
  generalize v3.setCell (AD w.heap.size 1) (SL g2 N cap2)=v4 at K3q K6q n4 O4 |-;have hone:=pD HO.out 1 (v:=SL g2 N cap2) rfl;generalize C.setIfInBounds 1 (SL g2 N cap2)=D at K3q HV hV hone;have HLr:Hid _:=aW (P:=Tryz.prog) (T:=54) K3q.out Tryz.underlying54 rfl (by rw [hV];exact dq);have HSr:Hid _:=aR (P:=Tryz.prog) (T:=54) (V:=D) K6q.out (by rw [hV];exact dq) (by rw [hV,aS]) hone;have e1:=aI (V:=D) K6q.out (by rw [hV,aS]);have e2:=aK (show w.heap.size<=w.heap.size+1 by omega) (D).toList 0 _ n4;have eG:=aH (w.heap.size+1) (D).toList 0 v4 v4 (ao v4 _);go_wp2_with (first
   | ((with_reducible refine bj ?_ HLr.out ?_);(exact rfl))
   | ((with_reducible refine az ?_ ?_ HSr.out ?_);(exact rfl);(exact rfl)))
  refine dE (b:=w.heap.size+1) Tryz.results94 rfl (bC (P:=Tryz.prog) e1 Tryz.underlying54 rfl (by rw [hV];exact dq)) rfl ?_;rw [HM1.out];exact ⟨⟨xt p g2 cap2,by rw [HV.out],RunIn.reg (rs:=r.h.regs.set n x) HI.out e2 (by rw [List.length_set,hN];exact (OwnC.gb O4.out eG (by omega)).row) (by rw [List.length_set,hN];exact ⟨hNc,HM2.out⟩) (OwnC.facts (OwnC.gb O4.out eG (show g2≠w.heap.size+1 by omega))).2.2.1,ud (by omega)⟩,e2⟩
 ·have h0':¬(0:Int)<(n:Int):=by omega
  have hn0:n=0:=by omega
  have HM1:Hid (bW r (n:Int) x=bA r (eH r.h r.h.regs)):=by
   have hm:=HM.out;rw [if_neg h0'] at hm;exact hm
  clear hn0;have O2:Hid _:=o2;clear o2;go_upto_region 5 with fail;have K3q:Hid _:=cf K3.out 1 (SL g2 N cap2);have K6q:Hid _:=eL K6.out 1 (SL g2 N cap2) (show w.heap.size+1≠w.heap.size by omega);have n4:=cH n12 nle 1 (SL g2 N cap2);have O4:Hid _:=OwnC.gb O2.out (au (ao v2 (some w.heap.size)) 1 (SL g2 N cap2)) ng';have HV:Hid _:=HP.out g2 cap2 r.h.regs hN;have hV:(C.setIfInBounds 1 (SL g2 N cap2)).size=31:=by simp only [Array.size_setIfInBounds,hsz]
  generalize v2.setCell (AD w.heap.size 1) (SL g2 N cap2)=v4 at K3q K6q n4 O4 |-;have hone:=pD HO.out 1 (v:=SL g2 N cap2) rfl;generalize C.setIfInBounds 1 (SL g2 N cap2)=D at K3q HV hV hone;have HLr:Hid _:=aW (P:=Tryz.prog) (T:=54) K3q.out Tryz.underlying54 rfl (by rw [hV];exact dq);have HSr:Hid _:=aR (P:=Tryz.prog) (T:=54) (V:=D) K6q.out (by rw [hV];exact dq) (by rw [hV,aS]) hone;have e1:=aI (V:=D) K6q.out (by rw [hV,aS]);have e2:=aK (show w.heap.size<=w.heap.size+1 by omega) (D).toList 0 _ n4;have eG:=aH (w.heap.size+1) (D).toList 0 v4 v4 (ao v4 _);go_wp2_with (first
   | ((with_reducible refine bj ?_ HLr.out ?_);(exact rfl))
   | ((with_reducible refine az ?_ ?_ HSr.out ?_);(exact rfl);(exact rfl)))
  refine dE (b:=w.heap.size+1) Tryz.results94 rfl (bC (P:=Tryz.prog) e1 Tryz.underlying54 rfl (by rw [hV];exact dq)) rfl ?_;rw [HM1.out];exact ⟨⟨xt p g2 cap2,by rw [HV.out],RunIn.reg (rs:=r.h.regs) HI.out e2 (by rw [hN];exact (OwnC.gb O4.out eG (by omega)).row) (by rw [hN];exact ⟨hNc,HM2.out⟩) (OwnC.facts (OwnC.gb O4.out eG (show g2≠w.heap.size+1 by omega))).2.2.1,ud (by omega)⟩,e2⟩
def eh (zs:List Int):List Value:=zs.map (Value.int .u8)
theorem CO {e:TypeId} {w:World} {g base:Nat} {zs:List Int} (h:Blk e w g zs) (hb:base<=g) (hl:zs.length<=1048576):w.ownsRow base e 1 (SL g zs.length zs.length) zs.length (eh zs):=
 ⟨by simp [eh],.inr ⟨g,zs.length,(zs.map (Value.int .u8)).toArray,rfl,hb,h,nle,by unfold maxLen;omega,by simp,by simp [eh,List.take_of_length_le]⟩⟩
theorem wN (zs:List Int):∀u∈eh zs,u.oneCell'=true:=vV zs
theorem Byt.rowC {w:World} {a:Option Addr} {len:Nat} {zs:List Int} (h:Byt w a len zs):RowC w a len 1 (eh zs):=by
 obtain ⟨h1,h2,h3⟩:=h;refine ⟨by simp [eh,h1],?_⟩;rcases h3 with h3 | ⟨b,off,rfl,hb,hc⟩
 ·exact .inl h3
 ·refine .inr ⟨b,off,rfl,hb,fun i v hv=>?_⟩;have hi:i<len:=by
   have:=(List.getElem?_eq_some_iff.1 hv).1;simpa [eh,h1] using this
  rw [hc i hi];simp only [eh,List.getElem?_map] at hv;cases hz:zs[i]? with
  | none=>simp [hz] at hv
  | some z=>simpa [hz] using hv
theorem Byt.addr {w:World} {a:Option Addr} {len:Nat} {zs:List Int} (h:Byt w a len zs) (hl:0<len):(a=none->len=0)∧∀q,a=some q->q.spot=none:=by
 rcases h.2.2 with h3 | ⟨b,off,rfl,hb,hc⟩
 ·omega
 ·exact ⟨fun h=>(by cases h),fun q hq=>by cases hq;rfl⟩
def tz (p:PtrM) (gm cm gr cr:Nat):PtrM:=⟨some (AD gm 0),cm,some (AD gr 0),cr,p.a1,p.c1,p.a2,p.c2,p.a3,p.c3⟩
def pK (p:PtrM) (a1:Option Addr) (c1:Nat) (a2:Option Addr) (c2:Nat) (a3:Option Addr) (c3:Nat):PtrM:=⟨p.am,p.cm,p.ar,p.cr,a1,c1,a2,c2,a3,c3⟩
theorem KOwn.gb {base r:Nat} {w w':World} {v:Value} {k:KM} (h:KOwn base w v k) (hg:w.grownBy w' (some r)) (hr:r<base):KOwn base w' v k:=by
 obtain ⟨g1,c1,g2,c2,g3,c3,rfl,o1,o2,o3⟩:=h;exact ⟨g1,c1,g2,c2,g3,c3,rfl,aE o1 hg hr,aE o2 hg hr,aE o3 hg hr⟩
def KRows (base:Nat) (w:World) (q:PtrM) (k:KM):Prop:=
 w.ownsRow base 154 6 (.slice q.a1 k.i.es.length q.c1) k.i.es.length (co k.i.es)∧w.ownsRow base 154 6 (.slice q.a2 k.d.es.length q.c2) k.d.es.length (co k.d.es)∧w.ownsRow base 154 6 (.slice q.a3 k.p.es.length q.c3) k.p.es.length (co k.p.es)
theorem KRows.gb {base r:Nat} {w w':World} {q:PtrM} {k:KM} (h:KRows base w q k) (hg:w.grownBy w' (some r)) (hr:r<base):KRows base w' q k:=
 ⟨aE h.1 hg hr,aE h.2.1 hg hr,aE h.2.2 hg hr⟩
theorem KRows.set {base pb:Nat} {w w':World} {q:PtrM} {k:KM} {cur:Array Value} {T:TypeId} {f:Nat × Nat} (h:KRows base w q k) (hp:w.heap[pb]?=some (.cells cur T f)) (hT:T≠154) (hg:w.grownBy w' (some pb)):KRows base w' q k:=
 ⟨cP h.1 hp hT hg,cP h.2.1 hp hT hg,cP h.2.2 hp hT hg⟩
theorem KRows.keep {base:Nat} {w w':World} {q:PtrM} {k:KM} (h:KRows base w q k) (hb:Bw w w'):KRows base w' q k:=
 ⟨aq h.1 hb,aq h.2.1 hb,aq h.2.2 hb⟩
theorem ji {base:Nat} {w:World} {t:TlbM} {a:Option Addr} {c:Nat} (ho:w.ownsRow base 154 6 (.slice a t.es.length c) t.es.length (co t.es)) (hk:fQ t):TlbAt w (.agg #[VI t.sets,VI t.ways,.slice a t.es.length c]) t:=by
 have hr:=eC ho;rcases ho.2 with ⟨h2,h3⟩ | ⟨g',cap',cur,h2,hb,hg,hc1,hc2,_⟩
 ·simp only [Value.slice.injEq] at h2;obtain ⟨rfl,h4,rfl⟩:=h2;exact ⟨none,0,rfl,hr,hk.1,hk.2.1,hk.2.2.1,hk.2.2.2,by omega,by omega,fun _=>⟨h4,rfl⟩,fun q hq=>(by cases hq)⟩
 ·simp only [Value.slice.injEq] at h2;obtain ⟨rfl,_,rfl⟩:=h2;exact ⟨some (AD g' 0),_,rfl,hr,hk.1,hk.2.1,hk.2.2.1,hk.2.2.2,hc1,by unfold maxLen at hc2;omega,(by intro h;cases h),(by intro q hq;cases hq;rfl)⟩
theorem KRows.at {base:Nat} {w:World} {q:PtrM} {k:KM} (h:KRows base w q k) (hk:kOk k):KAt w (.agg (kA q k)) k:=
 ⟨_,_,_,_,_,_,rfl,ji h.1 hk.1,ji h.2.1 hk.2.1,ji h.2.2 hk.2.2⟩
theorem dG {base size n c:Nat} {e:TypeId} {w:World} {a:Option Addr} {cs:List Value} (h:w.ownsRow base e size (.slice a n c) n cs) (q:Addr) (hq:a=some q):base<=q.block∧q.block<w.heap.size:=by
 subst hq;exact (cQ h).2
theorem KRows.ptrs {base:Nat} {w:World} {p:PtrM} {k:KM} (h:KRows base w p k) (q:Addr) (hq:p.a1=some q∨p.a2=some q∨p.a3=some q):base<=q.block∧q.block<w.heap.size:=by
 rcases hq with hq | hq | hq
 ·exact dG h.1 q hq
 ·exact dG h.2.1 q hq
 ·exact dG h.2.2 q hq
theorem KOwn.rows {base:Nat} {w:World} {v:Value} {k:KM} (h:KOwn base w v k):∃a1 c1 a2 c2 a3 c3,∀p,v=.agg (kA (pK p a1 c1 a2 c2 a3 c3) k)∧KRows base w (pK p a1 c1 a2 c2 a3 c3) k:=by
 obtain ⟨g1,c1,g2,c2,g3,c3,rfl,o1,o2,o3⟩:=h;exact ⟨some (AD g1 0),c1,some (AD g2 0),c2,some (AD g3 0),c3,fun p=>⟨rfl,o1,o2,o3⟩⟩
theorem KAt.ok {w:World} {v:Value} {k:KM} (h:KAt w v k):kOk k:=by
 obtain ⟨a1,c1,a2,c2,a3,c3,rfl,h1,h2,h3⟩:=h;exact ⟨h1.ok,h2.ok,h3.ok⟩
theorem tV (p q:PtrM) (h:HartM) (k:KM):jG (ak p h) 12 (kA q k).toList=ak (pK p q.a1 q.c1 q.a2 q.c2 q.a3 q.c3) (withK h k):=by
 simp [jG,ak,kA,pK,withK]
theorem CQ (p:PtrM) (k:KM):(kA p k).all (·.oneCell')=true:=by
 simp [kA,Value.oneCell']
theorem kI:(Tryz.prog.info? 42).map (·.size)=some 9:=by kernel_rfl
theorem za (p:PtrM) (h:HartM) (w:World) (hi:HartIn w p h) (hm0:0<h.mem.length) (hm1:h.mem.length<=1048576) (hr1:h.regs.length<=1048576):
 Calls Tryz.prog 30 #[.agg (ak p h)] w fun e w'=>(∃p',e=.returned (.agg (ak p' h))∧HartIn w' p' h∧∀q,some q∈be p'->w.heap.size<=q.block)∧Bw w w':=by
 have HI:=hid hi;have HB:=hid hi.mem.rowC;have HBa:Hid ((p.am=none->h.mem.length=0∧p.cm=0)∧∀q,p.am=some q->q.spot=none):=⟨fun hh=>absurd ((hi.mem.addr hm0).1 hh) (by omega),(hi.mem.addr hm0).2⟩;have HR:=hid hi.regs;have HRa:=hid hi.rega;have HK:=hid hi.ks;have HZ:=hid hi.mem.2.1;have HP:Hid (∀gm cm gr cr,((ak p h).setIfInBounds 0 (SL gm h.mem.length cm)).setIfInBounds 1 (SL gr h.regs.length cr)=ak (tz p gm cm gr cr) h):=fun gm cm gr cr=>rfl;have hsz:=et p h;have g0:(ak p h)[0]?=some (.slice p.am h.mem.length p.cm):=rfl;have g1:(ak p h)[1]?=some (.slice p.ar h.regs.length p.cr):=rfl;have HO:=hid (gF p h);have HKp:Hid (∀x y,((((ak p h).setIfInBounds 0 x).setIfInBounds 1 y).toList.drop 12).take 9=(kA p h.k).toList):=fun x y=>by simp [ak,kA]
 generalize ak p h=C at *;obtain ⟨M,hM⟩:∃M,h.mem.length=M:=⟨_,rfl⟩;obtain ⟨N,hN⟩:∃N,h.regs.length=N:=⟨_,rfl⟩;rw [hM] at HB HBa g0 hm0 hm1 HP;rw [hN] at HR HRa g1 hr1 HP;have HM:=hid hM;have HN:=hid hN;clear hi hM hN;go_enter Tryz.func30,Tryz.ntmps30;go_upto_region 1 with fail;obtain ⟨v1,Ev1,F⟩:=ax2 w C fw 44 44;rw [Ev1.out];clear Ev1;obtain ⟨h3,h6,l1,n1⟩:=F;have H3:Hid _:=h3;have H6:Hid _:=h6;have b1:w.heap.size<v1.heap.size:=by omega
 have b2:w.heap.size+1<v1.heap.size:=by omega
 have c0:=ab h3 0 g0;have OE:=OwnC.new 5 1 v1 [] 0 rfl (by decide);have nE:=(Below.refl v1.heap.size v1).alloc nle (Obj.cells #[] 5);clear h3 h6 l1;go_upto_region 2 with (at_builtin;refine iC _ rfl (.tmp 3) (.tmp 5) 22 rfl 5 Tryz.underlying22 (.int .u8 0) 1 1 Tryz.infoB rfl (by decide) v1.heap.size v1.heap.size 0 0 [] rfl OE p.am M p.cm (eh h.mem) rfl HBa.out.1 HBa.out.2 (RowC.keep (RowC.keep HB.out n1) nE) (wN _) (by omega) (by omega) v1.heap.size v1 nE nle ?_;intro g2 cap2 v2 o2 n2;have c0:=ab (ae H3.out n2 b1) 0 g0;have f0:=ap (ae H3.out n2 b1) 0;have b3:=ltl b1 n2.size;clear OE nE);simp only [Nat.zero_add,List.nil_append] at o2 |-;have f2:=o2.facts;have hg1:=f2.2.1;have hg2:=f2.2.2.1;have HC2:Hid (M<=cap2∧cap2<=9223372036854775807):=⟨f2.2.2.2.1,by have:=f2.2.2.2.2;unfold maxLen at this;exact this⟩;have ng':g2≠w.heap.size:=by omega
 have n12:=cH (bst n1 n2) nle 0 (SL g2 M cap2);have K3:Hid _:=cf (ae H3.out n2 b1) 0 (SL g2 M cap2);have K6:Hid _:=eL (ae H6.out n2 b2) 0 (SL g2 M cap2) (show w.heap.size+1≠w.heap.size by omega);have O2:Hid _:=OwnC.gb o2 (au (ao v2 (some w.heap.size)) 0 (SL g2 M cap2)) ng';have z2:v1.heap.size<=(v2.setCell (AD w.heap.size 0) (SL g2 M cap2)).heap.size:=by simp;exact n2.size
 have hg2':g2<(v2.setCell (AD w.heap.size 0) (SL g2 M cap2)).heap.size:=by simp;exact hg2
 generalize v2.setCell (AD w.heap.size 0) (SL g2 M cap2)=v3 at n12 K3 K6 O2 z2 hg2' |-;clear o2 f2 n2 H3 H6 c0 n1 hg2 HB HBa;have g1':(C.setIfInBounds 0 (SL g2 M cap2))[1]?=some (.slice p.ar N p.cr):=by
  rw [Array.getElem?_setIfInBounds_ne (by omega)];exact g1
 have c1:=ab K3.out 1 g1';have b4:w.heap.size<v3.heap.size:=by omega
 have b5:w.heap.size+1<v3.heap.size:=by omega
 have OE:=OwnC.new 33 1 v3 [] 0 rfl (by decide);have nE:=(Below.refl v3.heap.size v3).alloc nle (Obj.cells #[] 33);go_upto_region 3 with (at_builtin;refine iC _ rfl (.tmp 8) (.tmp 10) 32 rfl 33 Tryz.underlying32 (VU 0) 1 8 Tryz.infoU rfl (by decide) v3.heap.size v3.heap.size 0 0 [] rfl OE p.ar N p.cr (cW h.regs) rfl HRa.out.1 HRa.out.2 (RowC.keep (RowC.keep HR.out n12) nE) (pQ _) (by omega) (by omega) v3.heap.size v3 nE nle ?_;intro g4 cap4 v4 o4 n4;have c1:=ab (ae K3.out n4 b4) 1 g1';have f1:=ap (ae K3.out n4 b4) 1;have b6:=ltl b4 n4.size;clear OE nE);simp only [Nat.zero_add,List.nil_append] at o4 |-;have f4:=o4.facts;have hh1:=f4.2.1;have hh2:=f4.2.2.1;have HC4:Hid (N<=cap4∧cap4<=9223372036854775807):=⟨f4.2.2.2.1,by have:=f4.2.2.2.2;unfold maxLen at this;exact this⟩;have nh':g4≠w.heap.size:=by omega
 have n14:=cH (bst n12 n4) nle 1 (SL g4 N cap4);have J3:Hid _:=cf (ae K3.out n4 b4) 1 (SL g4 N cap4);have J6:Hid _:=eL (ae K6.out n4 b5) 1 (SL g4 N cap4) (show w.heap.size+1≠w.heap.size by omega);have O4:Hid _:=OwnC.gb o4 (au (ao v4 (some w.heap.size)) 1 (SL g4 N cap4)) nh';have O5:Hid _:=OwnC.gb (OwnC.keep O2.out n4 hg2') (au (ao v4 (some w.heap.size)) 1 (SL g4 N cap4)) ng';have z4:v3.heap.size<=(v4.setCell (AD w.heap.size 1) (SL g4 N cap4)).heap.size:=by simp;exact n4.size
 have hh2':g4<(v4.setCell (AD w.heap.size 1) (SL g4 N cap4)).heap.size:=by simp;exact hh2
 generalize v4.setCell (AD w.heap.size 1) (SL g4 N cap4)=v5 at n14 J3 J6 O4 O5 z4 hh2' |-;clear o4 f4 n4 K3 K6 c1 hh2 HR HRa O2 n12;have hsz2:((C.setIfInBounds 0 (SL g2 M cap2)).setIfInBounds 1 (SL g4 N cap4)).size=21:=by simp only [Array.size_setIfInBounds,hsz]
 have HE:Hid _:=HP.out g2 cap2 g4 cap4;have HLk:Hid _:=eA (P:=Tryz.prog) (T:=42) J3.out Tryz.underlying42 rfl (o:=12) (kA p h.k).toList kI (HKp.out _ _) rfl;have HKc:=hid fun u (hu:Bw w u)=>vx _ _ u (HK.out.keep hu);rw [show (kA p h.k).toList.toArray=kA p h.k from rfl] at HLk;generalize ((C.setIfInBounds 0 (SL g2 M cap2)).setIfInBounds 1 (SL g4 N cap4))=D at J3 hsz2 HE HLk;have b7:w.heap.size<v5.heap.size:=by omega
 have b8:w.heap.size+1<v5.heap.size:=by omega
 have HKK:=hid HK.out.ok;generalize kA p h.k=E at *;go_wp2_with (first | ((with_reducible refine bj ?_ HLk.out ?_);(exact rfl)));refine (HKc.out v5 n14).mono ?_;rintro e v6 ⟨⟨x,rfl,hx⟩,n6⟩;obtain ⟨a1,c1,a2,c2,a3,c3,hxe⟩:=hx.rows;have hx0:=(hxe p).1;subst hx0;have HX:=hid ((hxe p).2);clear hxe hx;have I3:Hid _:=ae J3.out n6 b7;have I6:Hid _:=ae J6.out n6 b8;have n16:=bst n14 n6;have O6:Hid _:=OwnC.keep O4.out n6 hh2';have O7:Hid _:=OwnC.keep O5.out n6 (by omega);have hEs:(kA (pK p a1 c1 a2 c2 a3 c3) h.k).size=9:=rfl;have HSk:Hid _:=fq (P:=Tryz.prog) (T:=42) I3.out (o:=12) (V:=kA (pK p a1 c1 a2 c2 a3 c3) h.k) (by rw [hEs];exact kI) (by rw [hEs,hsz2];omega) (CQ _ _);have e1:=dn w.heap.size (kA (pK p a1 c1 a2 c2 a3 c3) h.k).toList 12 v6 D _ _ I3.out (by rw [hsz2];show 12+9<=21;omega);rw [HE.out,tV] at e1;have L3:Hid _:=e1;have L6:Hid _:=gY I6.out 12 (kA (pK p a1 c1 a2 c2 a3 c3) h.k).toList (show w.heap.size+1≠w.heap.size by omega);have n17:=aK (Nat.le_refl w.heap.size) (kA (pK p a1 c1 a2 c2 a3 c3) h.k).toList 12 v6 n16;have gG:=aH w.heap.size (kA (pK p a1 c1 a2 c2 a3 c3) h.k).toList 12 v6 v6 (ao v6 _);have O8:Hid _:=OwnC.gb O6.out gG nh';have O9:Hid _:=OwnC.gb O7.out gG ng';have HX2:=hid (KRows.gb HX.out gG b7);have hDD:(ak (pK (tz p g2 cap2 g4 cap4) (pK p a1 c1 a2 c2 a3 c3).a1 (pK p a1 c1 a2 c2 a3 c3).c1 (pK p a1 c1 a2 c2 a3 c3).a2 (pK p a1 c1 a2 c2 a3 c3).c2 (pK p a1 c1 a2 c2 a3 c3).a3 (pK p a1 c1 a2 c2 a3 c3).c3) (withK h h.k)).size=21:=rfl;have hone:=gF (pK (tz p g2 cap2 g4 cap4) (pK p a1 c1 a2 c2 a3 c3).a1 (pK p a1 c1 a2 c2 a3 c3).c1 (pK p a1 c1 a2 c2 a3 c3).a2 (pK p a1 c1 a2 c2 a3 c3).c2 (pK p a1 c1 a2 c2 a3 c3).a3 (pK p a1 c1 a2 c2 a3 c3).c3) (withK h h.k);have HFin:Hid (ak (pK (tz p g2 cap2 g4 cap4) (pK p a1 c1 a2 c2 a3 c3).a1 (pK p a1 c1 a2 c2 a3 c3).c1 (pK p a1 c1 a2 c2 a3 c3).a2 (pK p a1 c1 a2 c2 a3 c3).c2 (pK p a1 c1 a2 c2 a3 c3).a3 (pK p a1 c1 a2 c2 a3 c3).c3) (withK h h.k)=ak (pK (tz p g2 cap2 g4 cap4) a1 c1 a2 c2 a3 c3) h):=rfl;generalize ak (pK (tz p g2 cap2 g4 cap4) (pK p a1 c1 a2 c2 a3 c3).a1 (pK p a1 c1 a2 c2 a3 c3).c1 (pK p a1 c1 a2 c2 a3 c3).a2 (pK p a1 c1 a2 c2 a3 c3).c2 (pK p a1 c1 a2 c2 a3 c3).a3 (pK p a1 c1 a2 c2 a3 c3).c3) (withK h h.k)=G at L3 hDD hone HFin;generalize kA (pK p a1 c1 a2 c2 a3 c3) h.k=E2 at *;go_upto_region 4 with (first | ((with_reducible refine az ?_ ?_ HSk.out ?_);(exact rfl);(exact rfl)));generalize v6.setCells w.heap.size 12 E2.toList=v7 at L3 L6 n17 O8 O9 HX2 |-;have HLr:Hid _:=aW (P:=Tryz.prog) (T:=44) L3.out Tryz.underlying44 rfl (by rw [hDD];exact fy);have HSr:Hid _:=aR (P:=Tryz.prog) (T:=44) (V:=G) L6.out (by rw [hDD];exact fy) (by rw [hDD,eN]) hone;have e1:=aI (V:=G) L6.out (by rw [hDD,eN]);have e2:=aK (show w.heap.size<=w.heap.size+1 by omega) (G).toList 0 _ n17;have eG:=aH (w.heap.size+1) (G).toList 0 v7 v7 (ao v7 _);go_wp2_with (first
  | ((with_reducible refine bj ?_ HLr.out ?_);(exact rfl))
  | ((with_reducible refine az ?_ ?_ HSr.out ?_);(exact rfl);(exact rfl)))
 refine dE (b:=w.heap.size+1) Tryz.results30 rfl (bC (P:=Tryz.prog) e1 Tryz.underlying44 rfl (by rw [hDD];exact fy)) rfl ?_;have OA:=OwnC.gb O8.out eG (show g4≠w.heap.size+1 by omega);have OB:=OwnC.gb O9.out eG (show g2≠w.heap.size+1 by omega);have hX3:=KRows.gb HX2.out eG b8;have hks:=KRows.ptrs hX3;simp only [pK] at hks;refine ⟨⟨pK (tz p g2 cap2 g4 cap4) a1 c1 a2 c2 a3 c3,by rw [HFin.out],?_,?_⟩,e2⟩
 rotate_left 1
 ·intro q hq;simp only [be,pK,tz,List.mem_cons,List.not_mem_nil,or_false] at hq;rcases hq with hq | hq | hq | hq | hq
  ·cases hq;show w.heap.size<=g2;omega
  ·cases hq;show w.heap.size<=g4;omega
  ·have:=(hks q (.inl hq.symm)).1;omega
  ·have:=(hks q (.inr (.inl hq.symm))).1;omega
  ·have:=(hks q (.inr (.inr hq.symm))).1;omega
 refine ⟨?_,?_,?_,?_,⟨fun hh=>(by cases hh),fun q hq=>by cases hq;rfl⟩,?_,?_⟩
 ·have:=OwnB.byt (e:=5) (zs:=h.mem) OB HZ.out;rw [HM.out];exact this
 ·rw [HM.out];exact HC2.out
 ·rw [HN.out];exact OA.row
 ·rw [HN.out];exact HC4.out
 ·exact KRows.at (q:=pK (tz p g2 cap2 g4 cap4) a1 c1 a2 c2 a3 c3) hX3 HKK.out
 ·intro q hq;simp only [be,pK,tz,List.mem_cons,List.not_mem_nil,or_false] at hq;rcases hq with hq | hq | hq | hq | hq
  ·cases hq;exact (OwnC.facts OB).2.2.1
  ·cases hq;exact (OwnC.facts OA).2.2.1
  ·exact (hks q (.inl hq.symm)).2
  ·exact (hks q (.inr (.inl hq.symm))).2
  ·exact (hks q (.inr (.inr hq.symm))).2
section
attribute [local go_sem ↓] Go.wp_at_zero Go.wp_at_succ
def CL (base:Nat) (w:World) (v:Value) (r:(Int × Int) × KM):Prop:=
 ∃s1 s2 s3,v=.agg #[VI r.1.1,VU r.1.2,VI r.2.i.sets,VI r.2.i.ways,s1,VI r.2.d.sets,VI r.2.d.ways,s2,VI r.2.p.sets,VI r.2.p.ways,s3]∧
  w.ownsRow base 154 6 s1 r.2.i.es.length (co r.2.i.es)∧w.ownsRow base 154 6 s2 r.2.d.es.length (co r.2.d.es)∧w.ownsRow base 154 6 s3 r.2.p.es.length (co r.2.p.es)
end
theorem gL (sv:Value) (zs:List Int) (va root:Int) (w:World) (hB:SrcAt w sv zs) (hv0:0<=va) (hv1:va<=18446744073709551615) (hr0:0<=root) (hr1:root<=18446744073709551615):
 Calls Tryz.prog 164 #[sv,VU root,VU va] w fun e w'=>zE w.heap.size w' e (bD zs root va)∧Bw w w':=by
 have b0:=(Below.refl w.heap.size w).alloc nle (Obj.cells #[VI 0,VU 0,SN] 284);have r0:Hid ((w.alloc (Obj.cells #[VI 0,VU 0,SN] 284)).heap[w.heap.size]?=some (.cells #[VI 0,VU 0,SN] 284 (0,0))):=fC w _;have HB:=hid hB;clear hB;have hb0:0<=root%17592186044416∧root%17592186044416<17592186044416:=⟨Int.emod_nonneg _ (by omega),Int.emod_lt_of_pos _ (by omega)⟩;have HM:=hid (eJ 44 root 17592186044415 rfl (by omega) hr0 hr1);unfold bD;cases hcn:cR va
 ·rw [if_pos rfl];have HC:=hid hcn;clear hcn;go_enter Tryz.func164,Tryz.ntmps164;go_wp2_with fail;generalize w.alloc (Obj.cells #[VI 0,VU 0,SN] 284)=v1 at b0 r0 |-;refine (gN va v1 hv0 hv1).mono ?_;rintro e v2 ⟨rfl,rfl⟩;rw [HC.out];obtain ⟨⟨d0,d1,d2⟩,f0,f1,f2⟩:=aF r0.out;go_wp2_with fail;refine bodyPost_ret (v:=.tuple #[.agg #[VI 2,VU 0,SN],.iface 260 (.agg #[])]) (by simp [results,Tryz.results164,go_sem,d0,d1,d2]) rfl ?_;exact ⟨⟨none,0,rfl,World.ownsRow_nil _ _ _ _⟩,kz b0 nle _ _ _⟩
 ·rw [if_neg (by simp)];have HC:=hid hcn;clear hcn;obtain ⟨X,hX⟩:∃X,bu zs va 2 (root%17592186044416)=X:=⟨_,rfl⟩;have HX:=hid hX;rw [hX];clear hX;go_enter Tryz.func164,Tryz.ntmps164;go_wp2_with fail;have l1:w.heap.size<(w.alloc (Obj.cells #[VI 0,VU 0,SN] 284)).heap.size:=by simp
  generalize w.alloc (Obj.cells #[VI 0,VU 0,SN] 284)=v1 at b0 r0 l1 |-;refine (gN va v1 hv0 hv1).mono ?_;rintro e v2 ⟨rfl,rfl⟩;rw [HC.out];go_wp2_with fail;refine (dy 44 17592186044415 _ (by omega)).mono ?_;rintro e v3 ⟨rfl,rfl⟩;go_wp2_with fail;rw [HM.out];refine (oW sv zs va (root%17592186044416) 2 v3 (HB.out.keep b0) (by omega) hv0 hv1 hb0.1 hb0.2).mono ?_;rintro e v4 ⟨hw,n4⟩;rw [HX.out] at hw;obtain ⟨ra,rc,rfl,o4⟩:=hw;obtain ⟨x1,x2,x3,rs⟩:=X;simp only at o4 |-;have HO:=hid o4;clear o4;have r4:=hid (ae r0.out n4 l1);have b4:=bst b0 n4;obtain ⟨⟨d0,d1,d2⟩,f0,f1,f2⟩:=aF r4.out;obtain ⟨fv,hfv⟩:∃fv,cu x1=fv:=⟨_,rfl⟩;have HF:=hid hfv;rw [hfv];clear hfv;go_wp2_with fail;refine bodyPost_ret (v:=.tuple #[.agg #[VI x2,VU x3,.slice ra rs.length rc],fv]) (by simp [results,Tryz.results164,go_sem,d0,d1,d2]) rfl ?_;exact ⟨⟨ra,rc,by rw [HF.out],bS (aE HO.out (gb3 _ w.heap.size _ _ _) l1) (by omega)⟩,kz b4 nle _ _ _⟩
theorem zY:(Tryz.prog.info? 161).map (·.size)=some 2:=by kernel_rfl
theorem Tryz.infoLk:(Tryz.prog.info? 59).map (fun i=>(i.zero,i.size,i.bytes))=some (some (.agg #[VI 0,VU 0]),2,16):=by kernel_rfl
theorem ts (ls:List (Int × Int)):∀u∈fu ls,u.oneCell'=true:=by
 induction ls with
 | nil=>intro u hu;cases hu
 | cons l ls ih=>
  intro u hu;simp only [fu,List.mem_cons] at hu;rcases hu with rfl | rfl | hu
  ·rfl
  ·rfl
  ·exact ih u hu
theorem zZ (a b:List (Int × Int)):fu (a++b)=fu a++fu b:=by
 induction a with
 | nil=>rfl
 | cons l a ih=>simp [fu,ih]
theorem El {P:Program} {fn:Func} {R:Ending->World->Prop} {a:Act} {w:World} {s t:Tmp} {T U:TypeId} {b c:Nat} {V W:Value} (hr:fn.results=#[ResultVar.cell s T,ResultVar.cell t U]) (hs:a.tmps[s]?=some (PT b 0)) (ht:a.tmps[t]?=some (PT c 0)) (hl:(loadVar T (AD b 0)).run P w=.ok V w) (hm:(loadVar U (AD c 0)).run P w=.ok W w) (hd:a.defers=[]) (hR:R (.returned (.tuple #[V,W])) w):bodyPost P fn R .ret a w:=by
 refine bodyPost_ret (v:=.tuple #[V,W]) ?_ hd hR;simp [results,hr,hs,ht,asAddr,hl,hm,Sem.run_bind]
theorem pE (p:PtrM) (al:Option Addr) (cl:Nat) (pick:Int) (r:RunM) (kind va:Int) (w:World) (hr:RunIn w p al cl r) (hk:ROk r) (hpk:0<=pick∧pick<=255) (hkd:0<=kind∧kind<=2) (hv:inU va) (hll:r.looks.length<=7):
 Calls Tryz.prog 68 #[.agg (aG p al cl true pick r),VI kind,VU va] w fun e w'=>(∃p' al' cl',e=.returned (.tuple #[.agg (aG p' al' cl' true pick (bf true pick r kind va)),fZ (aT true pick r.h kind va).1])∧RunIn w' p' al' cl' (bf true pick r kind va)∧From w.heap.size p p'∧FromL w.heap.size al al')∧Bw w w':=by
 have hmem:=iy hk.h.v.size;have HI:=hid hr;have HOK:=hid hk;have HLk:=hid hr.looks;have HLa:=hid hr.looka;have HP:Hid (∀g cap,(aG p al cl true pick r).setIfInBounds 25 (SL g (r.looks.length+1) cap)=aG p (some (AD g 0)) cap true pick ⟨r.h,r.cause,r.tval,r.looks++[(kind,va)],r.fenced,r.fence⟩):=fun g cap=>by
  unfold aG;simp
 have hsz:=bP p al cl true pick r;have g25:(aG p al cl true pick r)[25]?=some (.slice al r.looks.length cl):=rfl;have HO:=hid (dM p al cl true pick r);generalize aG p al cl true pick r=C at *;obtain ⟨N,hN⟩:∃N,r.looks.length=N:=⟨_,rfl⟩;rw [hN] at HLk HLa HP g25 hll;have HN:=hid hN;clear hr hN hk;go_enter Tryz.func68,Tryz.ntmps68;go_upto_region 1 with fail;obtain ⟨v1,Ev1,F⟩:=ax3 w C eS #[VI 0,VU 0] 54 54 161;rw [Ev1.out];clear Ev1;obtain ⟨h3,h6,h7,l1,n1⟩:=F;have H3:Hid _:=h3;have H6:Hid _:=h6;have H7:Hid _:=h7;have b1:w.heap.size<v1.heap.size:=by omega
 have b2:w.heap.size+1<v1.heap.size:=by omega
 have b3:w.heap.size+2<v1.heap.size:=by omega
 have c25:=ab h3 25 g25;have OE:=OwnC.new 59 2 v1 [] 0 rfl (by decide);have nE:=(Below.refl v1.heap.size v1).alloc nle (Obj.cells #[] 59);clear h3 h6 h7 l1;go_upto_region 2 with (at_builtin;first
  | (refine iC _ rfl (.tmp 9) (.tmp 11) 50 rfl 59 Tryz.underlying50 (.agg #[VI 0,VU 0]) 2 16 Tryz.infoLk rfl (by decide) v1.heap.size v1.heap.size 0 0 [] rfl OE al N cl (fu r.looks) rfl HLa.out.1 HLa.out.2 (RowC.keep (RowC.keep HLk.out n1) nE) (ts _) (by omega) (by omega) v1.heap.size v1 nE nle ?_;intro g2 cap2 v2 o2 n2;have n3:=(Below.refl v2.heap.size v2).alloc nle (Obj.cells #[VI kind,VU va] 59);have n23:=bst n2 n3;simp only [Nat.zero_add,List.nil_append] at o2 |-;have o3:=OwnC.keep o2 n3 o2.facts.2.2.1;have q3:=(OwnC.new 59 2 v2 (fu [(kind,va)]) 1 rfl (by decide)).row;have z2:=n2.size;clear OE nE)
  | (refine iC _ rfl (.tmp 12) (.tmp 16) 50 rfl 59 Tryz.underlying50 (.agg #[VI 0,VU 0]) 2 16 Tryz.infoLk rfl (by decide) v1.heap.size g2 N cap2 (fu r.looks) rfl o3 (some (AD v2.heap.size 0)) 1 1 (fu [(kind,va)]) rfl (fun h=>(by cases h)) (fun q hq=>by cases hq;rfl) q3 (ts _) (by omega) (by omega) v1.heap.size v1 n23 nle ?_;intro g4 cap4 v4 o4 n4;have k3:=ae H3.out n4 b1;have c25:=ab k3 25 g25;have f25:=ap k3 25;have b4:=ltl b1 n4.size;clear o2 o3 q3 n2 n3 n23 z2))
 have f4:=o4.facts;have hg1:=f4.2.1;have hg2:=f4.2.2.1;have HC4:Hid (N+1<=cap4∧cap4<=9223372036854775807):=⟨f4.2.2.2.1,by have:=f4.2.2.2.2;unfold maxLen at this;exact this⟩;have ng':g4≠w.heap.size:=by omega
 have K3:Hid _:=cf k3 25 (SL g4 (N+1) cap4);have K6:Hid _:=eL (ae H6.out n4 b2) 25 (SL g4 (N+1) cap4) (show w.heap.size+1≠w.heap.size by omega);have K7:Hid _:=eL (ae H7.out n4 b3) 25 (SL g4 (N+1) cap4) (show w.heap.size+2≠w.heap.size by omega);have n5:=cH (bst n1 n4) nle 25 (SL g4 (N+1) cap4);have O5:Hid (OwnC 59 2 (v4.setCell (AD w.heap.size 25) (SL g4 (N+1) cap4)) v1.heap.size g4 (N+1) cap4 (fu (r.looks++[(kind,va)]))):=by
  rw [zZ];exact OwnC.gb o4 (au (ao v4 (some w.heap.size)) 25 (SL g4 (N+1) cap4)) ng'
 have z5:v1.heap.size<=(v4.setCell (AD w.heap.size 25) (SL g4 (N+1) cap4)).heap.size:=by simp;exact n4.size
 have hg3:g4<(v4.setCell (AD w.heap.size 25) (SL g4 (N+1) cap4)).heap.size:=by simp;exact hg2
 generalize v4.setCell (AD w.heap.size 25) (SL g4 (N+1) cap4)=v5 at K3 K6 K7 n5 O5 z5 hg3 |-;have HE:Hid _:=HP.out g4 cap4;have hsz2:(C.setIfInBounds 25 (SL g4 (N+1) cap4)).size=31:=by simp only [Array.size_setIfInBounds,hsz]
 have hone:=pD HO.out 25 (v:=SL g4 (N+1) cap4) rfl;generalize C.setIfInBounds 25 (SL g4 (N+1) cap4)=D at K3 HE hsz2 hone;clear o4 f4 k3 c25 f25 n4 H3 H6 H7 hg2 n1 HLk HLa;have HD:=HE.out;have g21:D[21]?=some (.bool true):=by rw [HD];rfl
 have g22:D[22]?=some (VI pick):=by rw [HD];rfl
 have g0:D[0]?=some (.slice p.am r.h.mem.length p.cm):=by rw [HD];rfl
 have HDh:Hid ((D.toList.drop 0).take 21=(ak p r.h).toList):=by show _=_;rw [HD];rfl
 have HDk:Hid ((D.toList.drop 12).take 9=(kA p r.h.k).toList):=by show _=_;rw [HD];rfl
 clear HD;have c21:=ab K3.out 21 g21;have b5:w.heap.size<v5.heap.size:=by omega
 go_upto_region 3 with fail;clear c21;obtain ⟨M,hM⟩:∃M,r.h.mem.length=M:=⟨_,rfl⟩;rw [hM] at g0;have HPl:Hid (∀u,Bw w u->Calls Tryz.prog 91 #[.slice p.am M p.cm,io r.h.mode r.h.sum r.h.mxr r.h.satp,VI kind,VU va] u fun e w'=>e=.returned (fZ (aT true pick r.h kind va).1)∧Bw u w'):=fun u hu=>by
  have hB:=HI.out.h.mem.keep hu;rw [hM] at hB;exact tL p.am M p.cm r.h.mem r.h.mode r.h.sum r.h.mxr r.h.satp kind va u (by omega) (by have:=HI.out.h.memc.1;omega) HI.out.h.memc.2 HOK.out.h.satp.1 HOK.out.h.satp.2 hv.1 hv.2 hB
 have HCt:=hid fun u=>uA p r.h u;have HLh:=hid fun (u:World) (hu:u.heap[w.heap.size]?=some (.cells D 54 (0,0)))=>eA (P:=Tryz.prog) (T:=44) hu Tryz.underlying44 rfl (o:=0) (ak p r.h).toList fy HDh.out rfl;have HLr:=hid fun (u:World) (hu:u.heap[w.heap.size]?=some (.cells D 54 (0,0)))=>aW (P:=Tryz.prog) (T:=54) hu Tryz.underlying54 rfl (by rw [hsz2];exact dq);have hMl:M<=4096:=by omega
 clear hM hmem;generalize ak p r.h=E at *;have HTV:Hid (∃tv,fZ (aT true pick r.h kind va).1=.agg tv∧tv.size=2∧tv.all (·.oneCell')=true):=⟨_,rfl,rfl,by simp [Value.oneCell']⟩;obtain ⟨tv,htv,tvs,tvo⟩:=HTV.out;rw [htv] at HPl;have HTw:Hid _:=htv;clear htv HTV;have HTo:=hid tvo;clear tvo;have HL0:Hid (∀u:World,u.heap[w.heap.size]?=some (.cells D 54 (0,0))->(Instr.loadAt 22 (PT w.heap.size 0)).run Tryz.prog u=.ok (.slice p.am M p.cm) u):=fun u hu=>by
  have h1:=ab hu 0 g0;go_simp
 have nD:=bdr v5;have hF:v5.drew.heap[w.heap.size]?=some (.cells D 54 (0,0)):=K3.out;refine ax (fun u=>u.heap[w.heap.size]?=some (.cells D 54 (0,0))) 10 ?_;refine aj 0 21 (.agg D) rfl hF ?_ (hy:=fun u hu=>aD rfl (HLr.out u hu))
 go_frame
 refine aj 1 22 (PT w.heap.size 0) rfl hF ?_;refine aj 2 23 (PT w.heap.size 0) rfl hF ?_
 go_frame
 refine aj 3 24 (.slice p.am M p.cm) rfl hF ?_ (hy:=fun u hu=>aD rfl (HL0.out u hu));refine aj 4 25 (PT w.heap.size 0) rfl hF ?_
 go_frame
 refine aj 5 26 (.agg E) rfl hF ?_ (hy:=fun u hu=>aD rfl (HLh.out u hu));refine aj 7 28 (VI kind) rfl hF ?_;refine aj 8 29 (VU va) rfl hF ?_
 go_frame
 refine du 6 27 rfl (f:=34) (args:=#[.agg E]) ?_;refine Calls.mono (HCt.out v5.drew) ?_;rintro e u6 ⟨rfl,m6⟩;replace m6:=bst nD m6;refine ⟨_,rfl,fun _=>ae K3.out m6 b5,?_⟩
 go_frame
 refine du 9 30 rfl (f:=91) (args:=#[.slice p.am M p.cm,io r.h.mode r.h.sum r.h.mxr r.h.satp,VI kind,VU va]) ?_;refine (HPl.out u6 (bst n5 m6)).mono ?_;rintro e v6 ⟨rfl,n6⟩;replace n6:=bst m6 n6;refine ⟨_,rfl,fun _=>ae K3.out n6 b5,?_⟩
 go_frame
 have L6:Hid _:=ae K6.out n6 (by omega);have L7:Hid _:=ae K7.out n6 (by omega);have n7:=bst n5 n6;have O7:Hid _:=OwnC.keep O5.out n6 hg3;have HS6:Hid _:=aR (P:=Tryz.prog) (T:=54) (V:=D) L6.out (by rw [hsz2];exact dq) (by rw [hsz2,aS]) hone;have M6:Hid _:=aI (V:=D) L6.out (by rw [hsz2,aS]);have M7:Hid _:=gY L7.out 0 D.toList (show w.heap.size+2≠w.heap.size+1 by omega);have n8:=aK (show w.heap.size<=w.heap.size+1 by omega) D.toList 0 v6 n7;have O8:Hid _:=OwnC.gb O7.out (aH (w.heap.size+1) D.toList 0 v6 v6 (ao v6 _)) (show g4≠w.heap.size+1 by omega);have HS7:Hid _:=aR (P:=Tryz.prog) (T:=161) (V:=tv) M7.out (by rw [tvs];exact zY) tvs HTo.out;have N7:Hid _:=aI (V:=tv) M7.out tvs;have N6:Hid _:=gY M6.out 0 tv.toList (show w.heap.size+1≠w.heap.size+2 by omega);have n9:=aK (show w.heap.size<=w.heap.size+2 by omega) tv.toList 0 _ n8;have O9:Hid _:=OwnC.gb O8.out (aH (w.heap.size+2) tv.toList 0 _ _ (ao _ _)) (show g4≠w.heap.size+2 by omega);refine dz 10 6 21 rfl HS6.out ?_;refine dz 11 7 30 rfl HS7.out ?_;refine dc ?_;go_wp2_with fail;refine El (b:=w.heap.size+1) (c:=w.heap.size+2) Tryz.results68 rfl rfl (bC (P:=Tryz.prog) N6.out Tryz.underlying54 rfl (by rw [hsz2];exact dq)) (bC (P:=Tryz.prog) N7.out Tryz.underlying161 rfl (by rw [tvs];exact zY)) rfl ?_;refine ⟨⟨p,some (AD g4 0),cap4,by rw [HE.out,HTw.out];rfl,?_,fun q hq=>.inl hq,fun q hq=>by cases hq;exact .inr (show w.heap.size<=g4 by omega)⟩,n9⟩;refine ⟨HI.out.h.keep n9,?_,?_,⟨fun h=>(by cases h),fun q hq=>by cases hq;rfl⟩,?_,fun q hq=>by cases hq;exact (OwnC.facts O9.out).2.2.1⟩
 ·show RowC _ _ (r.looks++[(kind,va)]).length 2 _;rw [List.length_append,HN.out];exact OwnC.row O9.out
 ·show (r.looks++[(kind,va)]).length<=_∧_;rw [List.length_append,HN.out];exact HC4.out
 ·show (r.looks++[(kind,va)]).length<=_;rw [List.length_append,HN.out];show N+1<=8;omega
def FO:Prop:=∀(p:PtrM) (al:Option Addr) (cl:Nat) (pick:Int) (r:RunM) (kind va:Int) (w:World) (hr:RunIn w p al cl r) (hk:ROk r) (hpk:0<=pick∧pick<=255) (hkd:0<=kind∧kind<=2) (hv:inU va) (hll:r.looks.length<=7),Calls Tryz.prog 68 #[.agg (aG p al cl false pick r),VI kind,VU va] w fun e w'=>(∃p' al' cl',e=.returned (.tuple #[.agg (aG p' al' cl' false pick (bf false pick r kind va)),fZ (aT false pick r.h kind va).1])∧RunIn w' p' al' cl' (bf false pick r kind va)∧From w.heap.size p p'∧FromL w.heap.size al al')∧Bw w w'
def PlC (plain:Bool):Prop:=plain=true∨FO
end Go.Proofs.YthdgiakgepmabaaGreat
