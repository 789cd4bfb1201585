import Derived.Test.YtpdddbobhndbjaaGreatPk13
namespace Go.Proofs.YtpdddbobhndbjaaGreat
open Go.RowKit
set_option linter.unusedVariables false
set_option maxHeartbeats 6400000
set_option maxRecDepth 20000
theorem Tryz.infoU:(Tryz.prog.info? 25).map (fun i=>(i.zero,i.size,i.bytes))=some (some (.int .u64 0),1,8):=by kernel_rfl
theorem oX (zs:List Int):∀u∈cU zs,u.oneCell'=true:=by
 intro u hu;obtain ⟨_,_,rfl⟩:=List.mem_map.1 hu;rfl
theorem tx (zs:List Int) (i:Nat) (x:Int):(cU zs).set i (.int .u64 x)=cU (zs.set i x):=by simp [cU,List.map_set]
theorem rq (zs:List Int) (i:Nat) (h:i<zs.length):(cU zs)[i]?=some (.int .u64 (zs[i]?.getD 0)):=by
 simp [cU,h]
def vw (p:PtrM) (g cap:Nat):PtrM:=⟨p.am,p.cm,some ⟨g,0,none⟩,cap,p.a1,p.c1,p.a2,p.c2,p.a3,p.c3⟩
theorem RunIn.reg {w w':World} {p:PtrM} {al:Option Addr} {cl:Nat} {r:RunM} {rs:List Int} {g cap:Nat} (k:RunIn w p al cl r) (hb:Bw w w') (hr:RowC w' (some ⟨g,0,none⟩) rs.length 1 (cU rs)) (hc:rs.length<=cap∧cap<=9223372036854775807) (hlt:g<w'.heap.size):
 RunIn w' (vw p g cap) al cl (bE r (eC r.h rs)):=
 ⟨⟨k.h.mem.keep hb,k.h.memc,hr,hc,⟨fun h=>(by cases h),fun q hq=>by cases hq;rfl⟩,k.h.ks.keep hb,fun q hq=>by
  simp only [aV,vw,List.mem_cons,List.not_mem_nil,or_false] at hq;have hl:=fun q hq=>Nat.lt_of_lt_of_le (k.h.low q hq) hb.size;rcases hq with hq | hq | hq | hq | hq
  ·exact hl q (by simp [aV,hq])
  ·cases hq;exact hlt
  ·exact hl q (by simp [aV,hq])
  ·exact hl q (by simp [aV,hq])
  ·exact hl q (by simp [aV,hq])⟩,k.looks.keep hb,k.lookc,k.looka,k.lookl,fun q hq=>Nat.lt_of_lt_of_le (k.low q hq) hb.size⟩
theorem tz {B g cap:Nat} {p:PtrM} (h:B<=g):From B p (vw p g cap):=fun q hq=>by
 simp only [aV,vw,List.mem_cons,List.not_mem_nil,or_false] at hq;rcases hq with hq | hq | hq | hq | hq
 ·exact .inl (by simp [aV,hq])
 ·cases hq;exact .inr h
 ·exact .inl (by simp [aV,hq])
 ·exact .inl (by simp [aV,hq])
 ·exact .inl (by simp [aV,hq])
theorem iJ (p:PtrM) (al:Option Addr) (cl:Nat) (plain:Bool) (pick:Int) (r:RunM) (a x:Int) (w:World) (hr:RunIn w p al cl r) (ha:0<=a) (ha':a.toNat<r.h.regs.length) (hl:r.h.regs.length<=1048576):
 Calls Tryz.prog 88 #[.agg (aK p al cl plain pick r),.int .i64 a,.int .u64 x] w fun e w'=>(∃p',e=.returned (.agg (aK p' al cl plain pick (ct r a x)))∧RunIn w' p' al cl (ct r a x)∧From w.heap.size p p')∧Bw w w':=by
 obtain ⟨n,rfl⟩:=Int.eq_ofNat_of_zero_le ha;have HI:=hid hr;have HA:=hid ha';have HR:=hid hr.h.regs;have HRa:=hid hr.h.rega;have HP:Hid (∀g cap rs,rs.length=r.h.regs.length->(aK p al cl plain pick r).setIfInBounds 1 (.slice (some ⟨g,0,none⟩) r.h.regs.length cap)=aK (vw p g cap) al cl plain pick (bE r (eC r.h rs))):=fun g cap rs hl=>by
  unfold aK vw bE eC;simp [hl]
 have HM:Hid (ct r (n:Int) x=bE r (eC r.h (if 0<(n:Int) then r.h.regs.set n x else r.h.regs))):=rfl;have hsz:=bx p al cl plain pick r;have g1:(aK p al cl plain pick r)[1]?=some (.slice p.ar r.h.regs.length p.cr):=rfl;have HO:=hid (dn p al cl plain pick r);generalize hC:aK p al cl plain pick r=C at *;have hlen:=hl;generalize hN:r.h.regs.length=N at *;have hn:=HA.out;clear hr hC ha ha';go_enter Tryz.func88,Tryz.ntmps88;go_upto_region 1 with fail;obtain ⟨v1,Ev1,F⟩:=ax2 w C ey 51 51;rw [Ev1.out];clear Ev1;obtain ⟨h3,h6,l1,n1⟩:=F;have H3:Hid _:=h3;have H6:Hid _:=h6;have b1:w.heap.size<v1.heap.size:=by omega
 have b2:w.heap.size+1<v1.heap.size:=by omega
 have c1:=ab h3 1 g1;have OE:=OwnC.new 25 1 v1 [] 0 rfl (by decide);have nE:=(Below.refl v1.heap.size v1).alloc nle (Obj.cells #[] 25);clear h3 h6 l1;go_upto_region 2 with (at_builtin;refine iR _ rfl (.tmp 8) (.tmp 11) 24 rfl 25 Tryz.underlying24 (.int .u64 0) 1 8 Tryz.infoU rfl (by decide) v1.heap.size v1.heap.size 0 0 [] rfl OE p.ar N p.cr (cU r.h.regs) rfl HRa.out.1 HRa.out.2 (RowC.keep (RowC.keep HR.out n1) nE) (oX _) (by omega) (by omega) v1.heap.size v1 nE nle ?_;intro g2 cap2 v2 o2 n2;clear OE nE c1);simp only [Nat.zero_add,List.nil_append] at o2 |-;have f2:=o2.facts;have K3:Hid _:=ae H3.out n2 b1;have K6:Hid _:=ae H6.out n2 b2;have n12:=bst n1 n2;have z2:=n2.size;have hcap:(cap2:Int)<=9223372036854775807:=by have:=f2.2.2.2.2;unfold maxLen at this;omega
 have HM2:Hid (cap2<=9223372036854775807):=by have:=f2.2.2.2.2;unfold maxLen at this;exact this
 have hNc:=f2.2.2.2.1;have hg1:=f2.2.1;have hg2:=f2.2.2.1;clear f2 H3 H6 n1 n2 HR HRa;have b5:w.heap.size<v2.heap.size:=by omega
 have q1:=ab K3.out 1 g1;have q2:=ay K3.out 1;have ng:w.heap.size≠g2:=by omega
 have ng':g2≠w.heap.size:=by omega
 by_cases h0:0<n
 ·have h0':(0:Int)<(n:Int):=by omega
  have HM1:Hid (ct r (n:Int) x=bE r (eC r.h (r.h.regs.set n x))):=by
   have hm:=HM.out;rw [if_pos h0'] at hm;exact hm
  have s1:=aB o2 n _ (rq r.h.regs n (by omega));have s2:=aO o2 n;have O3:Hid (OwnC 25 1 (v2.setCell ⟨g2,n,none⟩ (.int .u64 x)) v1.heap.size g2 N cap2 (cU (r.h.regs.set n x))):=by
   have:=aF o2 n (.int .u64 x);rw [tx] at this;exact this
  have K3':Hid _:=bM K3.out n (.int .u64 x) (show w.heap.size≠g2 by omega);have K6':Hid _:=bM K6.out n (.int .u64 x) (show w.heap.size+1≠g2 by omega);have n3:=bN n12 (show w.heap.size<=g2 by omega) n (.int .u64 x);go_upto_region 4 with fail;generalize v2.setCell ⟨g2,n,none⟩ (.int .u64 x)=v3 at O3 K3' K6' n3 |-;clear q1 q2 s1 s2;have q1:=ab K3'.out 1 g1;have q2:=ay K3'.out 1;have b6:=(hpl K3'.out);go_upto_region 5 with fail;have K3q:Hid _:=bt K3'.out 1 (.slice (some ⟨g2,0,none⟩) N cap2);have K6q:Hid _:=bM K6'.out 1 (.slice (some ⟨g2,0,none⟩) N cap2) (show w.heap.size+1≠w.heap.size by omega);have n4:=bN n3 nle 1 (.slice (some ⟨g2,0,none⟩) N cap2);have O4:Hid _:=OwnC.gb O3.out (ak (aq v3 (some w.heap.size)) 1 (.slice (some ⟨g2,0,none⟩) N cap2)) ng';have HV:Hid _:=HP.out g2 cap2 (r.h.regs.set n x) (by simp [hN]);have hV:(C.setIfInBounds 1 (.slice (some ⟨g2,0,none⟩) N cap2)).size=31:=by simp only [Array.size_setIfInBounds,hsz]
  generalize v3.setCell ⟨w.heap.size,1,none⟩ (.slice (some ⟨g2,0,none⟩) N cap2)=v4 at K3q K6q n4 O4 |-;have hone:=mf HO.out 1 (v:=.slice (some ⟨g2,0,none⟩) N cap2) rfl;generalize C.setIfInBounds 1 (.slice (some ⟨g2,0,none⟩) N cap2)=D at K3q HV hV hone;have HLr:Hid _:=be (P:=Tryz.prog) (T:=51) K3q.out Tryz.underlying51 rfl (by rw [hV];exact cZ);have HSr:Hid _:=bh (P:=Tryz.prog) (T:=51) (V:=D) K6q.out (by rw [hV];exact cZ) (by rw [hV,aU]) hone;have e1:=aT (V:=D) K6q.out (by rw [hV,aU]);have e2:=aS (show w.heap.size<=w.heap.size+1 by omega) (D).toList 0 _ n4;have eG:=aJ (w.heap.size+1) (D).toList 0 v4 v4 (aq v4 _);go_wp2_with (first
   | ((with_reducible refine aZ ?_ HLr.out ?_);(exact rfl))
   | ((with_reducible refine aG ?_ ?_ HSr.out ?_);(exact rfl);(exact rfl)))
  refine dz (b:=w.heap.size+1) Tryz.results88 rfl (bu (P:=Tryz.prog) e1 Tryz.underlying51 rfl (by rw [hV];exact cZ)) rfl ?_;rw [HM1.out];exact ⟨⟨vw p g2 cap2,by rw [HV.out],RunIn.reg (rs:=r.h.regs.set n x) HI.out e2 (by rw [List.length_set,hN];exact (OwnC.gb O4.out eG (by omega)).row) (by rw [List.length_set,hN];exact ⟨hNc,HM2.out⟩) (OwnC.facts (OwnC.gb O4.out eG (show g2≠w.heap.size+1 by omega))).2.2.1,tz (by omega)⟩,e2⟩
 ·have h0':¬(0:Int)<(n:Int):=by omega
  have hn0:n=0:=by omega
  have HM1:Hid (ct r (n:Int) x=bE r (eC r.h r.h.regs)):=by
   have hm:=HM.out;rw [if_neg h0'] at hm;exact hm
  clear hn0;have O2:Hid _:=o2;clear o2;go_upto_region 5 with fail;have K3q:Hid _:=bt K3.out 1 (.slice (some ⟨g2,0,none⟩) N cap2);have K6q:Hid _:=bM K6.out 1 (.slice (some ⟨g2,0,none⟩) N cap2) (show w.heap.size+1≠w.heap.size by omega);have n4:=bN n12 nle 1 (.slice (some ⟨g2,0,none⟩) N cap2);have O4:Hid _:=OwnC.gb O2.out (ak (aq v2 (some w.heap.size)) 1 (.slice (some ⟨g2,0,none⟩) N cap2)) ng';have HV:Hid _:=HP.out g2 cap2 r.h.regs hN;have hV:(C.setIfInBounds 1 (.slice (some ⟨g2,0,none⟩) N cap2)).size=31:=by simp only [Array.size_setIfInBounds,hsz]
  generalize v2.setCell ⟨w.heap.size,1,none⟩ (.slice (some ⟨g2,0,none⟩) N cap2)=v4 at K3q K6q n4 O4 |-;have hone:=mf HO.out 1 (v:=.slice (some ⟨g2,0,none⟩) N cap2) rfl;generalize C.setIfInBounds 1 (.slice (some ⟨g2,0,none⟩) N cap2)=D at K3q HV hV hone;have HLr:Hid _:=be (P:=Tryz.prog) (T:=51) K3q.out Tryz.underlying51 rfl (by rw [hV];exact cZ);have HSr:Hid _:=bh (P:=Tryz.prog) (T:=51) (V:=D) K6q.out (by rw [hV];exact cZ) (by rw [hV,aU]) hone;have e1:=aT (V:=D) K6q.out (by rw [hV,aU]);have e2:=aS (show w.heap.size<=w.heap.size+1 by omega) (D).toList 0 _ n4;have eG:=aJ (w.heap.size+1) (D).toList 0 v4 v4 (aq v4 _);go_wp2_with (first
   | ((with_reducible refine aZ ?_ HLr.out ?_);(exact rfl))
   | ((with_reducible refine aG ?_ ?_ HSr.out ?_);(exact rfl);(exact rfl)))
  refine dz (b:=w.heap.size+1) Tryz.results88 rfl (bu (P:=Tryz.prog) e1 Tryz.underlying51 rfl (by rw [hV];exact cZ)) rfl ?_;rw [HM1.out];exact ⟨⟨vw p g2 cap2,by rw [HV.out],RunIn.reg (rs:=r.h.regs) HI.out e2 (by rw [hN];exact (OwnC.gb O4.out eG (by omega)).row) (by rw [hN];exact ⟨hNc,HM2.out⟩) (OwnC.facts (OwnC.gb O4.out eG (show g2≠w.heap.size+1 by omega))).2.2.1,tz (by omega)⟩,e2⟩
def dW (zs:List Int):List Value:=zs.map (Value.int .u8)
theorem Aj {e:TypeId} {w:World} {g base:Nat} {zs:List Int} (h:Blk e w g zs) (hb:base<=g) (hl:zs.length<=1048576):w.ownsRow base e 1 (.slice (some ⟨g,0,none⟩) zs.length zs.length) zs.length (dW zs):=
 ⟨by simp [dW],.inr ⟨g,zs.length,(zs.map (Value.int .u8)).toArray,rfl,hb,h,nle,by unfold maxLen;omega,by simp,by simp [dW,List.take_of_length_le]⟩⟩
theorem uU (zs:List Int):∀u∈dW zs,u.oneCell'=true:=ya zs
theorem Byt.rowC {w:World} {a:Option Addr} {len:Nat} {zs:List Int} (h:Byt w a len zs):RowC w a len 1 (dW zs):=by
 obtain ⟨h1,h2,h3⟩:=h;refine ⟨by simp [dW,h1],?_⟩;rcases h3 with h3 | ⟨b,off,rfl,hb,hc⟩
 ·exact .inl h3
 ·refine .inr ⟨b,off,rfl,hb,fun i v hv=>?_⟩;have hi:i<len:=by
   have:=(List.getElem?_eq_some_iff.1 hv).1;simpa [dW,h1] using this
  rw [hc i hi];simp only [dW,List.getElem?_map] at hv;cases hz:zs[i]? with
  | none=>simp [hz] at hv
  | some z=>simpa [hz] using hv
theorem Byt.addr {w:World} {a:Option Addr} {len:Nat} {zs:List Int} (h:Byt w a len zs) (hl:0<len):(a=none->len=0)∧∀q,a=some q->q.spot=none:=by
 rcases h.2.2 with h3 | ⟨b,off,rfl,hb,hc⟩
 ·omega
 ·exact ⟨fun h=>(by cases h),fun q hq=>by cases hq;rfl⟩
def sN (p:PtrM) (gm cm gr cr:Nat):PtrM:=⟨some ⟨gm,0,none⟩,cm,some ⟨gr,0,none⟩,cr,p.a1,p.c1,p.a2,p.c2,p.a3,p.c3⟩
def pK (p:PtrM) (a1:Option Addr) (c1:Nat) (a2:Option Addr) (c2:Nat) (a3:Option Addr) (c3:Nat):PtrM:=⟨p.am,p.cm,p.ar,p.cr,a1,c1,a2,c2,a3,c3⟩
theorem KOwn.gb {base r:Nat} {w w':World} {v:Value} {k:KM} (h:KOwn base w v k) (hg:w.grownBy w' (some r)) (hr:r<base):KOwn base w' v k:=by
 obtain ⟨g1,c1,g2,c2,g3,c3,rfl,o1,o2,o3⟩:=h;exact ⟨g1,c1,g2,c2,g3,c3,rfl,aI o1 hg hr,aI o2 hg hr,aI o3 hg hr⟩
theorem KOwn.open {base:Nat} {w:World} {v:Value} {k:KM} (h:KOwn base w v k):∃a1 c1 a2 c2 a3 c3,∀p,v=.agg (kA (pK p a1 c1 a2 c2 a3 c3) k):=by
 obtain ⟨g1,c1,g2,c2,g3,c3,rfl,o1,o2,o3⟩:=h;exact ⟨some ⟨g1,0,none⟩,c1,some ⟨g2,0,none⟩,c2,some ⟨g3,0,none⟩,c3,fun p=>rfl⟩
def KRows (base:Nat) (w:World) (q:PtrM) (k:KM):Prop:=
 w.ownsRow base 121 6 (.slice q.a1 k.i.es.length q.c1) k.i.es.length (aR k.i.es)∧w.ownsRow base 121 6 (.slice q.a2 k.d.es.length q.c2) k.d.es.length (aR k.d.es)∧w.ownsRow base 121 6 (.slice q.a3 k.p.es.length q.c3) k.p.es.length (aR k.p.es)
theorem KRows.gb {base r:Nat} {w w':World} {q:PtrM} {k:KM} (h:KRows base w q k) (hg:w.grownBy w' (some r)) (hr:r<base):KRows base w' q k:=
 ⟨aI h.1 hg hr,aI h.2.1 hg hr,aI h.2.2 hg hr⟩
theorem KRows.set {base pb:Nat} {w w':World} {q:PtrM} {k:KM} {cur:Array Value} {T:TypeId} {f:Nat × Nat} (h:KRows base w q k) (hp:w.heap[pb]?=some (.cells cur T f)) (hT:T≠121) (hg:w.grownBy w' (some pb)):KRows base w' q k:=
 ⟨bw h.1 hp hT hg,bw h.2.1 hp hT hg,bw h.2.2 hp hT hg⟩
theorem KRows.keep {base:Nat} {w w':World} {q:PtrM} {k:KM} (h:KRows base w q k) (hb:Bw w w'):KRows base w' q k:=
 ⟨aj h.1 hb,aj h.2.1 hb,aj h.2.2 hb⟩
theorem iQ {base:Nat} {w:World} {t:TlbM} {a:Option Addr} {c:Nat} (ho:w.ownsRow base 121 6 (.slice a t.es.length c) t.es.length (aR t.es)) (hk:fy t):TlbAt w (.agg #[.int .i64 t.sets,.int .i64 t.ways,.slice a t.es.length c]) t:=by
 have hr:=ef ho;rcases ho.2 with ⟨h2,h3⟩ | ⟨g',cap',cur,h2,hb,hg,hc1,hc2,_⟩
 ·simp only [Value.slice.injEq] at h2;obtain ⟨rfl,h4,rfl⟩:=h2;exact ⟨none,0,rfl,hr,hk.1,hk.2.1,hk.2.2.1,hk.2.2.2,by omega,by omega,fun _=>⟨h4,rfl⟩,fun q hq=>(by cases hq)⟩
 ·simp only [Value.slice.injEq] at h2;obtain ⟨rfl,_,rfl⟩:=h2;exact ⟨some ⟨g',0,none⟩,_,rfl,hr,hk.1,hk.2.1,hk.2.2.1,hk.2.2.2,hc1,by unfold maxLen at hc2;omega,(by intro h;cases h),(by intro q hq;cases hq;rfl)⟩
theorem KRows.at {base:Nat} {w:World} {q:PtrM} {k:KM} (h:KRows base w q k) (hk:kOk k):KAt w (.agg (kA q k)) k:=
 ⟨_,_,_,_,_,_,rfl,iQ h.1 hk.1,iQ h.2.1 hk.2.1,iQ h.2.2 hk.2.2⟩
theorem dC {base size n c:Nat} {e:TypeId} {w:World} {a:Option Addr} {cs:List Value} (h:w.ownsRow base e size (.slice a n c) n cs) (q:Addr) (hq:a=some q):base<=q.block∧q.block<w.heap.size:=by
 subst hq;exact (bZ h).2
theorem KRows.ptrs {base:Nat} {w:World} {p:PtrM} {k:KM} (h:KRows base w p k) (q:Addr) (hq:p.a1=some q∨p.a2=some q∨p.a3=some q):base<=q.block∧q.block<w.heap.size:=by
 rcases hq with hq | hq | hq
 ·exact dC h.1 q hq
 ·exact dC h.2.1 q hq
 ·exact dC h.2.2 q hq
theorem ym {B:Nat} {p:PtrM} {a1 a2 a3:Option Addr} {c1 c2 c3:Nat} (h:∀q,(a1=some q∨a2=some q∨a3=some q)->B<=q.block):From B p (pK p a1 c1 a2 c2 a3 c3):=fun q hq=>by
 simp only [aV,pK,List.mem_cons,List.not_mem_nil,or_false] at hq;rcases hq with hq | hq | hq | hq | hq
 ·exact .inl (by simp [aV,hq])
 ·exact .inl (by simp [aV,hq])
 ·exact .inr (h q (.inl hq.symm))
 ·exact .inr (h q (.inr (.inl hq.symm)))
 ·exact .inr (h q (.inr (.inr hq.symm)))
theorem CY {B:Nat} {p:PtrM} {a1 a2 a3:Option Addr} {c1 c2 c3:Nat} (hp:∀q,some q∈aV p->q.block<B) (h:∀q,(a1=some q∨a2=some q∨a3=some q)->q.block<B):∀q,some q∈aV (pK p a1 c1 a2 c2 a3 c3)->q.block<B:=fun q hq=>by
 simp only [aV,pK,List.mem_cons,List.not_mem_nil,or_false] at hq;rcases hq with hq | hq | hq | hq | hq
 ·exact hp q (by simp [aV,hq])
 ·exact hp q (by simp [aV,hq])
 ·exact h q (.inl hq.symm)
 ·exact h q (.inr (.inl hq.symm))
 ·exact h q (.inr (.inr hq.symm))
theorem KOwn.rows {base:Nat} {w:World} {v:Value} {k:KM} (h:KOwn base w v k):∃a1 c1 a2 c2 a3 c3,∀p,v=.agg (kA (pK p a1 c1 a2 c2 a3 c3) k)∧KRows base w (pK p a1 c1 a2 c2 a3 c3) k:=by
 obtain ⟨g1,c1,g2,c2,g3,c3,rfl,o1,o2,o3⟩:=h;exact ⟨some ⟨g1,0,none⟩,c1,some ⟨g2,0,none⟩,c2,some ⟨g3,0,none⟩,c3,fun p=>⟨rfl,o1,o2,o3⟩⟩
theorem KAt.ok {w:World} {v:Value} {k:KM} (h:KAt w v k):kOk k:=by
 obtain ⟨a1,c1,a2,c2,a3,c3,rfl,h1,h2,h3⟩:=h;exact ⟨h1.ok,h2.ok,h3.ok⟩
theorem tq (p q:PtrM) (h:HartM) (k:KM):ig (ax p h) 12 (kA q k).toList=ax (pK p q.a1 q.c1 q.a2 q.c2 q.a3 q.c3) (withK h k):=by
 simp [ig,ax,kA,pK,withK]
theorem uV (p:PtrM) (k:KM):(kA p k).all (·.oneCell')=true:=by
 simp [kA,Value.oneCell']
theorem kI:(Tryz.prog.info? 39).map (·.size)=some 9:=by kernel_rfl
theorem xz (p:PtrM) (h:HartM) (w:World) (hi:HartIn w p h) (hm0:0<h.mem.length) (hm1:h.mem.length<=1048576) (hr1:h.regs.length<=1048576):
 Calls Tryz.prog 34 #[.agg (ax p h)] w fun e w'=>(∃p',e=.returned (.agg (ax p' h))∧HartIn w' p' h∧∀q,some q∈aV p'->w.heap.size<=q.block)∧Bw w w':=by
 have HI:=hid hi;have HB:=hid hi.mem.rowC;have HBa:Hid ((p.am=none->h.mem.length=0∧p.cm=0)∧∀q,p.am=some q->q.spot=none):=⟨fun hh=>absurd ((hi.mem.addr hm0).1 hh) (by omega),(hi.mem.addr hm0).2⟩;have HR:=hid hi.regs;have HRa:=hid hi.rega;have HK:=hid hi.ks;have HZ:=hid hi.mem.2.1;have HP:Hid (∀gm cm gr cr,((ax p h).setIfInBounds 0 (.slice (some ⟨gm,0,none⟩) h.mem.length cm)).setIfInBounds 1 (.slice (some ⟨gr,0,none⟩) h.regs.length cr)=ax (sN p gm cm gr cr) h):=fun gm cm gr cr=>rfl;have hsz:=eh p h;have g0:(ax p h)[0]?=some (.slice p.am h.mem.length p.cm):=rfl;have g1:(ax p h)[1]?=some (.slice p.ar h.regs.length p.cr):=rfl;have HO:=hid (gu p h);have HKp:Hid (∀x y,((((ax p h).setIfInBounds 0 x).setIfInBounds 1 y).toList.drop 12).take 9=(kA p h.k).toList):=fun x y=>by simp [ax,kA]
 generalize ax p h=C at *;obtain ⟨M,hM⟩:∃M,h.mem.length=M:=⟨_,rfl⟩;obtain ⟨N,hN⟩:∃N,h.regs.length=N:=⟨_,rfl⟩;rw [hM] at HB HBa g0 hm0 hm1 HP;rw [hN] at HR HRa g1 hr1 HP;have HM:=hid hM;have HN:=hid hN;clear hi hM hN;go_enter Tryz.func34,Tryz.ntmps34;go_upto_region 1 with fail;obtain ⟨v1,Ev1,F⟩:=ax2 w C ft 41 41;rw [Ev1.out];clear Ev1;obtain ⟨h3,h6,l1,n1⟩:=F;have H3:Hid _:=h3;have H6:Hid _:=h6;have b1:w.heap.size<v1.heap.size:=by omega
 have b2:w.heap.size+1<v1.heap.size:=by omega
 have c0:=ab h3 0 g0;have OE:=OwnC.new 5 1 v1 [] 0 rfl (by decide);have nE:=(Below.refl v1.heap.size v1).alloc nle (Obj.cells #[] 5);clear h3 h6 l1;go_upto_region 2 with (at_builtin;refine iR _ rfl (.tmp 3) (.tmp 5) 22 rfl 5 Tryz.underlying22 (.int .u8 0) 1 1 Tryz.infoB rfl (by decide) v1.heap.size v1.heap.size 0 0 [] rfl OE p.am M p.cm (dW h.mem) rfl HBa.out.1 HBa.out.2 (RowC.keep (RowC.keep HB.out n1) nE) (uU _) (by omega) (by omega) v1.heap.size v1 nE nle ?_;intro g2 cap2 v2 o2 n2;have c0:=ab (ae H3.out n2 b1) 0 g0;have f0:=ay (ae H3.out n2 b1) 0;have b3:=Nat.lt_of_lt_of_le b1 n2.size;clear OE nE);simp only [Nat.zero_add,List.nil_append] at o2 |-;have f2:=o2.facts;have hg1:=f2.2.1;have hg2:=f2.2.2.1;have HC2:Hid (M<=cap2∧cap2<=9223372036854775807):=⟨f2.2.2.2.1,by have:=f2.2.2.2.2;unfold maxLen at this;exact this⟩;have ng':g2≠w.heap.size:=by omega
 have n12:=bN (bst n1 n2) nle 0 (.slice (some ⟨g2,0,none⟩) M cap2);have K3:Hid _:=bt (ae H3.out n2 b1) 0 (.slice (some ⟨g2,0,none⟩) M cap2);have K6:Hid _:=bM (ae H6.out n2 b2) 0 (.slice (some ⟨g2,0,none⟩) M cap2) (show w.heap.size+1≠w.heap.size by omega);have O2:Hid _:=OwnC.gb o2 (ak (aq v2 (some w.heap.size)) 0 (.slice (some ⟨g2,0,none⟩) M cap2)) ng';have z2:v1.heap.size<=(v2.setCell ⟨w.heap.size,0,none⟩ (.slice (some ⟨g2,0,none⟩) M cap2)).heap.size:=by simp;exact n2.size
 have hg2':g2<(v2.setCell ⟨w.heap.size,0,none⟩ (.slice (some ⟨g2,0,none⟩) M cap2)).heap.size:=by simp;exact hg2
 generalize v2.setCell ⟨w.heap.size,0,none⟩ (.slice (some ⟨g2,0,none⟩) M cap2)=v3 at n12 K3 K6 O2 z2 hg2' |-;clear o2 f2 n2 H3 H6 c0 n1 hg2 HB HBa;have g1':(C.setIfInBounds 0 (.slice (some ⟨g2,0,none⟩) M cap2))[1]?=some (.slice p.ar N p.cr):=by
  rw [Array.getElem?_setIfInBounds_ne (by omega)];exact g1
 have c1:=ab K3.out 1 g1';have b4:w.heap.size<v3.heap.size:=by omega
 have b5:w.heap.size+1<v3.heap.size:=by omega
 have OE:=OwnC.new 25 1 v3 [] 0 rfl (by decide);have nE:=(Below.refl v3.heap.size v3).alloc nle (Obj.cells #[] 25);go_upto_region 3 with (at_builtin;refine iR _ rfl (.tmp 8) (.tmp 10) 24 rfl 25 Tryz.underlying24 (.int .u64 0) 1 8 Tryz.infoU rfl (by decide) v3.heap.size v3.heap.size 0 0 [] rfl OE p.ar N p.cr (cU h.regs) rfl HRa.out.1 HRa.out.2 (RowC.keep (RowC.keep HR.out n12) nE) (oX _) (by omega) (by omega) v3.heap.size v3 nE nle ?_;intro g4 cap4 v4 o4 n4;have c1:=ab (ae K3.out n4 b4) 1 g1';have f1:=ay (ae K3.out n4 b4) 1;have b6:=Nat.lt_of_lt_of_le b4 n4.size;clear OE nE);simp only [Nat.zero_add,List.nil_append] at o4 |-;have f4:=o4.facts;have hh1:=f4.2.1;have hh2:=f4.2.2.1;have HC4:Hid (N<=cap4∧cap4<=9223372036854775807):=⟨f4.2.2.2.1,by have:=f4.2.2.2.2;unfold maxLen at this;exact this⟩;have nh':g4≠w.heap.size:=by omega
 have n14:=bN (bst n12 n4) nle 1 (.slice (some ⟨g4,0,none⟩) N cap4);have J3:Hid _:=bt (ae K3.out n4 b4) 1 (.slice (some ⟨g4,0,none⟩) N cap4);have J6:Hid _:=bM (ae K6.out n4 b5) 1 (.slice (some ⟨g4,0,none⟩) N cap4) (show w.heap.size+1≠w.heap.size by omega);have O4:Hid _:=OwnC.gb o4 (ak (aq v4 (some w.heap.size)) 1 (.slice (some ⟨g4,0,none⟩) N cap4)) nh';have O5:Hid _:=OwnC.gb (OwnC.keep O2.out n4 hg2') (ak (aq v4 (some w.heap.size)) 1 (.slice (some ⟨g4,0,none⟩) N cap4)) ng';have z4:v3.heap.size<=(v4.setCell ⟨w.heap.size,1,none⟩ (.slice (some ⟨g4,0,none⟩) N cap4)).heap.size:=by simp;exact n4.size
 have hh2':g4<(v4.setCell ⟨w.heap.size,1,none⟩ (.slice (some ⟨g4,0,none⟩) N cap4)).heap.size:=by simp;exact hh2
 generalize v4.setCell ⟨w.heap.size,1,none⟩ (.slice (some ⟨g4,0,none⟩) N cap4)=v5 at n14 J3 J6 O4 O5 z4 hh2' |-;clear o4 f4 n4 K3 K6 c1 hh2 HR HRa O2 n12;have hsz2:((C.setIfInBounds 0 (.slice (some ⟨g2,0,none⟩) M cap2)).setIfInBounds 1 (.slice (some ⟨g4,0,none⟩) N cap4)).size=21:=by simp only [Array.size_setIfInBounds,hsz]
 have HE:Hid _:=HP.out g2 cap2 g4 cap4;have HLk:Hid _:=dw (P:=Tryz.prog) (T:=39) J3.out Tryz.underlying39 rfl (o:=12) (kA p h.k).toList kI (HKp.out _ _) rfl;have HKc:=hid fun u (hu:Bw w u)=>gH _ _ u (HK.out.keep hu);rw [show (kA p h.k).toList.toArray=kA p h.k from rfl] at HLk;generalize ((C.setIfInBounds 0 (.slice (some ⟨g2,0,none⟩) M cap2)).setIfInBounds 1 (.slice (some ⟨g4,0,none⟩) N cap4))=D at J3 hsz2 HE HLk;have b7:w.heap.size<v5.heap.size:=by omega
 have b8:w.heap.size+1<v5.heap.size:=by omega
 have HKK:=hid HK.out.ok;generalize kA p h.k=E at *;go_wp2_with (first | ((with_reducible refine aZ ?_ HLk.out ?_);(exact rfl)));refine (HKc.out v5 n14).mono ?_;rintro e v6 ⟨⟨x,rfl,hx⟩,n6⟩;obtain ⟨a1,c1,a2,c2,a3,c3,hxe⟩:=hx.rows;have hx0:=(hxe p).1;subst hx0;have HX:=hid ((hxe p).2);clear hxe hx;have I3:Hid _:=ae J3.out n6 b7;have I6:Hid _:=ae J6.out n6 b8;have n16:=bst n14 n6;have O6:Hid _:=OwnC.keep O4.out n6 hh2';have O7:Hid _:=OwnC.keep O5.out n6 (by omega);have hEs:(kA (pK p a1 c1 a2 c2 a3 c3) h.k).size=9:=rfl;have HSk:Hid _:=ep (P:=Tryz.prog) (T:=39) I3.out (o:=12) (V:=kA (pK p a1 c1 a2 c2 a3 c3) h.k) (by rw [hEs];exact kI) (by rw [hEs,hsz2];omega) (uV _ _);have e1:=cM w.heap.size (kA (pK p a1 c1 a2 c2 a3 c3) h.k).toList 12 v6 D _ _ I3.out (by rw [hsz2];show 12+9<=21;omega);rw [HE.out,tq] at e1;have L3:Hid _:=e1;have L6:Hid _:=gQ I6.out 12 (kA (pK p a1 c1 a2 c2 a3 c3) h.k).toList (show w.heap.size+1≠w.heap.size by omega);have n17:=aS (Nat.le_refl w.heap.size) (kA (pK p a1 c1 a2 c2 a3 c3) h.k).toList 12 v6 n16;have gG:=aJ w.heap.size (kA (pK p a1 c1 a2 c2 a3 c3) h.k).toList 12 v6 v6 (aq v6 _);have O8:Hid _:=OwnC.gb O6.out gG nh';have O9:Hid _:=OwnC.gb O7.out gG ng';have HX2:=hid (KRows.gb HX.out gG b7);have hDD:(ax (pK (sN p g2 cap2 g4 cap4) (pK p a1 c1 a2 c2 a3 c3).a1 (pK p a1 c1 a2 c2 a3 c3).c1 (pK p a1 c1 a2 c2 a3 c3).a2 (pK p a1 c1 a2 c2 a3 c3).c2 (pK p a1 c1 a2 c2 a3 c3).a3 (pK p a1 c1 a2 c2 a3 c3).c3) (withK h h.k)).size=21:=rfl;have hone:=gu (pK (sN p g2 cap2 g4 cap4) (pK p a1 c1 a2 c2 a3 c3).a1 (pK p a1 c1 a2 c2 a3 c3).c1 (pK p a1 c1 a2 c2 a3 c3).a2 (pK p a1 c1 a2 c2 a3 c3).c2 (pK p a1 c1 a2 c2 a3 c3).a3 (pK p a1 c1 a2 c2 a3 c3).c3) (withK h h.k);have HFin:Hid (ax (pK (sN p g2 cap2 g4 cap4) (pK p a1 c1 a2 c2 a3 c3).a1 (pK p a1 c1 a2 c2 a3 c3).c1 (pK p a1 c1 a2 c2 a3 c3).a2 (pK p a1 c1 a2 c2 a3 c3).c2 (pK p a1 c1 a2 c2 a3 c3).a3 (pK p a1 c1 a2 c2 a3 c3).c3) (withK h h.k)=ax (pK (sN p g2 cap2 g4 cap4) a1 c1 a2 c2 a3 c3) h):=rfl;generalize ax (pK (sN p g2 cap2 g4 cap4) (pK p a1 c1 a2 c2 a3 c3).a1 (pK p a1 c1 a2 c2 a3 c3).c1 (pK p a1 c1 a2 c2 a3 c3).a2 (pK p a1 c1 a2 c2 a3 c3).c2 (pK p a1 c1 a2 c2 a3 c3).a3 (pK p a1 c1 a2 c2 a3 c3).c3) (withK h h.k)=G at L3 hDD hone HFin;generalize kA (pK p a1 c1 a2 c2 a3 c3) h.k=E2 at *;go_upto_region 4 with (first | ((with_reducible refine aG ?_ ?_ HSk.out ?_);(exact rfl);(exact rfl)));generalize v6.setCells w.heap.size 12 E2.toList=v7 at L3 L6 n17 O8 O9 HX2 |-;have HLr:Hid _:=be (P:=Tryz.prog) (T:=41) L3.out Tryz.underlying41 rfl (by rw [hDD];exact fx);have HSr:Hid _:=bh (P:=Tryz.prog) (T:=41) (V:=G) L6.out (by rw [hDD];exact fx) (by rw [hDD,eF]) hone;have e1:=aT (V:=G) L6.out (by rw [hDD,eF]);have e2:=aS (show w.heap.size<=w.heap.size+1 by omega) (G).toList 0 _ n17;have eG:=aJ (w.heap.size+1) (G).toList 0 v7 v7 (aq v7 _);go_wp2_with (first
  | ((with_reducible refine aZ ?_ HLr.out ?_);(exact rfl))
  | ((with_reducible refine aG ?_ ?_ HSr.out ?_);(exact rfl);(exact rfl)))
 refine dz (b:=w.heap.size+1) Tryz.results34 rfl (bu (P:=Tryz.prog) e1 Tryz.underlying41 rfl (by rw [hDD];exact fx)) rfl ?_;have OA:=OwnC.gb O8.out eG (show g4≠w.heap.size+1 by omega);have OB:=OwnC.gb O9.out eG (show g2≠w.heap.size+1 by omega);have hX3:=KRows.gb HX2.out eG b8;have hks:=KRows.ptrs hX3;simp only [pK] at hks;refine ⟨⟨pK (sN p g2 cap2 g4 cap4) a1 c1 a2 c2 a3 c3,by rw [HFin.out],?_,?_⟩,e2⟩
 rotate_left 1
 ·intro q hq;simp only [aV,pK,sN,List.mem_cons,List.not_mem_nil,or_false] at hq;rcases hq with hq | hq | hq | hq | hq
  ·cases hq;show w.heap.size<=g2;omega
  ·cases hq;show w.heap.size<=g4;omega
  ·have:=(hks q (.inl hq.symm)).1;omega
  ·have:=(hks q (.inr (.inl hq.symm))).1;omega
  ·have:=(hks q (.inr (.inr hq.symm))).1;omega
 refine ⟨?_,?_,?_,?_,⟨fun hh=>(by cases hh),fun q hq=>by cases hq;rfl⟩,?_,?_⟩
 ·have:=OwnB.byt (e:=5) (zs:=h.mem) OB HZ.out;rw [HM.out];exact this
 ·rw [HM.out];exact HC2.out
 ·rw [HN.out];exact OA.row
 ·rw [HN.out];exact HC4.out
 ·exact KRows.at (q:=pK (sN p g2 cap2 g4 cap4) a1 c1 a2 c2 a3 c3) hX3 HKK.out
 ·intro q hq;simp only [aV,pK,sN,List.mem_cons,List.not_mem_nil,or_false] at hq;rcases hq with hq | hq | hq | hq | hq
  ·cases hq;exact (OwnC.facts OB).2.2.1
  ·cases hq;exact (OwnC.facts OA).2.2.1
  ·exact (hks q (.inl hq.symm)).2
  ·exact (hks q (.inr (.inl hq.symm))).2
  ·exact (hks q (.inr (.inr hq.symm))).2
section
attribute [local go_sem ↓] Go.wp_at_zero Go.wp_at_succ
def TransOwn (base:Nat) (w:World) (v:Value) (r:(Int × Int) × KM):Prop:=
 ∃s1 s2 s3,v=.agg #[.int .i64 r.1.1,.int .u64 r.1.2,.int .i64 r.2.i.sets,.int .i64 r.2.i.ways,s1,.int .i64 r.2.d.sets,.int .i64 r.2.d.ways,s2,.int .i64 r.2.p.sets,.int .i64 r.2.p.ways,s3]∧
  w.ownsRow base 121 6 s1 r.2.i.es.length (aR r.2.i.es)∧w.ownsRow base 121 6 s2 r.2.d.es.length (aR r.2.d.es)∧w.ownsRow base 121 6 s3 r.2.p.es.length (aR r.2.p.es)
theorem cN {v:World} {p:Nat} {T:TypeId} {a b c d e f g h i j k:Value} (hh:v.heap[p]?=some (.cells #[a,b,c,d,e,f,g,h,i,j,k] T (0,0))):
 v.cell? ⟨p,0,none⟩=some a∧v.cell? ⟨p,1,none⟩=some b∧v.cell? ⟨p,2,none⟩=some c∧v.cell? ⟨p,3,none⟩=some d∧v.cell? ⟨p,4,none⟩=some e∧v.cell? ⟨p,5,none⟩=some f∧v.cell? ⟨p,6,none⟩=some g∧v.cell? ⟨p,7,none⟩=some h∧v.cell? ⟨p,8,none⟩=some i∧v.cell? ⟨p,9,none⟩=some j∧v.cell? ⟨p,10,none⟩=some k:=by
 simp [World.cell?,hh]
theorem dF {v:World} {p:Nat} {T:TypeId} {xs:Array Value} (hh:v.heap[p]?=some (.cells xs T (0,0))) (i:Nat):v.frozen? ⟨p,i,none⟩=false:=by
 simp [World.frozen?,hh]
theorem qV {B:Nat} {a w:World} {g:Nat} (h:Below B a w) (hg:B<=g) (x0 x1 x2 x3 x4 x5 x6 x7 x8 x9 x10:Value):Below B a (((((((((((w.setCell ⟨g,0,none⟩ x0).setCell ⟨g,1,none⟩ x1).setCell ⟨g,2,none⟩ x2).setCell ⟨g,3,none⟩ x3).setCell ⟨g,4,none⟩ x4).setCell ⟨g,5,none⟩ x5).setCell ⟨g,6,none⟩ x6).setCell ⟨g,7,none⟩ x7).setCell ⟨g,8,none⟩ x8).setCell ⟨g,9,none⟩ x9).setCell ⟨g,10,none⟩ x10):=
 (((((((((((h.setCell (p:=⟨g,0,none⟩) hg x0).setCell (p:=⟨g,1,none⟩) hg x1).setCell (p:=⟨g,2,none⟩) hg x2).setCell (p:=⟨g,3,none⟩) hg x3).setCell (p:=⟨g,4,none⟩) hg x4).setCell (p:=⟨g,5,none⟩) hg x5).setCell (p:=⟨g,6,none⟩) hg x6).setCell (p:=⟨g,7,none⟩) hg x7).setCell (p:=⟨g,8,none⟩) hg x8).setCell (p:=⟨g,9,none⟩) hg x9).setCell (p:=⟨g,10,none⟩) hg x10)
theorem qW (w:World) (g:Nat) (x0 x1 x2 x3 x4 x5 x6 x7 x8 x9 x10:Value):w.grownBy (((((((((((w.setCell ⟨g,0,none⟩ x0).setCell ⟨g,1,none⟩ x1).setCell ⟨g,2,none⟩ x2).setCell ⟨g,3,none⟩ x3).setCell ⟨g,4,none⟩ x4).setCell ⟨g,5,none⟩ x5).setCell ⟨g,6,none⟩ x6).setCell ⟨g,7,none⟩ x7).setCell ⟨g,8,none⟩ x8).setCell ⟨g,9,none⟩ x9).setCell ⟨g,10,none⟩ x10) (some g):=
 (ak (ak (ak (ak (ak (ak (ak (ak (ak (ak (ak (aq w (some g)) 0 x0) 1 x1) 2 x2) 3 x3) 4 x4) 5 x5) 6 x6) 7 x7) 8 x8) 9 x9) 10 x10)
theorem qX (base:Nat) (w:World):w.ownsRow base 121 6 (.slice none 0 0) 0 []:=⟨rfl,.inl ⟨rfl,rfl⟩⟩
theorem sM (a:Option Addr) (len cap:Nat) (mode:Int) (sum mxr:Bool) (satp:Int) (v:Value) (k:KM) (kind va pick:Int) (w:World) (h:KAt w v k)
 (hbad:bW k=false∨kind<0∨2<kind∨mode<0∨2<mode∨pick<0∨255<pick):
 Calls Tryz.prog 86 #[.slice a len cap,dV mode sum mxr satp,v,.int .i64 kind,.int .u64 va,.int .i64 pick] w fun e w'=>(∃x,e=.returned x∧TransOwn w.heap.size w' x ((63,0),k0M))∧Bw w w':=by
 have HK:=hid fun u (hu:Bw w u)=>eN v k u (h.keep hu);obtain ⟨a1,c1,a2,c2,a3,c3,rfl,_⟩:=h;obtain ⟨q,hq⟩:∃q,bW k=q:=⟨_,rfl⟩;rw [hq] at hbad HK;clear hq;have n1:Bw w (((w.alloc (Obj.cells #[.int .i64 mode,.bool sum,.bool mxr,.int .u64 satp] 172)).alloc (Obj.cells #[.int .i64 k.i.sets,.int .i64 k.i.ways,.slice a1 k.i.es.length c1,.int .i64 k.d.sets,.int .i64 k.d.ways,.slice a2 k.d.es.length c2,.int .i64 k.p.sets,.int .i64 k.p.ways,.slice a3 k.p.es.length c3] 39)).alloc (Obj.cells #[.int .i64 0,.int .u64 0,.int .i64 0,.int .i64 0,.slice none 0 0,.int .i64 0,.int .i64 0,.slice none 0 0,.int .i64 0,.int .i64 0,.slice none 0 0] 175)):=(((Below.refl w.heap.size w).alloc nle _).alloc (by simp) _).alloc (by simp;omega) _;have H1:Hid ((((w.alloc (Obj.cells #[.int .i64 mode,.bool sum,.bool mxr,.int .u64 satp] 172)).alloc (Obj.cells #[.int .i64 k.i.sets,.int .i64 k.i.ways,.slice a1 k.i.es.length c1,.int .i64 k.d.sets,.int .i64 k.d.ways,.slice a2 k.d.es.length c2,.int .i64 k.p.sets,.int .i64 k.p.ways,.slice a3 k.p.es.length c3] 39)).alloc (Obj.cells #[.int .i64 0,.int .u64 0,.int .i64 0,.int .i64 0,.slice none 0 0,.int .i64 0,.int .i64 0,.slice none 0 0,.int .i64 0,.int .i64 0,.slice none 0 0] 175)).heap[w.heap.size]?=some (.cells #[.int .i64 mode,.bool sum,.bool mxr,.int .u64 satp] 172 (0,0))):=by
  show _=_;rw [heap_alloc_old _ _ (by simp;omega),heap_alloc_old _ _ (by simp)];exact heap_alloc_new w _
 have H2:Hid ((((w.alloc (Obj.cells #[.int .i64 mode,.bool sum,.bool mxr,.int .u64 satp] 172)).alloc (Obj.cells #[.int .i64 k.i.sets,.int .i64 k.i.ways,.slice a1 k.i.es.length c1,.int .i64 k.d.sets,.int .i64 k.d.ways,.slice a2 k.d.es.length c2,.int .i64 k.p.sets,.int .i64 k.p.ways,.slice a3 k.p.es.length c3] 39)).alloc (Obj.cells #[.int .i64 0,.int .u64 0,.int .i64 0,.int .i64 0,.slice none 0 0,.int .i64 0,.int .i64 0,.slice none 0 0,.int .i64 0,.int .i64 0,.slice none 0 0] 175)).heap[w.heap.size+1]?=some (.cells #[.int .i64 k.i.sets,.int .i64 k.i.ways,.slice a1 k.i.es.length c1,.int .i64 k.d.sets,.int .i64 k.d.ways,.slice a2 k.d.es.length c2,.int .i64 k.p.sets,.int .i64 k.p.ways,.slice a3 k.p.es.length c3] 39 (0,0))):=by
  show _=_;rw [heap_alloc_old _ _ (by simp)];have:=heap_alloc_new (w.alloc (Obj.cells #[.int .i64 mode,.bool sum,.bool mxr,.int .u64 satp] 172)) (Obj.cells #[.int .i64 k.i.sets,.int .i64 k.i.ways,.slice a1 k.i.es.length c1,.int .i64 k.d.sets,.int .i64 k.d.ways,.slice a2 k.d.es.length c2,.int .i64 k.p.sets,.int .i64 k.p.ways,.slice a3 k.p.es.length c3] 39);simp only [World.size_alloc] at this;exact this
 have H3:Hid ((((w.alloc (Obj.cells #[.int .i64 mode,.bool sum,.bool mxr,.int .u64 satp] 172)).alloc (Obj.cells #[.int .i64 k.i.sets,.int .i64 k.i.ways,.slice a1 k.i.es.length c1,.int .i64 k.d.sets,.int .i64 k.d.ways,.slice a2 k.d.es.length c2,.int .i64 k.p.sets,.int .i64 k.p.ways,.slice a3 k.p.es.length c3] 39)).alloc (Obj.cells #[.int .i64 0,.int .u64 0,.int .i64 0,.int .i64 0,.slice none 0 0,.int .i64 0,.int .i64 0,.slice none 0 0,.int .i64 0,.int .i64 0,.slice none 0 0] 175)).heap[w.heap.size+1+1]?=some (.cells #[.int .i64 0,.int .u64 0,.int .i64 0,.int .i64 0,.slice none 0 0,.int .i64 0,.int .i64 0,.slice none 0 0,.int .i64 0,.int .i64 0,.slice none 0 0] 175 (0,0))):=by
  have:=heap_alloc_new ((w.alloc (Obj.cells #[.int .i64 mode,.bool sum,.bool mxr,.int .u64 satp] 172)).alloc (Obj.cells #[.int .i64 k.i.sets,.int .i64 k.i.ways,.slice a1 k.i.es.length c1,.int .i64 k.d.sets,.int .i64 k.d.ways,.slice a2 k.d.es.length c2,.int .i64 k.p.sets,.int .i64 k.p.ways,.slice a3 k.p.es.length c3] 39)) (Obj.cells #[.int .i64 0,.int .u64 0,.int .i64 0,.int .i64 0,.slice none 0 0,.int .i64 0,.int .i64 0,.slice none 0 0,.int .i64 0,.int .i64 0,.slice none 0 0] 175);simp only [World.size_alloc] at this;exact this
 have l1:w.heap.size+1+1<(((w.alloc (Obj.cells #[.int .i64 mode,.bool sum,.bool mxr,.int .u64 satp] 172)).alloc (Obj.cells #[.int .i64 k.i.sets,.int .i64 k.i.ways,.slice a1 k.i.es.length c1,.int .i64 k.d.sets,.int .i64 k.d.ways,.slice a2 k.d.es.length c2,.int .i64 k.p.sets,.int .i64 k.p.ways,.slice a3 k.p.es.length c3] 39)).alloc (Obj.cells #[.int .i64 0,.int .u64 0,.int .i64 0,.int .i64 0,.slice none 0 0,.int .i64 0,.int .i64 0,.slice none 0 0,.int .i64 0,.int .i64 0,.slice none 0 0] 175)).heap.size:=by simp
 unfold dV;rcases (show q=false∨(q=true∧kind<0)∨(q=true∧0<=kind∧2<kind)∨(q=true∧0<=kind∧kind<=2∧mode<0)∨(q=true∧0<=kind∧kind<=2∧0<=mode∧2<mode)∨(q=true∧0<=kind∧kind<=2∧0<=mode∧mode<=2∧pick<0)∨(q=true∧0<=kind∧kind<=2∧0<=mode∧mode<=2∧0<=pick∧255<pick) by cases q <;> simp at hbad |- <;> omega) with rfl | ⟨rfl,h0⟩ | ⟨rfl,h0,h1⟩ | ⟨rfl,h0,h1,h2⟩ | ⟨rfl,h0,h1,h2,h3⟩ | ⟨rfl,h0,h1,h2,h3,h4⟩ | ⟨rfl,h0,h1,h2,h3,h4,h5⟩;all_goals
  clear hbad;go_enter Tryz.func86,Tryz.ntmps86;go_wp2_with fail;generalize (((w.alloc (Obj.cells #[.int .i64 mode,.bool sum,.bool mxr,.int .u64 satp] 172)).alloc (Obj.cells #[.int .i64 k.i.sets,.int .i64 k.i.ways,.slice a1 k.i.es.length c1,.int .i64 k.d.sets,.int .i64 k.d.ways,.slice a2 k.d.es.length c2,.int .i64 k.p.sets,.int .i64 k.p.ways,.slice a3 k.p.es.length c3] 39)).alloc (Obj.cells #[.int .i64 0,.int .u64 0,.int .i64 0,.int .i64 0,.slice none 0 0,.int .i64 0,.int .i64 0,.slice none 0 0,.int .i64 0,.int .i64 0,.slice none 0 0] 175))=v1 at n1 H1 H2 H3 l1 |-;refine (HK.out v1 n1).mono ?_;rintro e v2 ⟨rfl,n2⟩;have G3:Hid _:=ae H3.out n2 l1;have l2:=n2.size;obtain ⟨d0,d1,d2,d3⟩:=az (ae H1.out n2 (by omega));obtain ⟨j0,j1,j2,j3,j4,j5,j6,j7,j8,j9,j10⟩:=cN G3.out;have ff:=dF G3.out;have f0:=ff 0;have f1:=ff 1;have f2:=ff 2;have f3:=ff 3;have f4:=ff 4;have f5:=ff 5;have f6:=ff 6;have f7:=ff 7;have f8:=ff 8;have f9:=ff 9;have f10:=ff 10;clear ff;go_wp2_with fail;refine bodyPost_ret (v:=.agg #[.int .i64 63,.int .u64 0,.int .i64 0,.int .i64 0,.slice none 0 0,.int .i64 0,.int .i64 0,.slice none 0 0,.int .i64 0,.int .i64 0,.slice none 0 0]) (by simp [results,Tryz.results86,go_sem,j0,j1,j2,j3,j4,j5,j6,j7,j8,j9,j10]) rfl
   ⟨⟨_,rfl,.slice none 0 0,.slice none 0 0,.slice none 0 0,rfl,qX _ _,qX _ _,qX _ _⟩,qV (bst n1 n2) (by omega) _ _ _ _ _ _ _ _ _ _ _⟩
end
end Go.Proofs.YtpdddbobhndbjaaGreat
