import Derived.Test.YtgnnmgfgfihljaaGreatPk11
namespace Go.Proofs.YtgnnmgfgfihljaaGreat
open Go.RowKit
set_option linter.unusedVariables false
set_option maxHeartbeats 6400000
set_option maxRecDepth 20000
theorem Tryz.infoU:(Tryz.prog.info? 24).map (fun i=>(i.zero,i.size,i.bytes))=some (some (.int .u64 0),1,8):=by kernel_rfl
theorem sg (zs:List Int):∀u∈cH zs,u.oneCell'=true:=by
 intro u hu;obtain ⟨_,_,rfl⟩:=List.mem_map.1 hu;rfl
theorem yl (zs:List Int) (i:Nat) (x:Int):(cH zs).set i (.int .u64 x)=cH (zs.set i x):=by simp [cH,List.map_set]
theorem uu (zs:List Int) (i:Nat) (h:i<zs.length):(cH zs)[i]?=some (.int .u64 (zs[i]?.getD 0)):=by
 simp [cH,h]
def uv (p:PtrM) (g cap:Nat):PtrM:=⟨p.am,p.cm,some ⟨g,0,none⟩,cap,p.a1,p.c1,p.a2,p.c2,p.a3,p.c3⟩
theorem RunIn.reg {w w':World} {p:PtrM} {al:Option Addr} {cl:Nat} {r:RunM} {rs:List Int} {g cap:Nat} (k:RunIn w p al cl r) (hb:Below w.heap.size w w') (hr:RowC w' (some ⟨g,0,none⟩) rs.length 1 (cH rs)) (hc:rs.length<=cap∧cap<=9223372036854775807) (hlt:g<w'.heap.size):
 RunIn w' (uv p g cap) al cl (bH r (dY r.h rs)):=
 ⟨⟨k.h.mem.keep hb,k.h.memc,hr,hc,⟨fun h=>(by cases h),fun q hq=>by cases hq;rfl⟩,k.h.ks.keep hb,fun q hq=>by
  simp only [aV,uv,List.mem_cons,List.not_mem_nil,or_false] at hq;have hl:=fun q hq=>Nat.lt_of_lt_of_le (k.h.low q hq) hb.size;rcases hq with hq | hq | hq | hq | hq
  ·exact hl q (by simp [aV,hq])
  ·cases hq;exact hlt
  ·exact hl q (by simp [aV,hq])
  ·exact hl q (by simp [aV,hq])
  ·exact hl q (by simp [aV,hq])⟩,k.looks.keep hb,k.lookc,k.looka,k.lookl,fun q hq=>Nat.lt_of_lt_of_le (k.low q hq) hb.size⟩
theorem si {B g cap:Nat} {p:PtrM} (h:B<=g):From B p (uv p g cap):=fun q hq=>by
 simp only [aV,uv,List.mem_cons,List.not_mem_nil,or_false] at hq;rcases hq with hq | hq | hq | hq | hq
 ·exact .inl (by simp [aV,hq])
 ·cases hq;exact .inr h
 ·exact .inl (by simp [aV,hq])
 ·exact .inl (by simp [aV,hq])
 ·exact .inl (by simp [aV,hq])
theorem gU (p:PtrM) (al:Option Addr) (cl:Nat) (plain:Bool) (pick:Int) (r:RunM) (a x:Int) (w:World) (hr:RunIn w p al cl r) (ha:0<=a) (ha':a.toNat<r.h.regs.length) (hl:r.h.regs.length<=1048576):
 Calls Tryz.prog 120 #[.agg (aF p al cl plain pick r),.int .i64 a,.int .u64 x] w fun e w'=>(∃p',e=.returned (.agg (aF p' al cl plain pick (bU r a x)))∧RunIn w' p' al cl (bU r a x)∧From w.heap.size p p')∧Below w.heap.size w w':=by
 obtain ⟨n,rfl⟩:=Int.eq_ofNat_of_zero_le ha;have HI:=hid hr;have HA:=hid ha';have HR:=hid hr.h.regs;have HRa:=hid hr.h.rega;have HP:Hid (∀g cap rs,rs.length=r.h.regs.length->(aF p al cl plain pick r).setIfInBounds 1 (.slice (some ⟨g,0,none⟩) r.h.regs.length cap)=aF (uv p g cap) al cl plain pick (bH r (dY r.h rs))):=fun g cap rs hl=>by
  unfold aF uv bH dY;simp [hl]
 have HM:Hid (bU r (n:Int) x=bH r (dY r.h (if 0<(n:Int) then r.h.regs.set n x else r.h.regs))):=rfl;have hsz:=bh p al cl plain pick r;have g1:(aF p al cl plain pick r)[1]?=some (.slice p.ar r.h.regs.length p.cr):=rfl;have HO:=hid (cZ p al cl plain pick r);generalize hC:aF p al cl plain pick r=C at *;have hlen:=hl;generalize hN:r.h.regs.length=N at *;have hn:=HA.out;clear hr hC ha ha';go_enter Tryz.func120,Tryz.ntmps120;go_upto_region 1 with fail;have F:=eu w C dm 66 66;generalize (w.alloc (Obj.cells C 66)).alloc (Obj.cells dm 66)=v1 at F |-;obtain ⟨h3,h6,l1,n1⟩:=F;have H3:Hid _:=h3;have H6:Hid _:=h6;have b1:w.heap.size<v1.heap.size:=by omega
 have b2:w.heap.size+1<v1.heap.size:=by omega
 have c1:=aa h3 1 g1;have OE:=OwnC.new 24 1 v1 [] 0 rfl (by decide);have nE:=(Below.refl v1.heap.size v1).alloc nle (Obj.cells #[] 24);clear h3 h6 l1;go_upto_region 2 with (at_builtin;refine hU _ rfl (.tmp 8) (.tmp 11) 23 rfl 24 Tryz.underlying23 (.int .u64 0) 1 8 Tryz.infoU rfl (by decide) v1.heap.size v1.heap.size 0 0 [] rfl OE p.ar N p.cr (cH r.h.regs) rfl HRa.out.1 HRa.out.2 (RowC.keep (RowC.keep HR.out n1) nE) (sg _) (by omega) (by omega) v1.heap.size v1 nE nle ?_;intro g2 cap2 v2 o2 n2;clear OE nE c1);simp only [Nat.zero_add,List.nil_append] at o2 |-;have f2:=o2.facts;have K3:Hid _:=ae H3.out n2 b1;have K6:Hid _:=ae H6.out n2 b2;have n12:=bst n1 n2;have z2:=n2.size;have hcap:(cap2:Int)<=9223372036854775807:=by have:=f2.2.2.2.2;unfold maxLen at this;omega
 have HM2:Hid (cap2<=9223372036854775807):=by have:=f2.2.2.2.2;unfold maxLen at this;exact this
 have hNc:=f2.2.2.2.1;have hg1:=f2.2.1;have hg2:=f2.2.2.1;clear f2 H3 H6 n1 n2 HR HRa;have b5:w.heap.size<v2.heap.size:=by omega
 have q1:=aa K3.out 1 g1;have q2:=aE K3.out 1;have ng:w.heap.size≠g2:=by omega
 have ng':g2≠w.heap.size:=by omega
 by_cases h0:0<n
 ·have h0':(0:Int)<(n:Int):=by omega
  have HM1:Hid (bU r (n:Int) x=bH r (dY r.h (r.h.regs.set n x))):=by
   have hm:=HM.out;rw [if_pos h0'] at hm;exact hm
  have s1:=aw o2 n _ (uu r.h.regs n (by omega));have s2:=aD o2 n;have O3:Hid (OwnC 24 1 (v2.setCell ⟨g2,n,none⟩ (.int .u64 x)) v1.heap.size g2 N cap2 (cH (r.h.regs.set n x))):=by
   have:=ax o2 n (.int .u64 x);rw [yl] at this;exact this
  have K3':Hid _:=ba K3.out n (.int .u64 x) (show w.heap.size≠g2 by omega);have K6':Hid _:=ba K6.out n (.int .u64 x) (show w.heap.size+1≠g2 by omega);have n3:=bK n12 (show w.heap.size<=g2 by omega) n (.int .u64 x);go_upto_region 4 with fail;generalize v2.setCell ⟨g2,n,none⟩ (.int .u64 x)=v3 at O3 K3' K6' n3 |-;clear q1 q2 s1 s2;have q1:=aa K3'.out 1 g1;have q2:=aE K3'.out 1;have b6:=(hpl K3'.out);go_upto_region 5 with fail;have K3q:Hid _:=cu K3'.out 1 (.slice (some ⟨g2,0,none⟩) N cap2);have K6q:Hid _:=ba K6'.out 1 (.slice (some ⟨g2,0,none⟩) N cap2) (show w.heap.size+1≠w.heap.size by omega);have n4:=bK n3 nle 1 (.slice (some ⟨g2,0,none⟩) N cap2);have O4:Hid _:=OwnC.gb O3.out (ak (au v3 (some w.heap.size)) 1 (.slice (some ⟨g2,0,none⟩) N cap2)) ng';have HV:Hid _:=HP.out g2 cap2 (r.h.regs.set n x) (by simp [hN]);have hV:(C.setIfInBounds 1 (.slice (some ⟨g2,0,none⟩) N cap2)).size=31:=by simp only [Array.size_setIfInBounds,hsz]
  generalize v3.setCell ⟨w.heap.size,1,none⟩ (.slice (some ⟨g2,0,none⟩) N cap2)=v4 at K3q K6q n4 O4 |-;have hone:=kQ HO.out 1 (v:=.slice (some ⟨g2,0,none⟩) N cap2) rfl;generalize C.setIfInBounds 1 (.slice (some ⟨g2,0,none⟩) N cap2)=D at K3q HV hV hone;have HLr:Hid _:=aT (P:=Tryz.prog) (T:=66) K3q.out Tryz.underlying66 rfl (by rw [hV];exact cR);have HSr:Hid _:=bB (P:=Tryz.prog) (T:=66) (V:=D) K6q.out (by rw [hV];exact cR) (by rw [hV,aR]) hone;have e1:=aX (V:=D) K6q.out (by rw [hV,aR]);have e2:=aS (show w.heap.size<=w.heap.size+1 by omega) (D).toList 0 _ n4;have eG:=aM (w.heap.size+1) (D).toList 0 v4 v4 (au v4 _);go_wp2_with (first
   | ((with_reducible refine aI ?_ HLr.out ?_);(exact rfl))
   | ((with_reducible refine aH ?_ ?_ HSr.out ?_);(exact rfl);(exact rfl)))
  refine dx (b:=w.heap.size+1) Tryz.results120 rfl (bx (P:=Tryz.prog) e1 Tryz.underlying66 rfl (by rw [hV];exact cR)) rfl ?_;rw [HM1.out];exact ⟨⟨uv p g2 cap2,by rw [HV.out],RunIn.reg (rs:=r.h.regs.set n x) HI.out e2 (by rw [List.length_set,hN];exact (OwnC.gb O4.out eG (by omega)).row) (by rw [List.length_set,hN];exact ⟨hNc,HM2.out⟩) (OwnC.facts (OwnC.gb O4.out eG (show g2≠w.heap.size+1 by omega))).2.2.1,si (by omega)⟩,e2⟩
 ·have h0':¬(0:Int)<(n:Int):=by omega
  have hn0:n=0:=by omega
  have HM1:Hid (bU r (n:Int) x=bH r (dY r.h r.h.regs)):=by
   have hm:=HM.out;rw [if_neg h0'] at hm;exact hm
  clear hn0;have O2:Hid _:=o2;clear o2;go_upto_region 5 with fail;have K3q:Hid _:=cu K3.out 1 (.slice (some ⟨g2,0,none⟩) N cap2);have K6q:Hid _:=ba K6.out 1 (.slice (some ⟨g2,0,none⟩) N cap2) (show w.heap.size+1≠w.heap.size by omega);have n4:=bK n12 nle 1 (.slice (some ⟨g2,0,none⟩) N cap2);have O4:Hid _:=OwnC.gb O2.out (ak (au v2 (some w.heap.size)) 1 (.slice (some ⟨g2,0,none⟩) N cap2)) ng';have HV:Hid _:=HP.out g2 cap2 r.h.regs hN;have hV:(C.setIfInBounds 1 (.slice (some ⟨g2,0,none⟩) N cap2)).size=31:=by simp only [Array.size_setIfInBounds,hsz]
  generalize v2.setCell ⟨w.heap.size,1,none⟩ (.slice (some ⟨g2,0,none⟩) N cap2)=v4 at K3q K6q n4 O4 |-;have hone:=kQ HO.out 1 (v:=.slice (some ⟨g2,0,none⟩) N cap2) rfl;generalize C.setIfInBounds 1 (.slice (some ⟨g2,0,none⟩) N cap2)=D at K3q HV hV hone;have HLr:Hid _:=aT (P:=Tryz.prog) (T:=66) K3q.out Tryz.underlying66 rfl (by rw [hV];exact cR);have HSr:Hid _:=bB (P:=Tryz.prog) (T:=66) (V:=D) K6q.out (by rw [hV];exact cR) (by rw [hV,aR]) hone;have e1:=aX (V:=D) K6q.out (by rw [hV,aR]);have e2:=aS (show w.heap.size<=w.heap.size+1 by omega) (D).toList 0 _ n4;have eG:=aM (w.heap.size+1) (D).toList 0 v4 v4 (au v4 _);go_wp2_with (first
   | ((with_reducible refine aI ?_ HLr.out ?_);(exact rfl))
   | ((with_reducible refine aH ?_ ?_ HSr.out ?_);(exact rfl);(exact rfl)))
  refine dx (b:=w.heap.size+1) Tryz.results120 rfl (bx (P:=Tryz.prog) e1 Tryz.underlying66 rfl (by rw [hV];exact cR)) rfl ?_;rw [HM1.out];exact ⟨⟨uv p g2 cap2,by rw [HV.out],RunIn.reg (rs:=r.h.regs) HI.out e2 (by rw [hN];exact (OwnC.gb O4.out eG (by omega)).row) (by rw [hN];exact ⟨hNc,HM2.out⟩) (OwnC.facts (OwnC.gb O4.out eG (show g2≠w.heap.size+1 by omega))).2.2.1,si (by omega)⟩,e2⟩
def ja (zs:List Int):List Value:=zs.map (Value.int .u8)
theorem ua {e:TypeId} {w:World} {g base:Nat} {zs:List Int} (h:Blk e w g zs) (hb:base<=g) (hl:zs.length<=1048576):w.ownsRow base e 1 (.slice (some ⟨g,0,none⟩) zs.length zs.length) zs.length (ja zs):=
 ⟨by simp [ja],.inr ⟨g,zs.length,(zs.map (Value.int .u8)).toArray,rfl,hb,h,nle,by unfold maxLen;omega,by simp,by simp [ja,List.take_of_length_le]⟩⟩
theorem zi (zs:List Int):∀u∈ja zs,u.oneCell'=true:=wU zs
theorem Byt.rowC {w:World} {a:Option Addr} {len:Nat} {zs:List Int} (h:Byt w a len zs):RowC w a len 1 (ja zs):=by
 obtain ⟨h1,h2,h3⟩:=h;refine ⟨by simp [ja,h1],?_⟩;rcases h3 with h3 | ⟨b,off,rfl,hb,hc⟩
 ·exact .inl h3
 ·refine .inr ⟨b,off,rfl,hb,fun i v hv=>?_⟩;have hi:i<len:=by
   have:=(List.getElem?_eq_some_iff.1 hv).1;simpa [ja,h1] using this
  rw [hc i hi];simp only [ja,List.getElem?_map] at hv;cases hz:zs[i]? with
  | none=>simp [hz] at hv
  | some z=>simpa [hz] using hv
theorem Byt.addr {w:World} {a:Option Addr} {len:Nat} {zs:List Int} (h:Byt w a len zs) (hl:0<len):(a=none->len=0)∧∀q,a=some q->q.spot=none:=by
 rcases h.2.2 with h3 | ⟨b,off,rfl,hb,hc⟩
 ·omega
 ·exact ⟨fun h=>(by cases h),fun q hq=>by cases hq;rfl⟩
def rB (p:PtrM) (gm cm gr cr:Nat):PtrM:=⟨some ⟨gm,0,none⟩,cm,some ⟨gr,0,none⟩,cr,p.a1,p.c1,p.a2,p.c2,p.a3,p.c3⟩
def pK (p:PtrM) (a1:Option Addr) (c1:Nat) (a2:Option Addr) (c2:Nat) (a3:Option Addr) (c3:Nat):PtrM:=⟨p.am,p.cm,p.ar,p.cr,a1,c1,a2,c2,a3,c3⟩
theorem KOwn.gb {base r:Nat} {w w':World} {v:Value} {k:KM} (h:KOwn base w v k) (hg:w.grownBy w' (some r)) (hr:r<base):KOwn base w' v k:=by
 obtain ⟨g1,c1,g2,c2,g3,c3,rfl,o1,o2,o3⟩:=h;exact ⟨g1,c1,g2,c2,g3,c3,rfl,bX o1 hg hr,bX o2 hg hr,bX o3 hg hr⟩
theorem KOwn.open {base:Nat} {w:World} {v:Value} {k:KM} (h:KOwn base w v k):∃a1 c1 a2 c2 a3 c3,∀p,v=.agg (kA (pK p a1 c1 a2 c2 a3 c3) k):=by
 obtain ⟨g1,c1,g2,c2,g3,c3,rfl,o1,o2,o3⟩:=h;exact ⟨some ⟨g1,0,none⟩,c1,some ⟨g2,0,none⟩,c2,some ⟨g3,0,none⟩,c3,fun p=>rfl⟩
def KRows (base:Nat) (w:World) (q:PtrM) (k:KM):Prop:=
 w.ownsRow base 153 6 (.slice q.a1 k.i.es.length q.c1) k.i.es.length (az k.i.es)∧w.ownsRow base 153 6 (.slice q.a2 k.d.es.length q.c2) k.d.es.length (az k.d.es)∧w.ownsRow base 153 6 (.slice q.a3 k.p.es.length q.c3) k.p.es.length (az k.p.es)
theorem KRows.gb {base r:Nat} {w w':World} {q:PtrM} {k:KM} (h:KRows base w q k) (hg:w.grownBy w' (some r)) (hr:r<base):KRows base w' q k:=
 ⟨bX h.1 hg hr,bX h.2.1 hg hr,bX h.2.2 hg hr⟩
theorem KRows.set {base pb:Nat} {w w':World} {q:PtrM} {k:KM} {cur:Array Value} {T:TypeId} {f:Nat × Nat} (h:KRows base w q k) (hp:w.heap[pb]?=some (.cells cur T f)) (hT:T≠153) (hg:w.grownBy w' (some pb)):KRows base w' q k:=
 ⟨fH h.1 hp hT hg,fH h.2.1 hp hT hg,fH h.2.2 hp hT hg⟩
theorem KRows.keep {base:Nat} {w w':World} {q:PtrM} {k:KM} (h:KRows base w q k) (hb:Below w.heap.size w w'):KRows base w' q k:=
 ⟨ag h.1 hb,ag h.2.1 hb,ag h.2.2 hb⟩
theorem ni {base:Nat} {w:World} {t:TlbM} {a:Option Addr} {c:Nat} (ho:w.ownsRow base 153 6 (.slice a t.es.length c) t.es.length (az t.es)) (hk:eh t):TlbAt w (.agg #[.int .i64 t.sets,.int .i64 t.ways,.slice a t.es.length c]) t:=by
 have hr:=dv ho;rcases ho.2 with ⟨h2,h3⟩ | ⟨g',cap',cur,h2,hb,hg,hc1,hc2,_⟩
 ·simp only [Value.slice.injEq] at h2;obtain ⟨rfl,h4,rfl⟩:=h2;exact ⟨none,0,rfl,hr,hk.1,hk.2.1,hk.2.2.1,hk.2.2.2,by omega,by omega,fun _=>⟨h4,rfl⟩,fun q hq=>(by cases hq)⟩
 ·simp only [Value.slice.injEq] at h2;obtain ⟨rfl,_,rfl⟩:=h2;exact ⟨some ⟨g',0,none⟩,_,rfl,hr,hk.1,hk.2.1,hk.2.2.1,hk.2.2.2,hc1,by unfold maxLen at hc2;omega,(by intro h;cases h),(by intro q hq;cases hq;rfl)⟩
theorem KRows.at {base:Nat} {w:World} {q:PtrM} {k:KM} (h:KRows base w q k) (hk:kOk k):KAt w (.agg (kA q k)) k:=
 ⟨_,_,_,_,_,_,rfl,ni h.1 hk.1,ni h.2.1 hk.2.1,ni h.2.2 hk.2.2⟩
theorem jb {base size n c:Nat} {e:TypeId} {w:World} {a:Option Addr} {cs:List Value} (h:w.ownsRow base e size (.slice a n c) n cs) (q:Addr) (hq:a=some q):base<=q.block∧q.block<w.heap.size:=by
 subst hq;exact (bC h).2
theorem KRows.ptrs {base:Nat} {w:World} {p:PtrM} {k:KM} (h:KRows base w p k) (q:Addr) (hq:p.a1=some q∨p.a2=some q∨p.a3=some q):base<=q.block∧q.block<w.heap.size:=by
 rcases hq with hq | hq | hq
 ·exact jb h.1 q hq
 ·exact jb h.2.1 q hq
 ·exact jb h.2.2 q hq
theorem xu {B:Nat} {p:PtrM} {a1 a2 a3:Option Addr} {c1 c2 c3:Nat} (h:∀q,(a1=some q∨a2=some q∨a3=some q)->B<=q.block):From B p (pK p a1 c1 a2 c2 a3 c3):=fun q hq=>by
 simp only [aV,pK,List.mem_cons,List.not_mem_nil,or_false] at hq;rcases hq with hq | hq | hq | hq | hq
 ·exact .inl (by simp [aV,hq])
 ·exact .inl (by simp [aV,hq])
 ·exact .inr (h q (.inl hq.symm))
 ·exact .inr (h q (.inr (.inl hq.symm)))
 ·exact .inr (h q (.inr (.inr hq.symm)))
theorem Bo {B:Nat} {p:PtrM} {a1 a2 a3:Option Addr} {c1 c2 c3:Nat} (hp:∀q,some q∈aV p->q.block<B) (h:∀q,(a1=some q∨a2=some q∨a3=some q)->q.block<B):∀q,some q∈aV (pK p a1 c1 a2 c2 a3 c3)->q.block<B:=fun q hq=>by
 simp only [aV,pK,List.mem_cons,List.not_mem_nil,or_false] at hq;rcases hq with hq | hq | hq | hq | hq
 ·exact hp q (by simp [aV,hq])
 ·exact hp q (by simp [aV,hq])
 ·exact h q (.inl hq.symm)
 ·exact h q (.inr (.inl hq.symm))
 ·exact h q (.inr (.inr hq.symm))
theorem KOwn.rows {base:Nat} {w:World} {v:Value} {k:KM} (h:KOwn base w v k):∃a1 c1 a2 c2 a3 c3,∀p,v=.agg (kA (pK p a1 c1 a2 c2 a3 c3) k)∧KRows base w (pK p a1 c1 a2 c2 a3 c3) k:=by
 obtain ⟨g1,c1,g2,c2,g3,c3,rfl,o1,o2,o3⟩:=h;exact ⟨some ⟨g1,0,none⟩,c1,some ⟨g2,0,none⟩,c2,some ⟨g3,0,none⟩,c3,fun p=>⟨rfl,o1,o2,o3⟩⟩
theorem KAt.ok {w:World} {v:Value} {k:KM} (h:KAt w v k):kOk k:=by
 obtain ⟨a1,c1,a2,c2,a3,c3,rfl,h1,h2,h3⟩:=h;exact ⟨h1.ok,h2.ok,h3.ok⟩
theorem rX (p q:PtrM) (h:HartM) (k:KM):iG (ah p h) 12 (kA q k).toList=ah (pK p q.a1 q.c1 q.a2 q.c2 q.a3 q.c3) (withK h k):=by
 simp [iG,ah,kA,pK,withK]
theorem rY (p:PtrM) (k:KM):(kA p k).all (·.oneCell')=true:=by
 simp [kA,Value.oneCell']
theorem kI:(Tryz.prog.info? 37).map (·.size)=some 9:=by kernel_rfl
theorem wk (p:PtrM) (h:HartM) (w:World) (hi:HartIn w p h) (hm0:0<h.mem.length) (hm1:h.mem.length<=1048576) (hr1:h.regs.length<=1048576):
 Calls Tryz.prog 49 #[.agg (ah p h)] w fun e w'=>(∃p',e=.returned (.agg (ah p' h))∧HartIn w' p' h∧∀q,some q∈aV p'->w.heap.size<=q.block)∧Below w.heap.size w w':=by
 have HI:=hid hi;have HB:=hid hi.mem.rowC;have HBa:Hid ((p.am=none->h.mem.length=0∧p.cm=0)∧∀q,p.am=some q->q.spot=none):=⟨fun hh=>absurd ((hi.mem.addr hm0).1 hh) (by omega),(hi.mem.addr hm0).2⟩;have HR:=hid hi.regs;have HRa:=hid hi.rega;have HK:=hid hi.ks;have HZ:=hid hi.mem.2.1;have HP:Hid (∀gm cm gr cr,((ah p h).setIfInBounds 0 (.slice (some ⟨gm,0,none⟩) h.mem.length cm)).setIfInBounds 1 (.slice (some ⟨gr,0,none⟩) h.regs.length cr)=ah (rB p gm cm gr cr) h):=fun gm cm gr cr=>rfl;have hsz:=fX p h;have g0:(ah p h)[0]?=some (.slice p.am h.mem.length p.cm):=rfl;have g1:(ah p h)[1]?=some (.slice p.ar h.regs.length p.cr):=rfl;have HO:=hid (hZ p h);have HKp:Hid (∀x y,((((ah p h).setIfInBounds 0 x).setIfInBounds 1 y).toList.drop 12).take 9=(kA p h.k).toList):=fun x y=>by simp [ah,kA]
 generalize ah p h=C at *;obtain ⟨M,hM⟩:∃M,h.mem.length=M:=⟨_,rfl⟩;obtain ⟨N,hN⟩:∃N,h.regs.length=N:=⟨_,rfl⟩;rw [hM] at HB HBa g0 hm0 hm1 HP;rw [hN] at HR HRa g1 hr1 HP;have HM:=hid hM;have HN:=hid hN;clear hi hM hN;go_enter Tryz.func49,Tryz.ntmps49;go_upto_region 1 with fail;have F:=eu w C ft 39 39;generalize (w.alloc (Obj.cells C 39)).alloc (Obj.cells ft 39)=v1 at F |-;obtain ⟨h3,h6,l1,n1⟩:=F;have H3:Hid _:=h3;have H6:Hid _:=h6;have b1:w.heap.size<v1.heap.size:=by omega
 have b2:w.heap.size+1<v1.heap.size:=by omega
 have c0:=aa h3 0 g0;have OE:=OwnC.new 5 1 v1 [] 0 rfl (by decide);have nE:=(Below.refl v1.heap.size v1).alloc nle (Obj.cells #[] 5);clear h3 h6 l1;go_upto_region 2 with (at_builtin;refine hU _ rfl (.tmp 3) (.tmp 5) 22 rfl 5 Tryz.underlying22 (.int .u8 0) 1 1 Tryz.infoB rfl (by decide) v1.heap.size v1.heap.size 0 0 [] rfl OE p.am M p.cm (ja h.mem) rfl HBa.out.1 HBa.out.2 (RowC.keep (RowC.keep HB.out n1) nE) (zi _) (by omega) (by omega) v1.heap.size v1 nE nle ?_;intro g2 cap2 v2 o2 n2;have c0:=aa (ae H3.out n2 b1) 0 g0;have f0:=aE (ae H3.out n2 b1) 0;have b3:=Nat.lt_of_lt_of_le b1 n2.size;clear OE nE);simp only [Nat.zero_add,List.nil_append] at o2 |-;have f2:=o2.facts;have hg1:=f2.2.1;have hg2:=f2.2.2.1;have HC2:Hid (M<=cap2∧cap2<=9223372036854775807):=⟨f2.2.2.2.1,by have:=f2.2.2.2.2;unfold maxLen at this;exact this⟩;have ng':g2≠w.heap.size:=by omega
 have n12:=bK (bst n1 n2) nle 0 (.slice (some ⟨g2,0,none⟩) M cap2);have K3:Hid _:=cu (ae H3.out n2 b1) 0 (.slice (some ⟨g2,0,none⟩) M cap2);have K6:Hid _:=ba (ae H6.out n2 b2) 0 (.slice (some ⟨g2,0,none⟩) M cap2) (show w.heap.size+1≠w.heap.size by omega);have O2:Hid _:=OwnC.gb o2 (ak (au v2 (some w.heap.size)) 0 (.slice (some ⟨g2,0,none⟩) M cap2)) ng';have z2:v1.heap.size<=(v2.setCell ⟨w.heap.size,0,none⟩ (.slice (some ⟨g2,0,none⟩) M cap2)).heap.size:=by simp;exact n2.size
 have hg2':g2<(v2.setCell ⟨w.heap.size,0,none⟩ (.slice (some ⟨g2,0,none⟩) M cap2)).heap.size:=by simp;exact hg2
 generalize v2.setCell ⟨w.heap.size,0,none⟩ (.slice (some ⟨g2,0,none⟩) M cap2)=v3 at n12 K3 K6 O2 z2 hg2' |-;clear o2 f2 n2 H3 H6 c0 n1 hg2 HB HBa;have g1':(C.setIfInBounds 0 (.slice (some ⟨g2,0,none⟩) M cap2))[1]?=some (.slice p.ar N p.cr):=by
  rw [Array.getElem?_setIfInBounds_ne (by omega)];exact g1
 have c1:=aa K3.out 1 g1';have b4:w.heap.size<v3.heap.size:=by omega
 have b5:w.heap.size+1<v3.heap.size:=by omega
 have OE:=OwnC.new 24 1 v3 [] 0 rfl (by decide);have nE:=(Below.refl v3.heap.size v3).alloc nle (Obj.cells #[] 24);go_upto_region 3 with (at_builtin;refine hU _ rfl (.tmp 8) (.tmp 10) 23 rfl 24 Tryz.underlying23 (.int .u64 0) 1 8 Tryz.infoU rfl (by decide) v3.heap.size v3.heap.size 0 0 [] rfl OE p.ar N p.cr (cH h.regs) rfl HRa.out.1 HRa.out.2 (RowC.keep (RowC.keep HR.out n12) nE) (sg _) (by omega) (by omega) v3.heap.size v3 nE nle ?_;intro g4 cap4 v4 o4 n4;have c1:=aa (ae K3.out n4 b4) 1 g1';have f1:=aE (ae K3.out n4 b4) 1;have b6:=Nat.lt_of_lt_of_le b4 n4.size;clear OE nE);simp only [Nat.zero_add,List.nil_append] at o4 |-;have f4:=o4.facts;have hh1:=f4.2.1;have hh2:=f4.2.2.1;have HC4:Hid (N<=cap4∧cap4<=9223372036854775807):=⟨f4.2.2.2.1,by have:=f4.2.2.2.2;unfold maxLen at this;exact this⟩;have nh':g4≠w.heap.size:=by omega
 have n14:=bK (bst n12 n4) nle 1 (.slice (some ⟨g4,0,none⟩) N cap4);have J3:Hid _:=cu (ae K3.out n4 b4) 1 (.slice (some ⟨g4,0,none⟩) N cap4);have J6:Hid _:=ba (ae K6.out n4 b5) 1 (.slice (some ⟨g4,0,none⟩) N cap4) (show w.heap.size+1≠w.heap.size by omega);have O4:Hid _:=OwnC.gb o4 (ak (au v4 (some w.heap.size)) 1 (.slice (some ⟨g4,0,none⟩) N cap4)) nh';have O5:Hid _:=OwnC.gb (OwnC.keep O2.out n4 hg2') (ak (au v4 (some w.heap.size)) 1 (.slice (some ⟨g4,0,none⟩) N cap4)) ng';have z4:v3.heap.size<=(v4.setCell ⟨w.heap.size,1,none⟩ (.slice (some ⟨g4,0,none⟩) N cap4)).heap.size:=by simp;exact n4.size
 have hh2':g4<(v4.setCell ⟨w.heap.size,1,none⟩ (.slice (some ⟨g4,0,none⟩) N cap4)).heap.size:=by simp;exact hh2
 generalize v4.setCell ⟨w.heap.size,1,none⟩ (.slice (some ⟨g4,0,none⟩) N cap4)=v5 at n14 J3 J6 O4 O5 z4 hh2' |-;clear o4 f4 n4 K3 K6 c1 hh2 HR HRa O2 n12;have hsz2:((C.setIfInBounds 0 (.slice (some ⟨g2,0,none⟩) M cap2)).setIfInBounds 1 (.slice (some ⟨g4,0,none⟩) N cap4)).size=21:=by simp only [Array.size_setIfInBounds,hsz]
 have HE:Hid _:=HP.out g2 cap2 g4 cap4;have HLk:Hid _:=bY (P:=Tryz.prog) (T:=37) J3.out Tryz.underlying37 rfl (o:=12) (kA p h.k).toList kI (HKp.out _ _) rfl;have HKc:=hid fun u (hu:Below w.heap.size w u)=>fQ _ _ u (HK.out.keep hu);rw [show (kA p h.k).toList.toArray=kA p h.k from rfl] at HLk;generalize ((C.setIfInBounds 0 (.slice (some ⟨g2,0,none⟩) M cap2)).setIfInBounds 1 (.slice (some ⟨g4,0,none⟩) N cap4))=D at J3 hsz2 HE HLk;have b7:w.heap.size<v5.heap.size:=by omega
 have b8:w.heap.size+1<v5.heap.size:=by omega
 have HKK:=hid HK.out.ok;generalize kA p h.k=E at *;go_wp2_with (first | ((with_reducible refine aI ?_ HLk.out ?_);(exact rfl)));refine (HKc.out v5 n14).mono ?_;rintro e v6 ⟨⟨x,rfl,hx⟩,n6⟩;obtain ⟨a1,c1,a2,c2,a3,c3,hxe⟩:=hx.rows;have hx0:=(hxe p).1;subst hx0;have HX:=hid ((hxe p).2);clear hxe hx;have I3:Hid _:=ae J3.out n6 b7;have I6:Hid _:=ae J6.out n6 b8;have n16:=bst n14 n6;have O6:Hid _:=OwnC.keep O4.out n6 hh2';have O7:Hid _:=OwnC.keep O5.out n6 (by omega);have hEs:(kA (pK p a1 c1 a2 c2 a3 c3) h.k).size=9:=rfl;have HSk:Hid _:=et (P:=Tryz.prog) (T:=37) I3.out (o:=12) (V:=kA (pK p a1 c1 a2 c2 a3 c3) h.k) (by rw [hEs];exact kI) (by rw [hEs,hsz2];omega) (rY _ _);have e1:=cQ w.heap.size (kA (pK p a1 c1 a2 c2 a3 c3) h.k).toList 12 v6 D _ _ I3.out (by rw [hsz2];show 12+9<=21;omega);rw [HE.out,rX] at e1;have L3:Hid _:=e1;have L6:Hid _:=fU I6.out 12 (kA (pK p a1 c1 a2 c2 a3 c3) h.k).toList (show w.heap.size+1≠w.heap.size by omega);have n17:=aS (Nat.le_refl w.heap.size) (kA (pK p a1 c1 a2 c2 a3 c3) h.k).toList 12 v6 n16;have gG:=aM w.heap.size (kA (pK p a1 c1 a2 c2 a3 c3) h.k).toList 12 v6 v6 (au v6 _);have O8:Hid _:=OwnC.gb O6.out gG nh';have O9:Hid _:=OwnC.gb O7.out gG ng';have HX2:=hid (KRows.gb HX.out gG b7);have hDD:(ah (pK (rB p g2 cap2 g4 cap4) (pK p a1 c1 a2 c2 a3 c3).a1 (pK p a1 c1 a2 c2 a3 c3).c1 (pK p a1 c1 a2 c2 a3 c3).a2 (pK p a1 c1 a2 c2 a3 c3).c2 (pK p a1 c1 a2 c2 a3 c3).a3 (pK p a1 c1 a2 c2 a3 c3).c3) (withK h h.k)).size=21:=rfl;have hone:=hZ (pK (rB p g2 cap2 g4 cap4) (pK p a1 c1 a2 c2 a3 c3).a1 (pK p a1 c1 a2 c2 a3 c3).c1 (pK p a1 c1 a2 c2 a3 c3).a2 (pK p a1 c1 a2 c2 a3 c3).c2 (pK p a1 c1 a2 c2 a3 c3).a3 (pK p a1 c1 a2 c2 a3 c3).c3) (withK h h.k);have HFin:Hid (ah (pK (rB p g2 cap2 g4 cap4) (pK p a1 c1 a2 c2 a3 c3).a1 (pK p a1 c1 a2 c2 a3 c3).c1 (pK p a1 c1 a2 c2 a3 c3).a2 (pK p a1 c1 a2 c2 a3 c3).c2 (pK p a1 c1 a2 c2 a3 c3).a3 (pK p a1 c1 a2 c2 a3 c3).c3) (withK h h.k)=ah (pK (rB p g2 cap2 g4 cap4) a1 c1 a2 c2 a3 c3) h):=rfl;generalize ah (pK (rB p g2 cap2 g4 cap4) (pK p a1 c1 a2 c2 a3 c3).a1 (pK p a1 c1 a2 c2 a3 c3).c1 (pK p a1 c1 a2 c2 a3 c3).a2 (pK p a1 c1 a2 c2 a3 c3).c2 (pK p a1 c1 a2 c2 a3 c3).a3 (pK p a1 c1 a2 c2 a3 c3).c3) (withK h h.k)=G at L3 hDD hone HFin;generalize kA (pK p a1 c1 a2 c2 a3 c3) h.k=E2 at *;go_upto_region 4 with (first | ((with_reducible refine aH ?_ ?_ HSk.out ?_);(exact rfl);(exact rfl)));generalize v6.setCells w.heap.size 12 E2.toList=v7 at L3 L6 n17 O8 O9 HX2 |-;have HLr:Hid _:=aT (P:=Tryz.prog) (T:=39) L3.out Tryz.underlying39 rfl (by rw [hDD];exact dP);have HSr:Hid _:=bB (P:=Tryz.prog) (T:=39) (V:=G) L6.out (by rw [hDD];exact dP) (by rw [hDD,eT]) hone;have e1:=aX (V:=G) L6.out (by rw [hDD,eT]);have e2:=aS (show w.heap.size<=w.heap.size+1 by omega) (G).toList 0 _ n17;have eG:=aM (w.heap.size+1) (G).toList 0 v7 v7 (au v7 _);go_wp2_with (first
  | ((with_reducible refine aI ?_ HLr.out ?_);(exact rfl))
  | ((with_reducible refine aH ?_ ?_ HSr.out ?_);(exact rfl);(exact rfl)))
 refine dx (b:=w.heap.size+1) Tryz.results49 rfl (bx (P:=Tryz.prog) e1 Tryz.underlying39 rfl (by rw [hDD];exact dP)) rfl ?_;have OA:=OwnC.gb O8.out eG (show g4≠w.heap.size+1 by omega);have OB:=OwnC.gb O9.out eG (show g2≠w.heap.size+1 by omega);have hX3:=KRows.gb HX2.out eG b8;have hks:=KRows.ptrs hX3;simp only [pK] at hks;refine ⟨⟨pK (rB p g2 cap2 g4 cap4) a1 c1 a2 c2 a3 c3,by rw [HFin.out],?_,?_⟩,e2⟩
 rotate_left 1
 ·intro q hq;simp only [aV,pK,rB,List.mem_cons,List.not_mem_nil,or_false] at hq;rcases hq with hq | hq | hq | hq | hq
  ·cases hq;show w.heap.size<=g2;omega
  ·cases hq;show w.heap.size<=g4;omega
  ·have:=(hks q (.inl hq.symm)).1;omega
  ·have:=(hks q (.inr (.inl hq.symm))).1;omega
  ·have:=(hks q (.inr (.inr hq.symm))).1;omega
 refine ⟨?_,?_,?_,?_,⟨fun hh=>(by cases hh),fun q hq=>by cases hq;rfl⟩,?_,?_⟩
 ·have:=OwnB.byt (e:=5) (zs:=h.mem) OB HZ.out;rw [HM.out];exact this
 ·rw [HM.out];exact HC2.out
 ·rw [HN.out];exact OA.row
 ·rw [HN.out];exact HC4.out
 ·exact KRows.at (q:=pK (rB p g2 cap2 g4 cap4) a1 c1 a2 c2 a3 c3) hX3 HKK.out
 ·intro q hq;simp only [aV,pK,rB,List.mem_cons,List.not_mem_nil,or_false] at hq;rcases hq with hq | hq | hq | hq | hq
  ·cases hq;exact (OwnC.facts OB).2.2.1
  ·cases hq;exact (OwnC.facts OA).2.2.1
  ·exact (hks q (.inl hq.symm)).2
  ·exact (hks q (.inr (.inl hq.symm))).2
  ·exact (hks q (.inr (.inr hq.symm))).2
end Go.Proofs.YtgnnmgfgfihljaaGreat
