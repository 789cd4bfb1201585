import Derived.Test.YtkenjknmfhoppaaGreatSk13
namespace Go.Proofs.YtkenjknmfhoppaaGreat
open Go.RowKit
set_option linter.unusedVariables false
set_option maxHeartbeats 6400000
set_option maxRecDepth 20000
theorem fw {P:Program} {ops:Array Oper} {Q:Exit->Act->World->Prop} {F:World->Prop} {c:Nat} (i:Nat) {oi:Oper} (d:Tmp) (v:Value) {fuel:Nat} {listed:Array Bool} {a:Act} {w:World} (hi:ops[i]?=some oi) (hS:listed.getD c false=true∨F w)
 (h:bK P ops Q F c fuel (listed.setIfInBounds i true) (a.put (some d) v) w)
 (hb:(Region.noSelect ops && kX ops listed && Region.free .any ops listed i && (Region.ready .any ops listed).contains i && (i != c) && Region.wanted oi (yielded ops a.tmps) && (oi.dst == some d))=true:=by kernel_rfl)
 (hQ:∀x a w,Q (.panic x) (a.put oi.dst v) w->Q (.panic x) a w:=by exact fun _ _ _ h=>h) (hy:∀u,(execOp a.eval oi).run P u=.ok (.value v) u:=by intro u;kernel_rfl):bK P ops Q F c (fuel+1) listed a w:=by
 simp only [Bool.and_eq_true] at hb;obtain ⟨⟨⟨⟨⟨⟨h1,h2⟩,h3⟩,h4⟩,h5⟩,h7⟩,h8⟩:=hb;exact BC i d v hi h1 h2 h3 h4 h5 hQ h7 hy hS (by simpa using h8) h
theorem D8 {P:Program} {ops:Array Oper} {Q:Exit->Act->World->Prop} {F:World->Prop} {c:Nat} {fuel:Nat} {listed L:Array Bool} {a:Act} {w:World} (k j:Nat) {ok oj:Oper} (dk dj:Tmp) {Z:Array Value} {T:TypeId} {g:FuncId} {brgs:Array Value} (R:World->Value->World->Prop)
 (ek:ops[k]?=some ok) (ej:ops[j]?=some oj) (l1:(listed.setIfInBounds k true).setIfInBounds j true=L)
 (hF:∀u,Bw w u->F u) (ck:∀u,Bw w u->Calls P g brgs u fun e w'=>(∃y,e=.returned y∧R u y w')∧Bw u w')
 (h:∀y p u v v',Bw w u->R u y v->Bw v v'->(p<u.heap.size∨v.heap.size<=p)->w.heap.size<=p->v'.heap[p]?=some (.cells Z T (0,0))->Bw w v'->bK P ops Q F c fuel L ((a.put (some dk) y).put (some dj) (PT p 0)) v')
 (dd:(ok.dst == some dk && oj.dst == some dj && dk != dj && ok.guard.isNone && oj.guard.isNone)=true:=by kernel_rfl)
 (r1:Region.ready .any ops listed=[k,j]:=by kernel_rfl) (r2:Region.ready .any ops (listed.setIfInBounds k true)=[j]:=by kernel_rfl) (r5:Region.ready .any ops (listed.setIfInBounds j true)=[k]:=by kernel_rfl) (l2:(listed.setIfInBounds j true).setIfInBounds k true=L:=by kernel_rfl)
 (xk:∀u,(execOp a.eval ok).run P u=.ok (.enter g brgs) u:=by intro u;kernel_rfl) (xk':∀p u,(execOp (a.put (some dj) p).eval ok).run P u=.ok (.enter g brgs) u:=by intro p u;kernel_rfl)
 (xj:∀b u,(execOp b oj).run P u=.ok (.value (PT u.heap.size 0)) (u.alloc (.cells Z T)):=by intro b u;kernel_rfl):bK P ops Q F c (fuel+2) listed a w:=by
 simp only [Bool.and_eq_true,beq_iff_eq,bne_iff_ne,Option.isNone_iff_eq_none] at dd;obtain ⟨⟨⟨⟨d1,d2⟩,d3⟩,g1⟩,g2⟩:=dd;exact Ai k j dk dj R ek ej ⟨d1,d2,d3⟩ ⟨g1,g2⟩ r1 r2 r5 l1 l2 xk xk' xj hF ck h
theorem jL (p:PtrM) (al:Option Addr) (cl:Nat) (plain:Bool) (pick:Int) (r:RunM) (c t:Int) (w:World):
 Calls Tryz.prog 91 #[.agg (aM p al cl plain pick r),VI c,VU t] w fun e w'=>e=.returned (.agg (aM p al cl plain pick (bY r c t)))∧Bw w w':=by
 have hsz:=bC p al cl plain pick r;have h1:=dv p al cl plain pick r;have HE:Hid (((aM p al cl plain pick r).setIfInBounds 23 (VI c)).setIfInBounds 24 (VU t)=aM p al cl plain pick (bY r c t)):=rfl;have g23:(aM p al cl plain pick r)[23]?=some (VI r.cause):=rfl;have g24:(aM p al cl plain pick r)[24]?=some (VU r.tval):=rfl;generalize aM p al cl plain pick r=C at *;generalize aM p al cl plain pick (bY r c t)=D at *;have HO:=hid h1;clear h1;go_enter Tryz.func91,Tryz.ntmps91;go_upto_region 1 with fail;obtain ⟨v1,Ev1,F⟩:=ax2 w C eH 61 61;rw [Ev1.out];clear Ev1;obtain ⟨h3,h6,l1,n1⟩:=F;have H3:Hid _:=h3;have H6:Hid _:=h6;have b1:w.heap.size<v1.heap.size:=by omega
 have f23:=az h3 23;have f24:=az h3 24;have c23:=ab h3 23 g23;have c24:=ab h3 24 g24;clear h3 h6;have hz:=aX;have HL:Hid ((Instr.loadAt 61 (PT w.heap.size 0)).run Tryz.prog ((v1.setCell (AD w.heap.size 23) (VI c)).setCell (AD w.heap.size 24) (VU t))=.ok (.agg ((C.setIfInBounds 23 (VI c)).setIfInBounds 24 (VU t))) ((v1.setCell (AD w.heap.size 23) (VI c)).setCell (AD w.heap.size 24) (VU t))):=bf (co (co H3.out 23 _) 24 _) Tryz.underlying61 rfl (by simp only [Array.size_setIfInBounds,hsz];exact dm);have HS:Hid _:=bq (P:=Tryz.prog) (T:=61) (V:=(C.setIfInBounds 23 (VI c)).setIfInBounds 24 (VU t)) (eF (eF H6.out 23 (VI c) (show w.heap.size+1≠w.heap.size by omega)) 24 (VU t) (show w.heap.size+1≠w.heap.size by omega)) (by simp only [Array.size_setIfInBounds,hsz];exact dm) (by simp only [Array.size_setIfInBounds,hsz,hz]) (no (no HO.out _ rfl) _ rfl);go_wp2_with (first
  | ((with_reducible refine ba ?_ HL.out ?_);(exact rfl))
  | ((with_reducible refine aL ?_ ?_ HS.out ?_);(exact rfl);(exact rfl)))
 have hD:D.size=31:=by rw [<-HE.out];simp only [Array.size_setIfInBounds,hsz]
 have e1:=aT (V:=(C.setIfInBounds 23 (VI c)).setIfInBounds 24 (VU t)) (eF (eF H6.out 23 (VI c) (show w.heap.size+1≠w.heap.size by omega)) 24 (VU t) (show w.heap.size+1≠w.heap.size by omega)) (by rw [HE.out,hD,hz]);have e2:=aS (show w.heap.size<=w.heap.size+1 by omega) ((C.setIfInBounds 23 (VI c)).setIfInBounds 24 (VU t)).toList 0 _ (cU (cU n1 nle 23 (VI c)) nle 24 (VU t));rw [HE.out] at e1 e2 |-;generalize ((v1.setCell (AD w.heap.size 23) (VI c)).setCell (AD w.heap.size 24) (VU t)).setCells (w.heap.size+1) 0 D.toList=v2 at e1 e2 |-;exact dx (b:=w.heap.size+1) Tryz.results91 rfl (bw (P:=Tryz.prog) e1 Tryz.underlying61 rfl (by rw [hD];exact dm)) rfl ⟨rfl,e2⟩
theorem uP (p:PtrM) (h:HartM) (w:World):
 Calls Tryz.prog 54 #[.agg (ak p h)] w fun e w'=>e=.returned (et h.mode h.sum h.mxr h.satp)∧Bw w w':=by
 have hsz:=eI p h;have g3:(ak p h)[3]?=some (VI h.mode):=rfl;have g4:(ak p h)[4]?=some (.bool h.sum):=rfl;have g5:(ak p h)[5]?=some (.bool h.mxr):=rfl;have g6:(ak p h)[6]?=some (VU h.satp):=rfl;generalize ak p h=C at *;unfold et;go_enter Tryz.func54,Tryz.ntmps54;go_upto_region 1 with fail;obtain ⟨v1,Ev1,F⟩:=ax2 w C #[VI 0,.bool false,.bool false,VU 0] 43 134;rw [Ev1.out];clear Ev1;obtain ⟨h3,h6,l1,n1⟩:=F;have c3:=ab h3 3 g3;have c4:=ab h3 4 g4;have c5:=ab h3 5 g5;have c6:=ab h3 6 g6;have k0:=ab h6 0 (v:=VI 0) rfl;have k1:=ab h6 1 (v:=.bool false) rfl;have k2:=ab h6 2 (v:=.bool false) rfl;have k3:=ab h6 3 (v:=VU 0) rfl;have f0:=az h6 0;have f1:=az h6 1;have f2:=az h6 2;have f3:=az h6 3;have ne1:w.heap.size≠w.heap.size+1:=by omega
 have ne2:w.heap.size+1≠w.heap.size:=by omega
 have b1:w.heap.size<v1.heap.size:=by omega
 have b2:w.heap.size+1<v1.heap.size:=by omega
 clear h3 h6;go_wp2_with fail;exact bodyPost_ret (v:=.agg #[VI h.mode,.bool h.sum,.bool h.mxr,VU h.satp]) (by simp [results,Tryz.results54,go_sem,k0,k1,k2,k3]) rfl ⟨rfl,cU (cU (cU (cU n1 (by omega) _ _) (by omega) _ _) (by omega) _ _) (by omega) _ _⟩
theorem jl (satp:Int) (w:World) (h0:0<=satp) (h1:satp<=18446744073709551615):
 Calls Tryz.prog 43 #[VU satp] w fun e w'=>e=.returned (.bool (dh satp))∧Bw w w':=by
 have HS:Hid (dh satp=(satp/1152921504606846976%16 == 0 || satp/1152921504606846976%16 == 8)):=rfl;have HB:Hid (∀u,Calls Tryz.prog 86 #[VU satp,VI 60,VI 63] u fun e w'=>e=.returned (VU (satp/1152921504606846976%16))∧∃n,w'=u.drewN n):=fun u=>bQ satp 60 63 _ _ u h0 h1 (by omega) (by omega) (by omega) (by omega) (by decide) (by decide);generalize dh satp=q at *;generalize satp/1152921504606846976%16=x at *;by_cases hx:x=0
 ·subst hx;have hq:q=true:=by rw [HS.out];rfl
  subst hq;go_enter Tryz.func43,Tryz.ntmps43;go_wp2_with fail;refine (HB.out w).mono ?_;rintro e v1 ⟨rfl,n,rfl⟩;go_wp2;go_ret;exact ⟨rfl,below_drewN brf n⟩
 ·have hx':(x == 0)=false:=by simpa using hx
  go_enter Tryz.func43,Tryz.ntmps43;go_wp2_with fail;refine (HB.out w).mono ?_;rintro e v1 ⟨rfl,n,rfl⟩;go_wp2_with fail;refine (HB.out _).mono ?_;rintro e v2 ⟨rfl,m,rfl⟩;go_wp2;go_ret;exact ⟨aD (by rw [HS.out,hx'];simp),below_drewN brf (n+m)⟩
theorem pZ (a:Option Addr) (len cap:Nat) (zs:List Int) (i:Nat) (w:World) (h:Byt w a len zs) (hl:len<=1048576) (hi:i<=9223372036854775807):
 Calls Tryz.prog 41 #[.slice a len cap,VI i] w fun e w'=>e=.returned (VI (atM zs i))∧w'=w:=by
 obtain ⟨h1,h2,h3⟩:=h;by_cases hlt:i<len
 ·rcases h3 with h3 | ⟨b,off,rfl,hbw,hc⟩
  ·omega
  have g1:=hc i hlt;have g2:=h2 i;have HA:Hid (zs[i]?.getD 0=atM zs i):=rfl;generalize zs[i]?.getD 0=x at g1 g2 HA;clear hc h2;go_enter Tryz.func41,Tryz.ntmps41;go_wp2;go_ret;exact ⟨cC HA.out,rfl⟩
 ·have HA:Hid (atM zs i=0):=by
   show zs[i]?.getD 0=0;rw [List.getElem?_eq_none (by omega)];rfl
  clear h2 h3;go_enter Tryz.func41,Tryz.ntmps41;go_wp2;go_ret;exact ⟨cC HA.out.symm,rfl⟩
theorem Tryz.infoU:(Tryz.prog.info? 29).map (fun i=>(i.zero,i.size,i.bytes))=some (some (VU 0),1,8):=by kernel_rfl
theorem qm (zs:List Int):∀u∈cF zs,u.oneCell'=true:=by
 intro u hu;obtain ⟨_,_,rfl⟩:=List.mem_map.1 hu;rfl
theorem uq (zs:List Int) (i:Nat) (x:Int):(cF zs).set i (VU x)=cF (zs.set i x):=by simp [cF,List.map_set]
theorem so (zs:List Int) (i:Nat) (h:i<zs.length):(cF zs)[i]?=some (VU (zs[i]?.getD 0)):=by
 simp [cF,h]
def xy (p:PtrM) (g cap:Nat):PtrM:=⟨p.am,p.cm,some (AD g 0),cap,p.a1,p.c1,p.a2,p.c2,p.a3,p.c3⟩
theorem RunIn.reg {w w':World} {p:PtrM} {al:Option Addr} {cl:Nat} {r:RunM} {rs:List Int} {g cap:Nat} (k:RunIn w p al cl r) (hb:Bw w w') (hr:RowC w' (some (AD g 0)) rs.length 1 (cF rs)) (hc:rs.length<=cap∧cap<=9223372036854775807) (hlt:g<w'.heap.size):
 RunIn w' (xy p g cap) al cl (bL r (eW r.h rs)):=
 ⟨⟨k.h.mem.keep hb,k.h.memc,hr,hc,⟨fun h=>(by cases h),fun q hq=>by cases hq;rfl⟩,k.h.ks.keep hb,fun q hq=>by
  simp only [aV,xy,List.mem_cons,List.not_mem_nil,or_false] at hq;have hl:=fun q hq=>ltl (k.h.low q hq) hb.size;rcases hq with hq | hq | hq | hq | hq
  ·exact hl q (by simp [aV,hq])
  ·cases hq;exact hlt
  ·exact hl q (by simp [aV,hq])
  ·exact hl q (by simp [aV,hq])
  ·exact hl q (by simp [aV,hq])⟩,k.looks.keep hb,k.lookc,k.looka,k.lookl,fun q hq=>ltl (k.low q hq) hb.size⟩
theorem ur {B g cap:Nat} {p:PtrM} (h:B<=g):From B p (xy p g cap):=fun q hq=>by
 simp only [aV,xy,List.mem_cons,List.not_mem_nil,or_false] at hq;rcases hq with hq | hq | hq | hq | hq
 ·exact .inl (by simp [aV,hq])
 ·cases hq;exact .inr h
 ·exact .inl (by simp [aV,hq])
 ·exact .inl (by simp [aV,hq])
 ·exact .inl (by simp [aV,hq])
theorem jf (p:PtrM) (al:Option Addr) (cl:Nat) (plain:Bool) (pick:Int) (r:RunM) (a x:Int) (w:World) (hr:RunIn w p al cl r) (ha:0<=a) (ha':a.toNat<r.h.regs.length) (hl:r.h.regs.length<=1048576):
 Calls Tryz.prog 127 #[.agg (aM p al cl plain pick r),VI a,VU x] w fun e w'=>(∃p',e=.returned (.agg (aM p' al cl plain pick (cB r a x)))∧RunIn w' p' al cl (cB r a x)∧From w.heap.size p p')∧Bw w w':=by
 obtain ⟨n,rfl⟩:=Int.eq_ofNat_of_zero_le ha;have HI:=hid hr;have HA:=hid ha';have HR:=hid hr.h.regs;have HRa:=hid hr.h.rega;have HP:Hid (∀g cap rs,rs.length=r.h.regs.length->(aM p al cl plain pick r).setIfInBounds 1 (SL g r.h.regs.length cap)=aM (xy p g cap) al cl plain pick (bL r (eW r.h rs))):=fun g cap rs hl=>by
  unfold aM xy bL eW;simp [hl]
 have HM:Hid (cB r (n:Int) x=bL r (eW r.h (if 0<(n:Int) then r.h.regs.set n x else r.h.regs))):=rfl;have hsz:=bC p al cl plain pick r;have g1:(aM p al cl plain pick r)[1]?=some (.slice p.ar r.h.regs.length p.cr):=rfl;have HO:=hid (dv p al cl plain pick r);generalize hC:aM p al cl plain pick r=C at *;have hlen:=hl;generalize hN:r.h.regs.length=N at *;have hn:=HA.out;clear hr hC ha ha';go_enter Tryz.func127,Tryz.ntmps127;go_upto_region 1 with fail;obtain ⟨v1,Ev1,F⟩:=ax2 w C eH 61 61;rw [Ev1.out];clear Ev1;obtain ⟨h3,h6,l1,n1⟩:=F;have H3:Hid _:=h3;have H6:Hid _:=h6;have b1:w.heap.size<v1.heap.size:=by omega
 have b2:w.heap.size+1<v1.heap.size:=by omega
 have c1:=ab h3 1 g1;have OE:=OwnC.new 29 1 v1 [] 0 rfl (by decide);have nE:=(Below.refl v1.heap.size v1).alloc nle (Obj.cells #[] 29);clear h3 h6 l1;go_upto_region 2 with (at_builtin;refine jw _ rfl (.tmp 8) (.tmp 11) 28 rfl 29 Tryz.underlying28 (VU 0) 1 8 Tryz.infoU rfl (by decide) v1.heap.size v1.heap.size 0 0 [] rfl OE p.ar N p.cr (cF r.h.regs) rfl HRa.out.1 HRa.out.2 (RowC.keep (RowC.keep HR.out n1) nE) (qm _) (by omega) (by omega) v1.heap.size v1 nE nle ?_;intro g2 cap2 v2 o2 n2;clear OE nE c1);simp only [Nat.zero_add,List.nil_append] at o2 |-;have f2:=o2.facts;have K3:Hid _:=ag H3.out n2 b1;have K6:Hid _:=ag H6.out n2 b2;have n12:=bst n1 n2;have z2:=n2.size;have hcap:(cap2:Int)<=9223372036854775807:=by have:=f2.2.2.2.2;unfold maxLen at this;omega
 have HM2:Hid (cap2<=9223372036854775807):=by have:=f2.2.2.2.2;unfold maxLen at this;exact this
 have hNc:=f2.2.2.2.1;have hg1:=f2.2.1;have hg2:=f2.2.2.1;clear f2 H3 H6 n1 n2 HR HRa;have b5:w.heap.size<v2.heap.size:=by omega
 have q1:=ab K3.out 1 g1;have q2:=az K3.out 1;have ng:w.heap.size≠g2:=by omega
 have ng':g2≠w.heap.size:=by omega
 by_cases h0:0<n
 ·have h0':(0:Int)<(n:Int):=by omega
  have HM1:Hid (cB r (n:Int) x=bL r (eW r.h (r.h.regs.set n x))):=by
   have hm:=HM.out;rw [if_pos h0'] at hm;exact hm
  have s1:=aE o2 n _ (so r.h.regs n (by omega));have s2:=aQ o2 n;have O3:Hid (OwnC 29 1 (v2.setCell (AD g2 n) (VU x)) v1.heap.size g2 N cap2 (cF (r.h.regs.set n x))):=by
   have:=aF o2 n (VU x);rw [uq] at this;exact this
  have K3':Hid _:=eF K3.out n (VU x) (show w.heap.size≠g2 by omega);have K6':Hid _:=eF K6.out n (VU x) (show w.heap.size+1≠g2 by omega);have n3:=cU n12 (show w.heap.size<=g2 by omega) n (VU x);go_upto_region 4 with fail;generalize v2.setCell (AD g2 n) (VU x)=v3 at O3 K3' K6' n3 |-;clear q1 q2 s1 s2;have q1:=ab K3'.out 1 g1;have q2:=az K3'.out 1;have b6:=(hpl K3'.out);go_upto_region 5 with fail;have K3q:Hid _:=co K3'.out 1 (SL g2 N cap2);have K6q:Hid _:=eF K6'.out 1 (SL g2 N cap2) (show w.heap.size+1≠w.heap.size by omega);have n4:=cU n3 nle 1 (SL g2 N cap2);have O4:Hid _:=OwnC.gb O3.out (aq (aw v3 (some w.heap.size)) 1 (SL g2 N cap2)) ng';have HV:Hid _:=HP.out g2 cap2 (r.h.regs.set n x) (by simp [hN]);have hV:(C.setIfInBounds 1 (SL g2 N cap2)).size=31:=by simp only [Array.size_setIfInBounds,hsz]
  generalize v3.setCell (AD w.heap.size 1) (SL g2 N cap2)=v4 at K3q K6q n4 O4 |-;have hone:=no HO.out 1 (v:=SL g2 N cap2) rfl;generalize C.setIfInBounds 1 (SL g2 N cap2)=D at K3q HV hV hone;have HLr:Hid _:=bf (P:=Tryz.prog) (T:=61) K3q.out Tryz.underlying61 rfl (by rw [hV];exact dm);have HSr:Hid _:=bq (P:=Tryz.prog) (T:=61) (V:=D) K6q.out (by rw [hV];exact dm) (by rw [hV,aX]) hone;have e1:=aT (V:=D) K6q.out (by rw [hV,aX]);have e2:=aS (show w.heap.size<=w.heap.size+1 by omega) (D).toList 0 _ n4;have eG:=aH (w.heap.size+1) (D).toList 0 v4 v4 (aw v4 _);go_wp2_with (first
   | ((with_reducible refine ba ?_ HLr.out ?_);(exact rfl))
   | ((with_reducible refine aL ?_ ?_ HSr.out ?_);(exact rfl);(exact rfl)))
  refine dx (b:=w.heap.size+1) Tryz.results127 rfl (bw (P:=Tryz.prog) e1 Tryz.underlying61 rfl (by rw [hV];exact dm)) rfl ?_;rw [HM1.out];exact ⟨⟨xy p g2 cap2,by rw [HV.out],RunIn.reg (rs:=r.h.regs.set n x) HI.out e2 (by rw [List.length_set,hN];exact (OwnC.gb O4.out eG (by omega)).row) (by rw [List.length_set,hN];exact ⟨hNc,HM2.out⟩) (OwnC.facts (OwnC.gb O4.out eG (show g2≠w.heap.size+1 by omega))).2.2.1,ur (by omega)⟩,e2⟩
 ·have h0':¬(0:Int)<(n:Int):=by omega
  have hn0:n=0:=by omega
  have HM1:Hid (cB r (n:Int) x=bL r (eW r.h r.h.regs)):=by
   have hm:=HM.out;rw [if_neg h0'] at hm;exact hm
  clear hn0;have O2:Hid _:=o2;clear o2;go_upto_region 5 with fail;have K3q:Hid _:=co K3.out 1 (SL g2 N cap2);have K6q:Hid _:=eF K6.out 1 (SL g2 N cap2) (show w.heap.size+1≠w.heap.size by omega);have n4:=cU n12 nle 1 (SL g2 N cap2);have O4:Hid _:=OwnC.gb O2.out (aq (aw v2 (some w.heap.size)) 1 (SL g2 N cap2)) ng';have HV:Hid _:=HP.out g2 cap2 r.h.regs hN;have hV:(C.setIfInBounds 1 (SL g2 N cap2)).size=31:=by simp only [Array.size_setIfInBounds,hsz]
  generalize v2.setCell (AD w.heap.size 1) (SL g2 N cap2)=v4 at K3q K6q n4 O4 |-;have hone:=no HO.out 1 (v:=SL g2 N cap2) rfl;generalize C.setIfInBounds 1 (SL g2 N cap2)=D at K3q HV hV hone;have HLr:Hid _:=bf (P:=Tryz.prog) (T:=61) K3q.out Tryz.underlying61 rfl (by rw [hV];exact dm);have HSr:Hid _:=bq (P:=Tryz.prog) (T:=61) (V:=D) K6q.out (by rw [hV];exact dm) (by rw [hV,aX]) hone;have e1:=aT (V:=D) K6q.out (by rw [hV,aX]);have e2:=aS (show w.heap.size<=w.heap.size+1 by omega) (D).toList 0 _ n4;have eG:=aH (w.heap.size+1) (D).toList 0 v4 v4 (aw v4 _);go_wp2_with (first
   | ((with_reducible refine ba ?_ HLr.out ?_);(exact rfl))
   | ((with_reducible refine aL ?_ ?_ HSr.out ?_);(exact rfl);(exact rfl)))
  refine dx (b:=w.heap.size+1) Tryz.results127 rfl (bw (P:=Tryz.prog) e1 Tryz.underlying61 rfl (by rw [hV];exact dm)) rfl ?_;rw [HM1.out];exact ⟨⟨xy p g2 cap2,by rw [HV.out],RunIn.reg (rs:=r.h.regs) HI.out e2 (by rw [hN];exact (OwnC.gb O4.out eG (by omega)).row) (by rw [hN];exact ⟨hNc,HM2.out⟩) (OwnC.facts (OwnC.gb O4.out eG (show g2≠w.heap.size+1 by omega))).2.2.1,ur (by omega)⟩,e2⟩
end Go.Proofs.YtkenjknmfhoppaaGreat
