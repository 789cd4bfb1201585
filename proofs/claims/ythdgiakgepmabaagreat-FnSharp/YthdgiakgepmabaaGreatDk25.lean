import Derived.Test.YthdgiakgepmabaaGreatDk24
namespace Go.Proofs.YthdgiakgepmabaaGreat
open Go.RowKit
set_option linter.unusedVariables false
set_option maxHeartbeats 6400000
set_option maxRecDepth 20000
section
attribute [local go_sem ↓] Go.wp_at_zero Go.wp_at_succ
theorem pu {w v2:World} {p p':PtrM} {al al':Option Addr} {cl cl':Nat} {plain:Bool} {pick:Int} {X:RunM} (hI:RunIn v2 p' al' cl' X) (hF:From (w.heap.size+2) p p') (hL:FromL (w.heap.size+2) al al') (hn:Bw w v2) (hp:∀q,some q∈be p->q.block<w.heap.size) (hl:∀q,al=some q->q.block<w.heap.size) (L:List Value):
 fG w p al cl plain pick X (.returned (.agg (aG p' al' cl' plain pick X))) (v2.setCells (w.heap.size+1) 0 L):=by
 have g:=aH (w.heap.size+1) L 0 v2 v2 (ao v2 _);refine ⟨⟨p',al',cl',rfl,hI.gb g (fun q hq=>?_) (fun q hq=>?_),fun q hq=>?_,fun q hq=>?_⟩,aK (by omega) L 0 v2 hn⟩
 ·rcases hF q hq with h | h
  ·have:=hp q h;omega
  ·have h':w.heap.size+2<=q.block:=h;omega
 ·rcases hL q hq with h | h
  ·have:=hl q h;omega
  ·have h':w.heap.size+2<=q.block:=h;omega
 ·rcases hF q hq with h | h
  ·exact .inl h
  ·exact .inr (Nat.le_trans (by omega) h)
 ·rcases hL q hq with h | h
  ·exact .inl h
  ·exact .inr (Nat.le_trans (by omega) h)
theorem From.low {B C:Nat} {p p':PtrM} (h:From C p p') (hc:B<=C):From B p p':=fun q hq=>(h q hq).imp id fun h=>Nat.le_trans hc h
theorem FromL.low {B C:Nat} {p p':Option Addr} (h:FromL C p p') (hc:B<=C):FromL B p p':=fun q hq=>(h q hq).imp id fun h=>Nat.le_trans hc h
theorem yz {B C:Nat} {p p1 p2:Option Addr} (h:FromL B p p1) (k:FromL C p1 p2) (hc:B<=C):FromL B p p2:=fun q hq=>by
 rcases k q hq with h1 | h1
 ·exact h q h1
 ·exact .inr (Nat.le_trans hc h1)
theorem zS {plain:Bool} (hcc:PlC plain) (hcf:PlF plain) (p:PtrM) (al:Option Addr) (cl:Nat) (pick:Int) (r:RunM) (w:World) (hr:RunIn w p al cl r) (hk:ROk r) (hpk:0<=pick∧pick<=255) (h0:r.cause=0) (hll:r.looks.length<=5):
 Calls Tryz.prog 32 #[.agg (aG p al cl plain pick r)] w (fG w p al cl plain pick (cY plain pick r)):=by
 have HI:=hid hr;have HOK:=hid hk;have HPo:=hid hr.h.low;have HLo:=hid hr.low;have hRs:=bP p al cl plain pick r;have g2:(aG p al cl plain pick r)[2]?=some (VU r.h.pc):=rfl;obtain ⟨hpc1,hpc2⟩:=hk.h.pc;obtain ⟨X,hX⟩:∃X,cY plain pick r=X:=⟨_,rfl⟩;have HX:=hid hX;rw [hX];clear hX hr hk;have HTr:=hid fun u (hu:RunIn u p al cl r)=>lj plain hcc p al cl pick r 0 r.h.pc u hu HOK.out hpk (by omega) HOK.out.h.pc (by omega);have HT0:=hid fun u=>jE p al cl plain pick r 20 r.h.pc u;obtain ⟨D,hD⟩:∃D,aG p al cl plain pick r=D:=⟨_,rfl⟩;rw [hD] at hRs g2 HTr HT0 |-;obtain ⟨pc,hpc⟩:∃pc,r.h.pc=pc:=⟨_,rfl⟩;have HPc:Hid (r.h.pc=pc):=hpc;rw [hpc] at hpc1 hpc2 g2 HTr HT0;clear hD hpc;obtain ⟨Q,hQ⟩:∃Q,bodyPost Tryz.prog Tryz.f32 (fG w p al cl plain pick X)=Q:=⟨_,rfl⟩;have HQ:Hid _:=hQ;go_enter Tryz.func32,Tryz.ntmps32;rw [hQ];clear hQ;go_upto_region 1 with fail;obtain ⟨v1,Ev1,F⟩:=ax2 w D eS 54 54;rw [Ev1.out];clear Ev1;obtain ⟨h3,h6,l1,n1⟩:=F;have H3:Hid _:=h3;have H6:Hid _:=h6;have b1:w.heap.size<v1.heap.size:=by omega
 have b2:w.heap.size+1<v1.heap.size:=by omega
 have hl1:=l1;clear h3 h6 l1;have k2:=ab H3.out 2 g2;have HLd:Hid _:=aW (P:=Tryz.prog) (T:=54) H3.out Tryz.underlying54 rfl (by rw [hRs];exact dq);by_cases hal:¬pc%4=0
 ·have HXe:Hid (X=bI r 20 pc):=by show _=_;rw [<-HX.out,cY,if_neg (by rw [HPc.out];exact hal),HPc.out]
  have HTp:=HT0;go_upto_region 3 with fail;go_wp2_with ((with_reducible refine bj ?_ HLd.out ?_);(exact rfl));refine (HTp.out v1).mono ?_;rintro e vt ⟨rfl,nt⟩;have nVt:=bst n1 nt;have K6:Hid _:=ae H6.out nt (hpl H6.out);have hIt:RunIn vt p al cl (bI r 20 pc):=by
   have k:=(HI.out.keep n1).keep nt;exact ⟨k.h,k.looks,k.lookc,k.looka,k.lookl,k.low⟩
  have HFn:Hid _:=pu (cl:=cl) (plain:=plain) (pick:=pick) hIt (fun q hq=>.inl hq) (fun q hq=>.inl hq) nVt HPo.out HLo.out (aG p al cl plain pick (bI r 20 pc)).toList;have hR2:=bP p al cl plain pick (bI r 20 pc);have HR2o:Hid _:=dM p al cl plain pick (bI r 20 pc);generalize aG p al cl plain pick (bI r 20 pc)=E2 at HFn hR2 HR2o |-;have HSr:Hid _:=aR (P:=Tryz.prog) (T:=54) (V:=E2) K6.out (by rw [hR2];exact dq) (by rw [hR2,aS]) HR2o.out;have e1:=aI (V:=E2) K6.out (by rw [hR2,aS]);go_wp2_with ((with_reducible refine az ?_ ?_ HSr.out ?_);(exact rfl);(exact rfl));rw [<-HQ.out];refine dE (b:=w.heap.size+1) Tryz.results32 rfl (bC (P:=Tryz.prog) e1 Tryz.underlying54 rfl (by rw [hR2];exact dq)) rfl ?_;rw [HXe.out];exact HFn.out
 ·replace hal:=Decidable.not_not.1 hal;go_upto_region 4 with fail;have a2:=bF v1 #[VI 0,VU 0] 161;have HT2:Hid _:=a2.1;have n2:=bst n1 a2.2.2;have H32:Hid _:=ae H3.out a2.2.2 b1;have H62:Hid _:=ae H6.out a2.2.2 b2;have hl2:(v1.alloc (Obj.cells #[VI 0,VU 0] 161)).heap.size=w.heap.size+3:=by rw [a2.2.1];omega
  clear a2;go_upto_region 5 with fail;simp only [hl1] at HT2 H32 H62 n2 hl2 |-;generalize v1.alloc (Obj.cells #[VI 0,VU 0] 161)=v2 at HT2 H32 H62 n2 hl2 |-;clear HLd k2 H3 H6 n1 b1 b2 hl1 HT0;have HLd:Hid _:=aW (P:=Tryz.prog) (T:=54) H32.out Tryz.underlying54 rfl (by rw [hRs];exact dq);go_wp2_with ((with_reducible refine bj ?_ HLd.out ?_);(exact rfl));refine (HTr.out v2 (HI.out.keep n2)).mono ?_;rintro e v3 ⟨⟨p',al',cl',rfl,hI3,hF3,hL3⟩,n3⟩;have HYk:Hid (ROk (bf plain pick r 0 r.h.pc)):=jm HOK.out plain hpk (by omega) HOK.out.h.pc;have hYl:(bf plain pick r 0 r.h.pc).looks.length<=6:=by show (r.looks++[(0,r.h.pc)]).length<=6;rw [List.length_append,List.length_singleton];omega
  have hY0:(bf plain pick r 0 r.h.pc).cause=0:=h0;have htb:=jk HOK.out.h plain hpk (kind:=0) (by omega) HOK.out.h.pc;have HXc:Hid (X=if (aT plain pick r.h 0 pc).1.1=0 then (if dO (bf plain pick r 0 r.h.pc).h.mem.length (aT plain pick r.h 0 pc).1.2 4=true then gE plain pick (bf plain pick r 0 r.h.pc) (rdV (bf plain pick r 0 r.h.pc).h.mem (aT plain pick r.h 0 pc).1.2 4) else bI (bf plain pick r 0 r.h.pc) 1 pc) else bI (bf plain pick r 0 r.h.pc) (aT plain pick r.h 0 pc).1.1 pc):=by
   show _=_;rw [<-HX.out,cY,if_pos (by rw [HPc.out];exact hal)];simp only [iP,HPc.out];rfl
  rw [HPc.out] at htb;have HYk':Hid (ROk (bf plain pick r 0 pc)):=by have:=HYk.out;rw [HPc.out] at this;exact this
  rw [HPc.out] at HXc hYl hY0;clear HYk;generalize bf plain pick r 0 pc=Y at HYk' hYl hY0 HXc hI3 |-;obtain ⟨tc,htc⟩:∃tc,(aT plain pick r.h 0 pc).1.1=tc:=⟨_,rfl⟩;obtain ⟨pa,hpa⟩:∃pa,(aT plain pick r.h 0 pc).1.2=pa:=⟨_,rfl⟩;rw [htc,hpa] at htb HXc;have htv:fZ (aT plain pick r.h 0 pc).1=.agg #[VI tc,VU pa]:=by unfold fZ;rw [htc,hpa]
  rw [htv];obtain ⟨_,htc2,hpa2⟩:=htb;clear htc hpa htv HTr HLd;have hR3:=bP p' al' cl' plain pick Y;have HR3o:Hid _:=dM p' al' cl' plain pick Y;have g0:(aG p' al' cl' plain pick Y)[0]?=some (.slice p'.am Y.h.mem.length p'.cm):=rfl;have HTp0:=hid fun c t u=>jE p' al' cl' plain pick Y c t u;have HEx:Hid (∀x u,inU x->x<=4294967295->RunIn u p' al' cl' Y->Calls Tryz.prog 70 #[.agg (aG p' al' cl' plain pick Y),VI (x%256),VI (x/256%256),VI (x/65536%256),VI (x/16777216),VU x] u (fG u p' al' cl' plain pick (gE plain pick Y x))):=fun x u hx hx4 hu=>by
   have h1:=hx.1;exact zx hcc hcf p' al' cl' pick Y _ _ _ _ x u hu HYk'.out hpk hY0 hYl (by omega) (by omega) (by omega) (by omega) hx
  obtain ⟨E,hE⟩:∃E,aG p' al' cl' plain pick Y=E:=⟨_,rfl⟩;rw [hE] at hR3 HR3o g0 HTp0 HEx |-;clear hE;have hv2:=n2.size;have b3:w.heap.size<v2.heap.size:=by omega
  have J0:=ae H32.out n3 b3;have HSa:Hid _:=aR (P:=Tryz.prog) (T:=54) (V:=E) J0 (by rw [hR3];exact dq) (by rw [hR3,hRs]) HR3o.out;have J1:=aI (V:=E) J0 (by rw [hR3,hRs]);have J2:=gY (ae HT2.out n3 (by omega)) 0 E.toList (show w.heap.size+2≠w.heap.size by omega);have HSb:Hid _:=aR (P:=Tryz.prog) (T:=161) (V:=#[VI tc,VU pa]) J2 (by kernel_rfl) rfl (by simp [Value.oneCell']);have HJ3:Hid _:=gY J1 0 [VI tc,VU pa] (show w.heap.size≠w.heap.size+2 by omega);have HJ2:Hid _:=aI (V:=#[VI tc,VU pa]) J2 rfl;have HJ6:Hid _:=gY (gY (ae H62.out n3 (by omega)) 0 E.toList (show w.heap.size+1≠w.heap.size by omega)) 0 [VI tc,VU pa] (show w.heap.size+1≠w.heap.size+2 by omega);have n5:=aK (show w.heap.size<=w.heap.size+2 by omega) [VI tc,VU pa] 0 _ (aK nle E.toList 0 _ (bst n2 n3));have hFs:From (w.heap.size+3) p p':=by rw [<-hl2];exact hF3
  have hLs:FromL (w.heap.size+3) al al':=by rw [<-hl2];exact hL3
  have HF:Hid _:=hFs;have HL:Hid _:=hLs;have hne:∀q,some q∈be p'->q.block≠w.heap.size∧q.block≠w.heap.size+2:=fun q hq=>by
   rcases hFs q hq with h | h
   ·have:=HPo.out q h;omega
   ·omega
  have hnl:∀q,al'=some q->q.block≠w.heap.size∧q.block≠w.heap.size+2:=fun q hq=>by
   rcases hLs q hq with h | h
   ·have:=HLo.out q h;omega
   ·omega
  have HI5:Hid _:=((hI3.gb (aH w.heap.size E.toList 0 v3 v3 (ao v3 _)) (fun q hq=>(hne q hq).1) (fun q hq=>(hnl q hq).1))).gb (aH (w.heap.size+2) [VI tc,VU pa] 0 _ _ (ao (v3.setCells w.heap.size 0 E.toList) _)) (fun q hq=>(hne q hq).2) (fun q hq=>(hnl q hq).2);have hs5:((v3.setCells w.heap.size 0 E.toList).setCells (w.heap.size+2) 0 [VI tc,VU pa]).heap.size=v3.heap.size:=by rw [cF,cF]
  have hv3:=n3.size;clear J0 J1 J2 hne hnl hFs hLs hF3 hL3 hI3;go_upto_region 6 with (first
   | ((with_reducible refine az ?_ ?_ HSa.out ?_);(exact rfl);(exact rfl))
   | ((with_reducible refine az ?_ ?_ HSb.out ?_);(exact rfl);(exact rfl)))
  generalize (v3.setCells w.heap.size 0 E.toList).setCells (w.heap.size+2) 0 [VI tc,VU pa]=v5 at HJ3 HJ2 HJ6 n5 HI5 hs5 |-;clear HSa HSb H32 H62 HT2 n2 n3;have hb5:w.heap.size+2<v5.heap.size:=by omega
  clear hs5 hv3 hv2 b3 hl2;have t0:=ab HJ2.out 0 (show (#[VI tc,VU pa]:Array Value)[0]?=some (VI tc) from rfl);have t1:=ab HJ2.out 1 (show (#[VI tc,VU pa]:Array Value)[1]?=some (VU pa) from rfl);have HLd:Hid _:=aW (P:=Tryz.prog) (T:=54) HJ3.out Tryz.underlying54 rfl (by rw [hR3];exact dq);by_cases h0c:¬tc=0
  ·have HXe:Hid (X=bI Y tc pc):=by show _=_;rw [HXc.out,if_neg h0c]
   have HTp:Hid _:=HTp0.out tc pc;go_upto_region 7 with fail;go_wp2_with ((with_reducible refine bj ?_ HLd.out ?_);(exact rfl));refine (HTp.out v5).mono ?_;rintro e vt ⟨rfl,nt⟩;have nVt:=bst n5 nt;have K6:Hid _:=ae HJ6.out nt (hpl HJ6.out);have hIt:RunIn vt p' al' cl' (bI Y tc pc):=by
    have k:=HI5.out.keep nt;exact ⟨k.h,k.looks,k.lookc,k.looka,k.lookl,k.low⟩
   have HFn:Hid _:=pu (cl:=cl) (plain:=plain) (pick:=pick) hIt (From.low HF.out (by omega)) (FromL.low HL.out (by omega)) nVt HPo.out HLo.out (aG p' al' cl' plain pick (bI Y tc pc)).toList;have hR2:=bP p' al' cl' plain pick (bI Y tc pc);have HR2o:Hid _:=dM p' al' cl' plain pick (bI Y tc pc);generalize aG p' al' cl' plain pick (bI Y tc pc)=E2 at HFn hR2 HR2o |-;have HSr:Hid _:=aR (P:=Tryz.prog) (T:=54) (V:=E2) K6.out (by rw [hR2];exact dq) (by rw [hR2,aS]) HR2o.out;have e1:=aI (V:=E2) K6.out (by rw [hR2,aS]);go_wp2_with ((with_reducible refine az ?_ ?_ HSr.out ?_);(exact rfl);(exact rfl));rw [<-HQ.out];refine dE (b:=w.heap.size+1) Tryz.results32 rfl (bC (P:=Tryz.prog) e1 Tryz.underlying54 rfl (by rw [hR2];exact dq)) rfl ?_;rw [HXe.out];exact HFn.out
  ·replace h0c:=Decidable.not_not.1 h0c;subst h0c;go_upto_region 8 with fail;have hYs:=iy HYk'.out.h.v.size;obtain ⟨hmc1,hmc2⟩:=HI5.out.h.memc;obtain ⟨hpa3,hpa4⟩:=hpa2;have m0:=ab HJ3.out 0 g0;have HMm:=hid HI5.out.h.mem;have HRd:=hid fun u (hu:Bw v5 u)=>gK p'.am Y.h.mem.length p'.cm Y.h.mem pa 4 u (HMm.out.keep hu) (by omega) hmc1 hmc2 hpa3 hpa4 (by omega);have hx4:0<=rdV Y.h.mem pa 4∧rdV Y.h.mem pa 4<=4294967295:=by
    unfold rdV;split
    ·have:=fY Y.h.mem pa.toNat 4 HMm.out.2.1;have h4:(4:Int).toNat=4:=rfl;rw [h4];omega
    ·omega
   go_wp2_with fail;refine (HRd.out v5 brf).mono ?_;rintro e v6 ⟨rfl,n6⟩;obtain ⟨x,hx⟩:∃x,rdV Y.h.mem pa 4=x:=⟨_,rfl⟩;obtain ⟨gd,hgd⟩:∃gd,dO Y.h.mem.length pa 4=gd:=⟨_,rfl⟩;rw [hx] at hx4 HXc |-;rw [hgd] at HXc |-;clear hx hgd HRd HMm m0;obtain ⟨hx1,hx2⟩:=hx4;have a7:=bF v6 #[.bool false,VU 0] 165;have HS7:Hid _:=aR (P:=Tryz.prog) (T:=165) (V:=#[.bool gd,VU x]) a7.1 (by kernel_rfl) rfl (by simp [Value.oneCell']);have HB7:Hid _:=aI (V:=#[.bool gd,VU x]) a7.1 rfl;have n7:=aK (Nat.le_refl v6.heap.size) [.bool gd,VU x] 0 _ a7.2.2;have s7:v6.heap.size<((v6.alloc (Obj.cells #[.bool false,VU 0] 165)).setCells v6.heap.size 0 [.bool gd,VU x]).heap.size:=by rw [cF,a7.2.1];omega
   clear a7;go_upto_region 9 with ((with_reducible refine az ?_ ?_ HS7.out ?_);(exact rfl);(exact rfl));have n57:=bst n6 n7;clear HS7 n6 n7 t0 t1 HLd HJ2;generalize hb6:v6.heap.size=rb at HB7 s7 n57 |-;generalize (v6.alloc (Obj.cells #[.bool false,VU 0] 165)).setCells rb 0 [.bool gd,VU x]=v7 at HB7 s7 n57 |-;have n7:=bst n5 n57;have HI7:=hid (HI5.out.keep n57);have HJ7:Hid _:=ae HJ3.out n57 (by omega);have HK7:Hid _:=ae HJ6.out n57 (by omega);have u0:=ab HB7.out 0 (show (#[Value.bool gd,VU x]:Array Value)[0]?=some (.bool gd) from rfl);have u1:=ab HB7.out 1 (show (#[Value.bool gd,VU x]:Array Value)[1]?=some (VU x) from rfl);have hv7:w.heap.size+3<=v7.heap.size:=by have:=n57.size;omega
   clear n57 hb6 HJ3 HJ6 HI5 n5;have HLd:Hid _:=aW (P:=Tryz.prog) (T:=54) HJ7.out Tryz.underlying54 rfl (by rw [hR3];exact dq);cases gd
   ·have HXe:Hid (X=bI Y 1 pc):=by show _=_;rw [HXc.out];simp
    have HTp:Hid _:=HTp0.out 1 pc;go_upto_region 10 with fail;go_wp2_with ((with_reducible refine bj ?_ HLd.out ?_);(exact rfl));refine (HTp.out v7).mono ?_;rintro e vt ⟨rfl,nt⟩;have nVt:=bst n7 nt;have K6:Hid _:=ae HK7.out nt (hpl HK7.out);have hIt:RunIn vt p' al' cl' (bI Y 1 pc):=by
     have k:=HI7.out.keep nt;exact ⟨k.h,k.looks,k.lookc,k.looka,k.lookl,k.low⟩
    have HFn:Hid _:=pu (cl:=cl) (plain:=plain) (pick:=pick) hIt (From.low HF.out (by omega)) (FromL.low HL.out (by omega)) nVt HPo.out HLo.out (aG p' al' cl' plain pick (bI Y 1 pc)).toList;have hR2:=bP p' al' cl' plain pick (bI Y 1 pc);have HR2o:Hid _:=dM p' al' cl' plain pick (bI Y 1 pc);generalize aG p' al' cl' plain pick (bI Y 1 pc)=E2 at HFn hR2 HR2o |-;have HSr:Hid _:=aR (P:=Tryz.prog) (T:=54) (V:=E2) K6.out (by rw [hR2];exact dq) (by rw [hR2,aS]) HR2o.out;have e1:=aI (V:=E2) K6.out (by rw [hR2,aS]);go_wp2_with ((with_reducible refine az ?_ ?_ HSr.out ?_);(exact rfl);(exact rfl));rw [<-HQ.out];refine dE (b:=w.heap.size+1) Tryz.results32 rfl (bC (P:=Tryz.prog) e1 Tryz.underlying54 rfl (by rw [hR2];exact dq)) rfl ?_;rw [HXe.out];exact HFn.out
   ·have HXe:Hid (X=gE plain pick Y x):=by show _=_;rw [HXc.out];simp
    go_upto_region 12 with fail;go_wp2_with ((with_reducible refine bj ?_ HLd.out ?_);(exact rfl));refine (HEx.out x v7 ⟨hx1,by omega⟩ hx2 HI7.out).mono ?_;rintro e v8 ⟨⟨p2,al2,cl2,rfl,hI8,hF8,hL8⟩,n8⟩;have n8':=bst n7 n8;have K6:Hid _:=ae HK7.out n8 (hpl HK7.out);have HFn:Hid _:=pu (cl:=cl) (plain:=plain) (pick:=pick) hI8 (From.low (nl HF.out hF8 hv7) (by omega)) (FromL.low (yz HL.out hL8 hv7) (by omega)) n8' HPo.out HLo.out (aG p2 al2 cl2 plain pick (gE plain pick Y x)).toList;have hR2:=bP p2 al2 cl2 plain pick (gE plain pick Y x);have HR2o:Hid _:=dM p2 al2 cl2 plain pick (gE plain pick Y x);generalize aG p2 al2 cl2 plain pick (gE plain pick Y x)=E2 at HFn hR2 HR2o |-;have HSr:Hid _:=aR (P:=Tryz.prog) (T:=54) (V:=E2) K6.out (by rw [hR2];exact dq) (by rw [hR2,aS]) HR2o.out;have e1:=aI (V:=E2) K6.out (by rw [hR2,aS]);go_wp2_with ((with_reducible refine az ?_ ?_ HSr.out ?_);(exact rfl);(exact rfl));rw [<-HQ.out];refine dE (b:=w.heap.size+1) Tryz.results32 rfl (bC (P:=Tryz.prog) e1 Tryz.underlying54 rfl (by rw [hR2];exact dq)) rfl ?_;rw [HXe.out];exact HFn.out
end
end Go.Proofs.YthdgiakgepmabaaGreat
