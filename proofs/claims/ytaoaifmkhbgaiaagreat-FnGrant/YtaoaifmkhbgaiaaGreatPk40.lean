import Derived.Test.YtaoaifmkhbgaiaaGreatPk39
import Derived.Test.YtaoaifmkhbgaiaaGreatPk08
import Derived.Test.YtaoaifmkhbgaiaaGreatPk37
import Derived.Test.YtaoaifmkhbgaiaaGreatPk11
import Derived.Test.YtaoaifmkhbgaiaaGreatPk07
namespace Go.Proofs.YtaoaifmkhbgaiaaGreat
open Go.RowKit
set_option linter.unusedVariables false
attribute [local go_sem ↓] Go.wp_at_zero Go.wp_at_succ
set_option maxRecDepth 20000 in
set_option maxHeartbeats 12800000 in
theorem p7 (a:Option Addr) (len cap:Nat) (code:List Int) (w:World) (hB:Byt w a len code) (hl:len≤1048576):
 Calls Tryz.prog 7 #[.slice a len cap] w fun e w'=>∃(g n c:Nat) (zs:List Int) (mode:Int) (sum mxr:Bool) (satp:Int) (q:PtrM) (km:KM) (kind va pick:Int),
  e=.returned (.tuple #[.slice (some ⟨g,0,none⟩) n c,dx mode sum mxr satp,.agg (kA q km),.int .i64 kind,.int .u64 va,.int .i64 pick])∧Byt w' (some ⟨g,0,none⟩) n zs∧n≤4096∧(n≤c∧c≤9223372036854775807)∧KAt w' (.agg (kA q km)) km∧(0≤satp∧satp≤18446744073709551615)∧(0≤va∧va≤18446744073709551615)∧Below w.heap.size w w':=by
 have CN:Hid (∀u,Below w.heap.size w u→Calls Tryz.prog 26 #[.slice a len cap] u fun e w'=>e=.returned (.pointer (some ⟨u.heap.size,0,none⟩))∧CurN w' u.heap.size (oH code (jZ code (54321+(len:Int)))) 0∧Below u.heap.size u w'):=fun u hu=>xZ a len cap code u (hB.keep hu) hl;generalize oH code (jZ code (54321+(len:Int)))=f at *;clear hB hl;unfold dx;go_enter Tryz.func7,Tryz.ntmps7;go_upto_region 1 with fail;have F:=eU w #[.int .i64 0,.bool false,.bool false,.int .u64 0] zkA 25 30;generalize (w.alloc (Obj.cells #[.int .i64 0,.bool false,.bool false,.int .u64 0] 25)).alloc (Obj.cells zkA 30)=v1 at F ⊢;obtain ⟨h3,h4,l1,n1⟩:=F;go_wp2_with fail;refine (CN.out v1 n1).mono ?_;rintro e u1 ⟨rfl,cu,nu⟩;have hp1:=cu.lt;have su:=nu.size;have H3:Hid (u1.heap[w.heap.size]?=some (.cells #[.int .i64 0,.bool false,.bool false,.int .u64 0] 25 (0,0))):=ab h3 nu (by omega);have H4:Hid (u1.heap[w.heap.size+1]?=some (.cells zkA 30 (0,0))):=ab h4 nu (by omega);have nW:Below w.heap.size w u1:=Below.step n1 nu (Nat.le_refl _);have hpl:w.heap.size+1<v1.heap.size:=by omega
 have bpp:w.heap.size≤v1.heap.size:=by omega
 generalize hpe:v1.heap.size=p at *;clear h3 h4 n1 nu CN l1 hpe;go_wp2_with fail;refine (tz p f 0 u1 cu).mono ?_;rintro e v2 ⟨q,h,k2,rfl,hn,hge,d2⟩;obtain ⟨v3,hs3,P3,l3,n3⟩:=pS v2 (aD q h) rfl (fD _ _);have HS3:Hid _:=hs3;have HN:Hid (HartN v3 p q h):=hn.keep n3;have D1:=d2.below (n3.mono d2.2.size) hp1;have H9:Hid _:=P3;have hp3:p<v3.heap.size:=D1.1.lt;have GE:Hid (∀x,some x∈aQ q→u1.heap.size≤x.block):=hge;have s12:u1.heap.size≤v2.heap.size:=d2.2.size;clear hs3 P3 n3 hn hge d2 cu;have AS:=ez q h;have HBm:Hid (((aD q h).toList.drop 12).take 9=(kA q h.k).toList):=by show _=_;rfl
 have HB0:Hid ((aD q h)[0]?=some (.slice q.am h.mem.length q.cm)):=by show _=_;rfl
 have CX:Hid (∀(k:Nat) (u:World),CurN u p f k→Calls Tryz.prog 28 #[.pointer (some ⟨p,0,none⟩),.agg (aD q h)] u fun e w'=>∃mode sum mxr satp k',e=.returned (dx mode sum mxr satp)∧(0≤satp∧satp≤18446744073709551615)∧DrewN u p f k' w'):=fun k u hu=>qh p f k q h u hu HN.out.o.satp;have CV:Hid (∀(k:Nat) (u:World),CurN u p f k→HartN u p q h→Calls Tryz.prog 35 #[.pointer (some ⟨p,0,none⟩),.agg (aD q h)] u fun e w'=>∃va k',e=.returned (.int .u64 va)∧(0≤va∧va≤18446744073709551615)∧DrewN u p f k' w'):=fun k u hu hh=>wD p f k q h u hu hh;unfold dx at CX;generalize hAH:aD q h=AH at *;clear hAH;go_upto_region 3 with (first | ((with_reducible refine au ?_ ?_ HS3.out ?_);(exact rfl);(exact rfl)));simp only [Act.put];clear HS3;generalize hb9:v2.heap.size=b9 at *;have L9:b9<v3.heap.size:=l3;clear hb9;have JH:Hid (∀u:World,v3.grownBy u (some p)→(Instr.loadAt 48 (.pointer (some ⟨b9,0,none⟩))).run Tryz.prog u=.ok (.agg AH) u):=fun u hu=>mC AS (av H9.out hu (by omega));have J9:Hid _:=JH.out v3 (aE _ _);go_wp2_with (first | ((with_reducible refine az ?_ J9.out ?_);(exact rfl)));refine (CX.out k2 v3 D1.1).mono ?_;rintro e v4 ⟨m,s,x,t,k4,rfl,bt,d4⟩;obtain ⟨v5,hs5,P5,l5,n5⟩:=dI v4 #[.int .i64 0,.bool false,.bool false,.int .u64 0] #[.int .i64 m,.bool s,.bool x,.int .u64 t] 25 fh rfl (jo _ _ _ _);have HS5:Hid _:=hs5;have S:YS v3 p f k4 v5 v4.heap.size m s x t:=⟨d4.below (n5.mono d4.2.size) hp3,P5,d4.2.size,bt⟩;clear hs5 P5 n5 d4 CX J9 l5;go_upto_region 4 with (first | ((with_reducible refine au ?_ ?_ HS5.out ?_);(exact rfl);(exact rfl)));simp only [Act.put];clear HS5;generalize hb10:v4.heap.size=b10 at *;clear hb10;go_cut [30] from 23 to 29 (fun s30 wx=>∃(bb:Bool) (k':Nat),s30=.bool bb∧YS v3 p f k' wx b10 m s x t)
 case first=>
  have J10:Hid _:=aB (P:=Tryz.prog) (T:=25) S.h5 Tryz.underlying25 rfl fh;have CO:Hid (∀u,Calls Tryz.prog 29 #[.agg #[.int .i64 m,.bool s,.bool x,.int .u64 t]] u fun e w'=>e=.returned (.bool (onM m t))∧Below u.heap.size u w'):=fun u=>kD m s x t u bt.1 bt.2;generalize onM m t=ob at *;go_wp2_with (first | ((with_reducible refine az ?_ J10.out ?_);(exact rfl)));refine (CO.out v5).mono ?_;rintro e v6 ⟨rfl,n6⟩;replace S:=S.keep hp3 n6;clear n6 J10;cases ob
  ·go_wp2_with fail;refine (aX p f k4 4 _ S.d.1 (by omega) (by omega)).mono ?_;rintro e v7 ⟨y,k7, -,hy,rfl,d7⟩;replace S:=S.draw hp3 d7;go_wp2_with fail;go_meet
   case rel=>exact ⟨_,_,rfl,S⟩
  ·go_wp2_with fail;go_meet
   case rel=>exact ⟨_,_,rfl,S⟩
 case rest=>
 clear S;obtain ⟨bb,k5,rfl,S⟩:=hcut;go_upto_if 30 with fail;go_cut [] from 31 to 38 (fun wx=>∃(m' t':Int) (k':Nat),YS v3 p f k' wx b10 m' s x t')
 case first=>
  cases bb
  ·go_wp2_with fail;go_meet
   case rel=>exact ⟨_,_,_,S⟩
  ·go_wp2_with fail;refine (aX p f k5 2 _ S.d.1 (by omega) (by omega)).mono ?_;rintro e v7 ⟨y,k7, -,hy,rfl,d7⟩;replace S:=S.draw hp3 d7;obtain ⟨g5,c0, -, -, -,f5⟩:=S.low;have f0:=f5 0;have S2:=S.put hp3 0 (.int .i64 y) rfl S.bd;clear f5 S;go_upto_region 6 with fail;clear g5 c0 f0;generalize v7.setCell ⟨b10,0,none⟩ (.int .i64 y)=v8 at S2 ⊢;go_wp2_with fail;refine (aX p f k7 2 _ S2.d.1 (by omega) (by omega)).mono ?_;rintro e v9 ⟨z,k9, -,hz,rfl,d9⟩;replace S2:=S2.draw hp3 d9;have bz:0≤iu (1+z) 1∧iu (1+z) 1≤18446744073709551615:=by rw [iu];omega
   have CS:Hid (∀u,Calls Tryz.prog 31 #[.int .i64 (1+z),.int .i64 1] u fun e w'=>e=.returned (.int .u64 (iu (1+z) 1))∧w'=u):=fun u=>mn (1+z) 1 u (by omega) (by omega) (by omega) (by omega);generalize iu (1+z) 1=sz at *;go_wp2_with fail;refine (CS.out _).mono ?_;rintro e _ ⟨rfl,rfl⟩;obtain ⟨g5, -, -, -,c3,f5⟩:=S2.low;have f3:=f5 3;have S3:=S2.put hp3 3 (.int .u64 sz) rfl bz;clear f5 S2;go_wp2_with fail;go_meet
   case rel=>exact ⟨_,_,_,S3⟩
 case rest=>
 clear S bt;obtain ⟨m1,t1,k6,S⟩:=hcut;rename World=>wa
 as_aux_lemma=>
 have h9a:=av H9.out S.d.2 (show b9≠p by omega);have c90:=ag h9a 0 HB0.out;have JK:Hid _:=co (P:=Tryz.prog) (T:=30) h9a Tryz.underlying30 rfl (o:=12) (kA q h.k).toList cK HBm.out rfl;rw [show (kA q h.k).toList.toArray=kA q h.k from rfl] at JK;have J10:Hid _:=aB (P:=Tryz.prog) (T:=25) S.h5 Tryz.underlying25 rfl fh;have hn:=HN.out.gb S.d.2;have CWm:Hid (∀u,CurN u p f k6→HartN u p q h→Calls Tryz.prog 32 #[.pointer (some ⟨p,0,none⟩),.slice q.am h.mem.length q.cm,.agg #[.int .i64 m1,.bool s,.bool x,.int .u64 t1],.agg (kA q h.k)] u fun e w'=>∃q' km' k',e=.returned (.agg (kA q' km'))∧KN w' p q' km'∧aV km'=true∧(∀r,r<u.heap.size→KN u r q h.k→KN w' r q' km')∧DrewN u p f k' w'):=fun u hu hh=>uD p f k6 q.am h.mem.length q.cm h.mem m1 s x t1 q h.k u hu hh.bn S.bd hh.kn hh.o.v.ks;have HKr:Hid (∀r,r<u1.heap.size→KN wa r q h.k):=fun r hr=>⟨hn.i.ks,fun z hz=>⟨by have:=GE.out z (by simp [aQ,hz]);omega,hn.i.low z (by simp [aQ,hz])⟩,fun z hz=>⟨by have:=GE.out z (by simp [aQ,hz]);omega,hn.i.low z (by simp [aQ,hz])⟩,fun z hz=>⟨by have:=GE.out z (by simp [aQ,hz]);omega,hn.i.low z (by simp [aQ,hz])⟩⟩;have CWa:=CWm.out wa S.d.1 hn;have s3a:v3.heap.size≤wa.heap.size:=S.d.2.size;have s23:u1.heap.size≤v3.heap.size:=D1.2.size;have HKAs:(kA q h.k).size=9:=rfl;clear CWm hn;generalize kA q h.k=AK at *;generalize hML:h.mem.length=ML at *;go_wp2_with (first | ((with_reducible refine az ?_ J10.out ?_);(exact rfl)) | ((with_reducible refine az ?_ JK.out ?_);(exact rfl)));refine CWa.mono ?_;rintro e v7 ⟨q7,km7,k7,rfl,kn7,hgood,kr7,d7⟩;obtain ⟨v8,hs8,P8,l8,n8⟩:=dI v7 zkA (kA q7 km7) 30 cK rfl (ic _ _);have HS8:Hid _:=hs8;have s7:wa.heap.size≤v7.heap.size:=d7.2.size;have lb10:b10<wa.heap.size:=S.low.1;have L0:LS v3 v7 [w.heap.size,w.heap.size+1] p f k7 v8 b10 v7.heap.size m1 s x t1 q7 km7:=⟨(S.draw hp3 d7).keep hp3 n8,(DrewN.refl d7.1).below n8 d7.1.lt,P8,Nat.le_refl _,by omega,by omega,kn7.keep n8,fun r hr=>by
  have hr':r<u1.heap.size:=by
   simp only [List.mem_cons,List.not_mem_nil,or_false] at hr;omega
  exact (kr7 r (by omega) (HKr.out r hr')).rwk.mono n8.size,(kn7.new (Nat.le_refl _)).rwk.mono n8.size,pT hgood⟩
 have HW:0≤km7.d.ways∧km7.d.ways≤1000:=by
  simp only [aV,Bool.and_eq_true] at hgood;exact mj hgood.1.2
 have hML2:1≤ML∧ML≤4096:=by
  have:=fO HN.out.o.v.size;rw [hML] at this;omega
 have HBN:Hid (∀u:World,v3.grownBy u (some p)→BytN u p q.am ML q.cm h.mem):=fun u hu=>by
  have:=(HN.out.gb hu).bn;rw [hML] at this;exact this
 clear hs8 P8 n8 d7 kr7 kn7 hgood l8 S JK c90 h9a HKr CWa GE HBm;generalize hAK7:kA q7 km7=AK7 at HS8 ⊢;go_upto_region 8 with (first | ((with_reducible refine au ?_ ?_ HS8.out ?_);(exact rfl);(exact rfl)));simp only [Act.put];clear HS8 J10;obtain ⟨b11,hb11⟩:∃b,v7.heap.size=b:=⟨_,rfl⟩;rw [hb11] at L0 ⊢;have lb11:b11<v8.heap.size:=(Array.getElem?_eq_some_iff.1 L0.h11).1;have l7b:v7.heap.size≤b11:=Nat.le_of_eq hb11;clear hb11 hAK7 hML;go_wp2_with fail;refine (dp p f k7 14 _ L0.y.d.1 (by omega) (by omega)).mono ?_;rintro e va1 ⟨o8,k8, -,rfl,dd⟩;have L1:=L0.draw hp3 dd;have s8:=dd.2.size;clear L0 dd;go_upto_if 47 with fail;go_cut [] from 48 to 52 (fun wx=>∃(q':PtrM) (km':KM) (k':Nat),LS v3 v7 [w.heap.size,w.heap.size+1] p f k' wx b10 b11 m1 s x t1 q' km')
 case first=>
  cases o8
  ·go_wp2_with fail;go_meet
   case rel=>exact ⟨_,_,_,L1⟩
  ·have JD:Hid _:=L1.load.2.1;go_wp2_with (first | ((with_reducible refine az ?_ JD.out ?_);(exact rfl)));refine (iO p f k8 q7.a2 q7.c2 km7.d _ L1.y.d.1 ⟨L1.kp.parts.2.1,L1.kp.n2⟩ L1.le.2.1 HW).mono ?_;rintro e vb ⟨a',c',t',k9,rfl,⟨tn,tge⟩,tl,d9⟩;have L2:=L1.draw hp3 d9;obtain ⟨vc,hsc,L3⟩:=L2.spoil hp3 a' c' t' tn (fun r hr=>fun z hz=>⟨by
    have h1:=tge z hz;simp only [List.mem_cons,List.not_mem_nil,or_false] at hr;omega,(tn.n z hz).2⟩) (fun z hz=>⟨by have h1:=tge z hz;omega,(tn.n z hz).2⟩) tl
   have HSC:Hid _:=hsc;clear L1 L2 hsc tn d9 JD tl tge;go_wp2_with (first | ((with_reducible refine au ?_ ?_ HSC.out ?_);(exact rfl);(exact rfl)));go_meet
   case rel=>exact ⟨_,_,_,L3⟩
 case rest=>
 clear L1 HW;obtain ⟨q8,km8,k9,L⟩:=hcut;clear lb11 s8
 as_aux_lemma=>
 go_wp2_with fail;refine (aX p f k9 3 _ L.y.d.1 (by omega) (by omega)).mono ?_;rintro e w10 ⟨kd,k10, -,hkd,rfl,dd⟩;replace L:=L.draw hp3 dd;clear dd;have J11:Hid _:=JH.out w10 L.y.d.2;go_wp2_with (first | ((with_reducible refine az ?_ J11.out ?_);(exact rfl)));refine (CV.out k10 w10 L.y.d.1 (HN.out.gb L.y.d.2)).mono ?_;rintro e w11 ⟨va0,k11,rfl,bva0,dd⟩;replace L:=L.draw hp3 dd;clear dd J11;go_wp2_with fail;refine (aX p f k11 4 _ L.y.d.1 (by omega) (by omega)).mono ?_;rintro e w12 ⟨y12,k12, -,hy12,rfl,dd⟩;replace L:=L.draw hp3 dd;clear dd;go_upto_if 60 with fail;first
  | generalize hbl:decide (0<y12)=bl
  | generalize hbl:decide (y12>0)=bl
 clear hbl;go_cut [13,14] from 61 to 73 (fun s13 s14 wx=>∃(va:Int) (k':Nat),s13=.int .u64 va∧(0≤va∧va≤18446744073709551615)∧LS v3 v7 [w.heap.size,w.heap.size+1] p f k' wx b10 b11 m1 s x t1 q8 km8)
 case first=>
  cases bl
  ·go_wp2_with fail;go_meet
   case rel=>exact ⟨_,_,rfl,bva0,L⟩
  ·as_aux_lemma=>
   have JD:Hid _:=L.load.2.1;obtain ⟨v14,hs14,P14,l14,n14⟩:=dI w12 #[.int .i64 0,.int .i64 0,.slice none 0 0] #[.int .i64 km8.d.sets,.int .i64 km8.d.ways,.slice q8.a2 km8.d.es.length q8.c2] 28 df rfl (eI _ _ _ _ _);have HS14:Hid _:=hs14;have lb:b11<w12.heap.size:=(Array.getElem?_eq_some_iff.1 L.h11).1;have s712:v7.heap.size≤w12.heap.size:=L.d7.2.size;have T:TS v3 v7 [w.heap.size,w.heap.size+1] p f k12 v14 b10 b11 w12.heap.size m1 s x t1 q8 km8 q8.a2 q8.c2 km8.d:=⟨L.keep hp3 n14,P14,s712,by omega,(L.kp.new (Nat.le_refl _)).rwk.mono n14.size,⟨(L.kp.keep n14).parts.2.1,L.kp.n2.mono n14.size⟩,(L.kp.n2.new (Nat.le_refl _)).mono n14.size,L.le.2.1⟩;clear hs14 P14 n14 l14 L;go_upto_region 14 with (first | ((with_reducible refine az ?_ JD.out ?_);(exact rfl)) | ((with_reducible refine au ?_ ?_ HS14.out ?_);(exact rfl);(exact rfl)));simp only [Act.put];clear JD HS14;generalize hb14:w12.heap.size=b14 at T ⊢;clear hb14 lb s712;go_upto_if 64 with fail;generalize hbq:(kd == 0)=bq;clear hbq;go_cut [] from 65 to 66 (fun wx=>∃(a:Option Addr) (c:Nat) (tt:TlbM),TS v3 v7 [w.heap.size,w.heap.size+1] p f k12 wx b10 b11 b14 m1 s x t1 q8 km8 a c tt)
   case first=>
    cases bq
    ·go_wp2_with fail;go_meet
     case rel=>exact ⟨_,_,_,T⟩
    ·have JI:Hid _:=T.l.load.1;obtain ⟨vT,hsT,T2⟩:=T.put hp3 (t':=km8.i) (a':=q8.a1) (c':=q8.c1) ⟨T.l.kp.parts.1,T.l.kp.n1⟩ T.k14.1 T.l.le.1;have HST:Hid _:=hsT;clear T hsT;go_wp2_with (first | ((with_reducible refine az ?_ JI.out ?_);(exact rfl)) | ((with_reducible refine au ?_ ?_ HST.out ?_);(exact rfl);(exact rfl)));go_meet
     case rel=>exact ⟨_,_,_,T2⟩
   case rest=>
   clear T;obtain ⟨a14,c14,t14,T⟩:=hcut;go_wp2_with fail;refine (dp p f k12 4 _ T.l.y.d.1 (by omega) (by omega)).mono ?_;rintro e w15 ⟨o15,k15, -,rfl,dd⟩;replace T:=T.draw hp3 dd;clear dd;go_upto_if 68 with fail;go_cut [] from 69 to 70 (fun wx=>∃(a:Option Addr) (c:Nat) (tt:TlbM),TS v3 v7 [w.heap.size,w.heap.size+1] p f k15 wx b10 b11 b14 m1 s x t1 q8 km8 a c tt)
   case first=>
    cases o15
    ·go_wp2_with fail;go_meet
     case rel=>exact ⟨_,_,_,T⟩
    ·have JI:Hid _:=T.l.load.2.2;obtain ⟨vT,hsT,T2⟩:=T.put hp3 (t':=km8.p) (a':=q8.a3) (c':=q8.c3) ⟨T.l.kp.parts.2.2,T.l.kp.n3⟩ T.k14.2.2 T.l.le.2.2;have HST:Hid _:=hsT;clear T hsT;go_wp2_with (first | ((with_reducible refine az ?_ JI.out ?_);(exact rfl)) | ((with_reducible refine au ?_ ?_ HST.out ?_);(exact rfl);(exact rfl)));go_meet
     case rel=>exact ⟨_,_,_,T2⟩
   case rest=>
   clear T;obtain ⟨a16,c16,t16,T⟩:=hcut;rename World=>w16;have J14:Hid _:=aB (P:=Tryz.prog) (T:=28) T.h14 Tryz.underlying28 rfl df;go_wp2_with (first | ((with_reducible refine az ?_ J14.out ?_);(exact rfl)));refine (rX p f k15 a16 c16 t16 w16 T.l.y.d.1 T.tn T.le).mono ?_;rintro e w17 ⟨va,k17,rfl,bva,dd⟩;have L2:=T.l.draw hp3 dd;clear dd T J14;go_wp2_with fail;go_meet
   case rel=>exact ⟨_,_,rfl,bva,L2⟩
 case rest=>
 clear L bva0;obtain ⟨va,k13,rfl,bva,L⟩:=hcut
 as_aux_lemma=>
 go_wp2_with fail;refine (aX p f k13 256 _ L.y.d.1 (by omega) (by omega)).mono ?_;rintro e w19 ⟨pk0,k19, -,hpk0,rfl,dd⟩;replace L:=L.draw hp3 dd;clear dd;go_wp2_with fail;refine (dp p f k19 30 _ L.y.d.1 (by omega) (by omega)).mono ?_;rintro e w20 ⟨o20,k20, -,rfl,dd⟩;replace L:=L.draw hp3 dd;clear dd;go_upto_if 77 with fail;go_cut [12,15] from 78 to 83 (fun s12 s15 wx=>∃(kd' pk':Int) (k':Nat),s12=.int .i64 kd'∧s15=.int .i64 pk'∧LS v3 v7 [w.heap.size,w.heap.size+1] p f k' wx b10 b11 m1 s x t1 q8 km8)
 case first=>
  cases o20
  ·go_wp2_with fail;go_meet
   case rel=>exact ⟨_,_,_,rfl,rfl,L⟩
  ·go_wp2_with fail;refine (aX p f k20 5 _ L.y.d.1 (by omega) (by omega)).mono ?_;rintro e w21 ⟨y21,k21, -,hy21,rfl,dd⟩;replace L:=L.draw hp3 dd;clear dd;go_wp2_with fail;refine (aX p f k21 3 _ L.y.d.1 (by omega) (by omega)).mono ?_;rintro e w22 ⟨y22,k22, -,hy22,rfl,dd⟩;replace L:=L.draw hp3 dd;clear dd;go_wp2_with fail;go_meet
   case rel=>exact ⟨_,_,_,rfl,rfl,L⟩
 case rest=>
 clear L;obtain ⟨kd,pk,k22,rfl,rfl,L⟩:=hcut;rename World=>wz
 as_aux_lemma=>
 go_upto_region 23 with fail;have lb10:b10<wz.heap.size:=L.y.low.1;have lb11:b11<wz.heap.size:=(Array.getElem?_eq_some_iff.1 L.h11).1;have ll11:=L.l11;have ll10:=L.y.l5;have ll37:=L.l37;have s13:u1.heap.size≤v3.heap.size:=D1.2.size;have H9z:Hid (wz.heap[b9]?=some (.cells AH 48 (0,0))):=av H9.out L.y.d.2 (by omega);have H3z:Hid (wz.heap[w.heap.size]?=some (.cells #[.int .i64 0,.bool false,.bool false,.int .u64 0] 25 (0,0))):=av H3.out (cJ D1.2 L.y.d.2) (by omega);have H4z:Hid (wz.heap[w.heap.size+1]?=some (.cells zkA 30 (0,0))):=av H4.out (cJ D1.2 L.y.d.2) (by omega);have s3z:v3.heap.size≤wz.heap.size:=L.y.d.2.size;have HL9:Hid (∀u:World,u.heap[b9]?=some (.cells AH 48 (0,0))→(Instr.loadAt 22 (.pointer (some ⟨b9,0,none⟩))).run Tryz.prog u=.ok (.slice q.am ML q.cm) u):=fun u hu=>by
  have h1:=ag hu 0 HB0.out;go_simp
 have HL10:Hid (∀u:World,u.heap[b10]?=some (.cells #[.int .i64 m1,.bool s,.bool x,.int .u64 t1] 25 (0,0))→(Instr.loadAt 23 (.pointer (some ⟨b10,3,none⟩))).run Tryz.prog u=.ok (.int .u64 t1) u):=fun u hu=>by
  have h1:=ag hu 3 (v:=.int .u64 t1) rfl;go_simp
 have HL10w:Hid (∀u:World,u.heap[b10]?=some (.cells #[.int .i64 m1,.bool s,.bool x,.int .u64 t1] 25 (0,0))→(Instr.loadAt 25 (.pointer (some ⟨b10,0,none⟩))).run Tryz.prog u=.ok (.agg #[.int .i64 m1,.bool s,.bool x,.int .u64 t1]) u):=fun u hu=>aB (P:=Tryz.prog) (T:=25) hu Tryz.underlying25 rfl fh;have HL11:Hid (∀u:World,u.heap[b11]?=some (.cells (kA q8 km8) 30 (0,0))→(Instr.loadAt 30 (.pointer (some ⟨b11,0,none⟩))).run Tryz.prog u=.ok (.agg (kA q8 km8)) u):=fun u hu=>aB (P:=Tryz.prog) (T:=30) hu Tryz.underlying30 rfl cK;have HF1:Hid (∀u:World,wz.grownBy u (some p)→u.heap[b9]?=some (.cells AH 48 (0,0))∧u.heap[b10]?=some (.cells #[.int .i64 m1,.bool s,.bool x,.int .u64 t1] 25 (0,0))∧u.heap[b11]?=some (.cells (kA q8 km8) 30 (0,0))):=fun u hu=>⟨av H9z.out hu (by omega),av L.y.h5 hu (by omega),av L.h11 hu (by omega)⟩;have CSt:Hid (Calls Tryz.prog 37 #[.pointer (some ⟨p,0,none⟩),.slice q.am ML q.cm,.int .u64 t1,.int .u64 va] wz.drew fun e w'=>∃(g c:Nat) (zs':List Int) (k':Nat),e=.returned (.slice (some ⟨g,0,none⟩) ML c)∧BytN w' p (some ⟨g,0,none⟩) ML c zs'∧wz.drew.heap.size≤g∧DrewN wz.drew p f k' w'):=yn p f k22 q.am ML q.cm h.mem t1 va wz.drew (L.y.d.1.below (B:=wz.heap.size) (Below.refl _ _).drew (by omega)) ((HBN.out wz L.y.d.2).keep (Below.refl _ _).drew) hML2.1 L.y.bd bva;have HKN:Hid (∀u:World,wz.grownBy u (some p)→KN u p q8 km8∧RwK u w.heap.size q8∧RwK u (w.heap.size+1) q8):=fun u hu=>⟨L.kp.gb hu,(L.kn _ (by simp)).mono hu.size,(L.kn _ (by simp)).mono hu.size⟩;have bdT:=L.y.bd;have gWz:u1.grownBy wz (some p):=cJ D1.2 L.y.d.2;have HAs:(kA q8 km8).size=9:=rfl;have HA1:=ic q8 km8;obtain ⟨AC,hAC⟩:∃A,kA q8 km8=A:=⟨_,rfl⟩;have EAC:Hid _:=hAC;rw [hAC] at HL11 HF1 HAs HA1;clear hAC L HBN H9 H3 H4 JH CV HN;have gD:wz.grownBy wz.drew (some p):=kg (Below.refl _ _).drew;have hF:=HF1.out wz.drew gD;refine ba (fun u=>u.heap[b9]?=some (.cells AH 48 (0,0))∧u.heap[b10]?=some (.cells #[.int .i64 m1,.bool s,.bool x,.int .u64 t1] 25 (0,0))∧u.heap[b11]?=some (.cells AC 30 (0,0))) 17 (by kernel_rfl) ?_;refine ah 0 84 (.pointer (some ⟨p,0,none⟩)) rfl (by kernel_rfl) (by kernel_rfl) (by kernel_rfl) (by kernel_rfl) rfl (by kernel_rfl) (fun _ _ _ h=>h) (by kernel_rfl) (fun u hu=>by kernel_rfl) hF (by kernel_rfl) ?_;simp only [Act.put,List.setIfInBounds_toArray,List.set_cons_succ,List.set_cons_zero];refine ah 1 85 (.pointer (some ⟨b9,0,none⟩)) rfl (by kernel_rfl) (by kernel_rfl) (by kernel_rfl) (by kernel_rfl) rfl (by kernel_rfl) (fun _ _ _ h=>h) (by kernel_rfl) (fun u hu=>by kernel_rfl) hF (by kernel_rfl) ?_;simp only [Act.put,List.setIfInBounds_toArray,List.set_cons_succ,List.set_cons_zero];refine ah 2 86 (.slice q.am ML q.cm) rfl (by kernel_rfl) (by kernel_rfl) (by kernel_rfl) (by kernel_rfl) rfl (by kernel_rfl) (fun _ _ _ h=>h) (by kernel_rfl) (fun u hu=>aM rfl (HL9.out u hu.1)) hF (by kernel_rfl) ?_;simp only [Act.put,List.setIfInBounds_toArray,List.set_cons_succ,List.set_cons_zero];refine ah 3 87 (.pointer (some ⟨b10,3,none⟩)) rfl (by kernel_rfl) (by kernel_rfl) (by kernel_rfl) (by kernel_rfl) rfl (by kernel_rfl) (fun _ _ _ h=>h) (by kernel_rfl) (fun u hu=>by kernel_rfl) hF (by kernel_rfl) ?_;simp only [Act.put,List.setIfInBounds_toArray,List.set_cons_succ,List.set_cons_zero];refine ah 4 88 (.int .u64 t1) rfl (by kernel_rfl) (by kernel_rfl) (by kernel_rfl) (by kernel_rfl) rfl (by kernel_rfl) (fun _ _ _ h=>h) (by kernel_rfl) (fun u hu=>aM rfl (HL10.out u hu.2.1)) hF (by kernel_rfl) ?_;simp only [Act.put,List.setIfInBounds_toArray,List.set_cons_succ,List.set_cons_zero];refine ah 5 89 (.int .u64 va) rfl (by kernel_rfl) (by kernel_rfl) (by kernel_rfl) (by kernel_rfl) rfl (by kernel_rfl) (fun _ _ _ h=>h) (by kernel_rfl) (fun u hu=>by kernel_rfl) hF (by kernel_rfl) ?_;simp only [Act.put,List.setIfInBounds_toArray,List.set_cons_succ,List.set_cons_zero];refine ah 7 91 (.agg #[.int .i64 m1,.bool s,.bool x,.int .u64 t1]) rfl (by kernel_rfl) (by kernel_rfl) (by kernel_rfl) (by kernel_rfl) rfl (by kernel_rfl) (fun _ _ _ h=>h) (by kernel_rfl) (fun u hu=>aM rfl (HL10w.out u hu.2.1)) hF (by kernel_rfl) ?_;simp only [Act.put,List.setIfInBounds_toArray,List.set_cons_succ,List.set_cons_zero];refine ah 8 92 (.agg AC) rfl (by kernel_rfl) (by kernel_rfl) (by kernel_rfl) (by kernel_rfl) rfl (by kernel_rfl) (fun _ _ _ h=>h) (by kernel_rfl) (fun u hu=>aM rfl (HL11.out u hu.2.2)) hF (by kernel_rfl) ?_;simp only [Act.put,List.setIfInBounds_toArray,List.set_cons_succ,List.set_cons_zero];refine ah 9 93 (.int .i64 kd) rfl (by kernel_rfl) (by kernel_rfl) (by kernel_rfl) (by kernel_rfl) rfl (by kernel_rfl) (fun _ _ _ h=>h) (by kernel_rfl) (fun u hu=>by kernel_rfl) hF (by kernel_rfl) ?_;simp only [Act.put,List.setIfInBounds_toArray,List.set_cons_succ,List.set_cons_zero];refine ah 10 94 (.int .u64 va) rfl (by kernel_rfl) (by kernel_rfl) (by kernel_rfl) (by kernel_rfl) rfl (by kernel_rfl) (fun _ _ _ h=>h) (by kernel_rfl) (fun u hu=>by kernel_rfl) hF (by kernel_rfl) ?_;simp only [Act.put,List.setIfInBounds_toArray,List.set_cons_succ,List.set_cons_zero];refine ah 11 95 (.int .i64 pk) rfl (by kernel_rfl) (by kernel_rfl) (by kernel_rfl) (by kernel_rfl) rfl (by kernel_rfl) (fun _ _ _ h=>h) (by kernel_rfl) (fun u hu=>by kernel_rfl) hF (by kernel_rfl) ?_;simp only [Act.put,List.setIfInBounds_toArray,List.set_cons_succ,List.set_cons_zero];refine be 6 90 (by kernel_rfl) rfl (by kernel_rfl) (by kernel_rfl) (f:=37) (args:=#[.pointer (some ⟨p,0,none⟩),.slice q.am ML q.cm,.int .u64 t1,.int .u64 va]) (by kernel_rfl) ?_;refine CSt.out.mono ?_;rintro e vS ⟨g,c,zs',kS,rfl,bn,hgz,dS⟩;have gS:=cJ gD dS.2;have FSq:=HF1.out vS gS;obtain ⟨KP,K3,K4⟩:=HKN.out vS gS;have h3S:=av H3z.out gS (show w.heap.size≠p by omega);have h4S:=av H4z.out gS (show w.heap.size+1≠p by omega);have hgz':wz.heap.size≤g:=hgz;refine ⟨_,rfl,fun _=>FSq,?_⟩;simp only [Act.put,List.setIfInBounds_toArray,List.set_cons_succ,List.set_cons_zero];refine ei 12 2 (.slice (some ⟨g,0,none⟩) ML c) (w':=vS) (by kernel_rfl) rfl (by kernel_rfl) (by kernel_rfl) (by kernel_rfl) (fun _=>FSq) ?_;simp only [Act.put,List.setIfInBounds_toArray,List.set_cons_succ,List.set_cons_zero];obtain ⟨vT,hsT,hT,gT, -⟩:=cC h3S #[.int .i64 m1,.bool s,.bool x,.int .u64 t1] fh rfl (jo _ _ _ _);have HST:Hid _:=hsT;have FT:vT.heap[b9]?=some (.cells AH 48 (0,0))∧vT.heap[b10]?=some (.cells #[.int .i64 m1,.bool s,.bool x,.int .u64 t1] 25 (0,0))∧vT.heap[b11]?=some (.cells AC 30 (0,0)):=⟨av FSq.1 gT (by omega),av FSq.2.1 gT (by omega),av FSq.2.2 gT (by omega)⟩;refine bB 13 rfl (T:=25) (x:=.tmp 3) (y:=.tmp 91) (by kernel_rfl) (by kernel_rfl) (by kernel_rfl) (by kernel_rfl) (b:=w.heap.size) (off:=0) (by kernel_rfl) (by kernel_rfl) HST.out (.inr FT) ?_;have h4T:=av h4S gT (show w.heap.size+1≠w.heap.size by omega);obtain ⟨vU,hsU,hU,gU, -⟩:=cC h4T AC (by rw [HAs];exact cK) (by rw [HAs];rfl) HA1;have HSU:Hid _:=hsU;have FU:vU.heap[b9]?=some (.cells AH 48 (0,0))∧vU.heap[b10]?=some (.cells #[.int .i64 m1,.bool s,.bool x,.int .u64 t1] 25 (0,0))∧vU.heap[b11]?=some (.cells AC 30 (0,0)):=⟨av FT.1 gU (by omega),av FT.2.1 gU (by omega),av FT.2.2 gU (by omega)⟩;refine bB 14 rfl (T:=30) (x:=.tmp 4) (y:=.tmp 92) (by kernel_rfl) (by kernel_rfl) (by kernel_rfl) (by kernel_rfl) (b:=w.heap.size+1) (off:=0) (by kernel_rfl) (by kernel_rfl) HSU.out (.inr FU) ?_;refine ei 15 5 (.int .i64 kd) (w':=vU) (by kernel_rfl) rfl (by kernel_rfl) (by kernel_rfl) (by kernel_rfl) (fun _=>FU) ?_;simp only [Act.put,List.setIfInBounds_toArray,List.set_cons_succ,List.set_cons_zero];refine ei 16 6 (.int .u64 va) (w':=vU) (by kernel_rfl) rfl (by kernel_rfl) (by kernel_rfl) (by kernel_rfl) (fun _=>FU) ?_;simp only [Act.put,List.setIfInBounds_toArray,List.set_cons_succ,List.set_cons_zero];refine ei 17 7 (.int .i64 pk) (w':=vU) (by kernel_rfl) rfl (by kernel_rfl) (by kernel_rfl) (by kernel_rfl) (fun _=>FU) ?_;simp only [Act.put,List.setIfInBounds_toArray,List.set_cons_succ,List.set_cons_zero];refine bQ (by kernel_rfl) ?_ _;have h3U:=av hT gU (show w.heap.size≠w.heap.size+1 by omega);have lv3:=bj (P:=Tryz.prog) h3U Tryz.underlying25 rfl fh;have lv4:=bj (P:=Tryz.prog) hU Tryz.underlying30 rfl (by rw [HAs];exact cK);have bF:Byt vU (some ⟨g,0,none⟩) ML zs':=(bn.b.gb' gT (fun z hz=>by cases hz;show g≠w.heap.size;omega)).gb' gU (fun z hz=>by cases hz;show g≠w.heap.size+1;omega);have kT:KN vT w.heap.size q8 km8:=KN.gb ⟨KP.k,K3.1,K3.2.1,K3.2.2⟩ gT;have kU:KN vU (w.heap.size+1) q8 km8:=KN.gb ⟨kT.k,K4.1.mono gT.size,K4.2.1.mono gT.size,K4.2.2.mono gT.size⟩ gU;have hp1':p<u1.heap.size:=hp1;have gWS:=cJ gWz gS;have nS:Below w.heap.size w vS:=Below.gb nW gWS (by omega) (by omega);have s1S:=gWS.size;have nT:Below w.heap.size w vT:=Below.gb nS gT (by omega) (by omega);have nU:Below w.heap.size w vU:=Below.gb nT gU (by omega) (by have:=gT.size;omega);have bc:=bn.c;have HKU:Hid _:=kU.k;have HBF:Hid _:=bF;clear bF kU kT KP K3 K4 bn FU FT FSq HSU HST hsU hsT hT hU h3S h4S h4T h3U;go_wp2_with fail;refine zX (V0:=.slice (some ⟨g,0,none⟩) ML c) (V3:=.int .i64 kd) (V4:=.int .u64 va) (V5:=.int .i64 pk) (b:=w.heap.size) (c:=w.heap.size+1) Tryz.results7 rfl rfl rfl rfl rfl rfl lv3 lv4 rfl ?_;exact ⟨g,ML,c,zs',m1,s,x,t1,q8,km8,kd,va,pk,by rw [EAC.out],HBF.out,hML2.2,bc,HKU.out,bdT,bva,nU⟩
end Go.Proofs.YtaoaifmkhbgaiaaGreat

namespace Go.Proofs.YtaoaifmkhbgaiaaGreat
open Go.RowKit
set_option linter.unusedVariables false
theorem xY (q:PtrM) (r:(Int × Int) × KM) (w:World):(Instr.field 34 (.agg (cI q r)) 0).run Tryz.prog w=.ok (.int .i64 r.1.1) w:=by kernel_rfl
theorem Ar (p:PtrM) (pa:Option Addr) (pc:Nat) (h:HartM) (ps:List Int) (w:World):(Instr.field 51 (.agg (dg p pa pc h ps)) 0).run Tryz.prog w=.ok (.agg (aD p h)) w:=by kernel_rfl
theorem AV (p:PtrM) (h:HartM) (w:World):(Instr.field 48 (.agg (aD p h)) 12).run Tryz.prog w=.ok (.agg (kA p h.k)) w:=by kernel_rfl
theorem zI (a b:Int) (w:World):(binOp .eql 43 (.agg #[.int .i64 a,.int .u64 b]) (.agg #[.int .i64 a,.int .u64 b])).run Tryz.prog w=.ok (.bool true) w:=by
 go_simp
theorem uu:(Tryz.prog.info? 43).map (·.size)=some 2:=by kernel_rfl
theorem uv (a b:Int):(#[.int .i64 a,.int .u64 b]:Array Value).all (·.oneCell')=true:=by simp [Value.oneCell']
theorem iN {w w':World} {a:Option Addr} {n:Nat} {zs:List Int} (h:Hid (Byt w a n zs)) (hb:Below w.heap.size w w'):Hid (Byt w' a n zs):=Byt.keep h.out hb
theorem uw {zs:List Int} {mode:Int} {sum mxr:Bool} {satp:Int} {k:KM} {kind va pick:Int} (hn:(ak zs mode sum mxr satp k kind va pick).1.1≠63):aV k=true∧(0≤kind∧kind≤2)∧(0≤mode∧mode≤2)∧(0≤pick∧pick≤255):=by
 by_cases hb:aV k=false∨kind<0∨2<kind∨mode<0∨2<mode∨pick<0∨255<pick
 ·exact absurd (by unfold ak;rw [if_pos hb]) hn
 ·refine ⟨?_,by omega,by omega,by omega⟩;cases hg:aV k
  ·exact absurd (.inl hg) hb
  ·rfl
theorem se (y va asid:Int):(aO (aC y) va asid).1=false:=by
 have h:∀l:Int,dk va asid l 0 (aC y).es=none:=fun l=>ie va asid l _ 0 fun j x hx=>by
  have hm:=List.mem_of_getElem? hx;simp only [aC,List.mem_replicate] at hm;rw [hm.2];simp [fC,fz,cL]
 unfold aO;split
 ·rfl
 ·rw [h,h,h];rfl
theorem xn (zs code:List Int) (mode:Int) (sum mxr:Bool) (satp kind va pick:Int) (hc:∀i:Nat,0≤code[i]?.getD 0∧code[i]?.getD 0≤255) (h1:0≤kind∧kind≤2) (h2:0≤mode∧mode≤2) (h3:0≤pick∧pick≤255):
 (ak zs mode sum mxr satp (fc code).k kind va pick).1=eu zs mode sum mxr satp kind va:=
 qz zs mode sum mxr satp _ kind va pick (tW hc).v.ks h1 h2 h3 fun _ _=>by
  refine ⟨?_,se _ _ _⟩;unfold cM;split
  ·exact se _ _ _
  ·exact se _ _ _
end Go.Proofs.YtaoaifmkhbgaiaaGreat

namespace Go.Proofs.YtaoaifmkhbgaiaaGreat
open Go.RowKit
set_option linter.unusedVariables false
def fj (e:EntM):List Value:=[.int .i64 e.level,.int .u64 e.tag,.int .u64 e.asid,.bool e.glob,.bool e.valid,.int .u64 e.pte]
def dl (e:EntM):Value:=.agg #[.int .i64 e.level,.int .u64 e.tag,.int .u64 e.asid,.bool e.glob,.bool e.valid,.int .u64 e.pte]
def aH:List EntM→List Value
 | []=>[]
 | e::r=>fj e++aH r
theorem eR:∀es:List EntM,(aH es).length=es.length*6
 | []=>rfl
 | e::r=>by simp [aH,fj,eR r];omega
theorem mB:∀(es:List EntM) (i j:Nat) (hi:i<es.length),j<6→(aH es)[i*6+j]?=(fj es[i])[j]?
 | e::r,0,j,hi,hj=>by
  simp only [aH,List.getElem_cons_zero,Nat.zero_mul,Nat.zero_add];rw [List.getElem?_append_left (by simp [fj];exact hj)]
 | e::r,i+1,j,hi,hj=>by
  simp only [aH,List.getElem_cons_succ];rw [List.getElem?_append_right (by simp [fj];omega)];rw [show (i+1)*6+j-(fj e).length=i*6+j by simp [fj];omega];exact mB r i j (by simpa using hi) hj
theorem i7:∀(l:List EntM) (k:Nat) (e:EntM),k<l.length→aH (l.set k e)=((((((aH l).set (k*6) (.int .i64 e.level)).set (k*6+1) (.int .u64 e.tag)).set (k*6+2) (.int .u64 e.asid)).set (k*6+3) (.bool e.glob)).set (k*6+4) (.bool e.valid)).set (k*6+5) (.int .u64 e.pte)
 | x::r,0,e,h=>by simp [aH,fj]
 | x::r,k+1,e,h=>by
  have ih:=i7 r k e (by simpa using h);rw [List.set_cons_succ];simp only [aH,ih];rw [show (k+1)*6=(fj x).length+k*6 by simp [fj];omega];simp only [Nat.add_assoc];rw [List.set_append_right _ _ (by simp [fj]),List.set_append_right _ _ (by omega),List.set_append_right _ _ (by omega),List.set_append_right _ _ (by omega),List.set_append_right _ _ (by omega),List.set_append_right _ _ (by omega)];simp
theorem pR {e:TypeId} {w:World} {base g n cap:Nat} {es:List EntM} (h:w.ownsRow base e 6 (.slice (some ⟨g,0,none⟩) n cap) n (aH es)) (hn:es.length=n) (k:Nat) (x:EntM) (hx:es[k]?=some x) (j:Nat) (v:Value) (hj:j<6) (hv:(fj x)[j]?=some v):
 w.cell? ⟨g,k*6+j,none⟩=some v:=by
 have hk:k<es.length:=(List.getElem?_eq_some_iff.1 hx).1;refine aI h _ _ ?_;rw [mB es k j hk hj];obtain ⟨_,rfl⟩:=List.getElem?_eq_some_iff.1 hx;exact hv
def cS (k n:Nat) (es:List EntM):List EntM:=es.take k++List.replicate (n-k) cL
theorem i8 (k:Nat) (es:List EntM) (hk:k≤es.length):(cS k es.length es).length=es.length:=by
 simp [cS];omega
theorem lQ (k:Nat) (es:List EntM) (x:EntM) (hx:es[k]?=some x):cS (k+1) es.length es=(cS k es.length es).set k x:=by
 obtain ⟨hk,rfl⟩:=List.getElem?_eq_some_iff.1 hx;unfold cS;apply List.ext_getElem?;intro j;rw [List.getElem?_set];by_cases hj:k=j
 ·subst hj;rw [if_pos rfl,if_pos (by simp;omega),List.getElem?_append_left (by simp;omega)];simp [hk]
 ·rw [if_neg hj];by_cases hlt:j<k
  ·rw [List.getElem?_append_left (by simp;omega),List.getElem?_append_left (by simp;omega)];simp [hlt,show j<k+1 by omega]
  ·rw [List.getElem?_append_right (by simp;omega),List.getElem?_append_right (by simp;omega)];simp only [List.length_take,List.getElem?_replicate];rw [show min (k+1) es.length=k+1 by omega,show min k es.length=k by omega];by_cases hh:j<es.length
   ·rw [if_pos (by omega),if_pos (by omega)]
   ·rw [if_neg (by omega),if_neg (by omega)]
theorem fzN (k:Nat) (es:List EntM) (hx:es[k]?=some cL):cS (k+1) es.length es=cS k es.length es:=by
 rw [lQ k es cL hx];have hk:k<es.length:=(List.getElem?_eq_some_iff.1 hx).1;apply List.ext_getElem?;intro j;rw [List.getElem?_set];by_cases hj:k=j
 ·subst hj;rw [if_pos rfl,if_pos (by rw [i8 _ _ (by omega)];exact hk)];unfold cS;rw [List.getElem?_append_right (by simp;omega)];simp only [List.length_take,List.getElem?_replicate];rw [if_pos (by omega)]
 ·rw [if_neg hj]
theorem nl (es:List EntM):cS es.length es.length es=es:=by
 simp [cS]
theorem oJ (n:Nat) (es:List EntM):cS 0 n es=List.replicate n cL:=by simp [cS]
theorem js {B:Nat} {a w:World} {g:Nat} (h:Below B a w) (hg:B≤g) (x y z u v t:Value):Below B a ((((((w.setCell ⟨g,0,none⟩ x).setCell ⟨g,1,none⟩ y).setCell ⟨g,2,none⟩ z).setCell ⟨g,3,none⟩ u).setCell ⟨g,4,none⟩ v).setCell ⟨g,5,none⟩ t):=
 (((eg h hg x y z).setCell (p:=⟨g,3,none⟩) hg u).setCell (p:=⟨g,4,none⟩) hg v).setCell (p:=⟨g,5,none⟩) hg t
theorem gH {v:World} {p:Nat} {T:TypeId} {a b c d e f:Value} (h:v.heap[p]?=some (.cells #[a,b,c,d,e,f] T (0,0))):
 (v.cell? ⟨p,0,none⟩=some a∧v.cell? ⟨p,1,none⟩=some b∧v.cell? ⟨p,2,none⟩=some c∧v.cell? ⟨p,3,none⟩=some d∧v.cell? ⟨p,4,none⟩=some e∧v.cell? ⟨p,5,none⟩=some f)∧
  (v.frozen? ⟨p,0,none⟩=false∧v.frozen? ⟨p,1,none⟩=false∧v.frozen? ⟨p,2,none⟩=false∧v.frozen? ⟨p,3,none⟩=false∧v.frozen? ⟨p,4,none⟩=false∧v.frozen? ⟨p,5,none⟩=false):=by
 simp [World.cell?,World.frozen?,h]
end Go.Proofs.YtaoaifmkhbgaiaaGreat
