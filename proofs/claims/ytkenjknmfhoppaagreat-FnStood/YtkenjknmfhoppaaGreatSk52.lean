import Derived.Test.YtkenjknmfhoppaaGreatSk51
import Derived.Test.YtkenjknmfhoppaaGreatSk35
import Derived.Test.YtkenjknmfhoppaaGreatSk49
import Derived.Test.YtkenjknmfhoppaaGreatSk50
import Derived.Test.YtkenjknmfhoppaaGreatSk27
namespace Go.Proofs.YtkenjknmfhoppaaGreat
open Go.RowKit
set_option linter.unusedVariables false
set_option maxHeartbeats 6400000
set_option maxRecDepth 20000
theorem FG (plain:Bool):PlO plain:=⟨.inr pe,.inr zR,.inr xI⟩
section
attribute [local go_sem ↓] Go.wp_at_zero Go.wp_at_succ
theorem HOk.ln3 {h:HartM} (k:HOk h):h.mem.length<=4096∧0<h.mem.length:=by
 have h1:=k.v.size;simp only [fh,decide_eq_true_eq] at h1;omega
theorem HartO.ge {base:Nat} {w:World} {q:PtrM} {h:HartM} (k:uw base w q h):∀x,some x∈aV q->base<=x.block:=by
 intro x hx;simp only [aV,List.mem_cons,List.not_mem_nil,or_false] at hx;rcases hx with e | e | e | e | e
 ·have:=k.mem;rw [<-e] at this;exact (bI this).2.1
 ·have:=k.regs;rw [<-e] at this;exact (bI this).2.1
 ·have:=k.r1;rw [<-e] at this;exact (bI this).2.1
 ·have:=k.r2;rw [<-e] at this;exact (bI this).2.1
 ·have:=k.r3;rw [<-e] at this;exact (bI this).2.1
theorem FE (zs:List Int) (S:Int->Prop):KnK S (fK zs).k:=by
 have h:∀n:Nat,∀e∈List.replicate n cH,e.valid=true->S e.pte:=fun n e he hv=>by
  rw [List.eq_of_mem_replicate he] at hv;cases hv
 exact ⟨h _,h _,h _⟩
theorem FF:(Tryz.prog.info? 39).map (·.size)=some 3:=by kernel_rfl
theorem Gd:(Tryz.prog.info? 41).map (·.size)=some 9:=by kernel_rfl
theorem Ge {v:World} {b i n m:Nat} {a:Option Addr} (h:v.cell? (AD b i)=some (.slice a n m)):(Instr.loadAt 44 (PT b i)).run Tryz.prog v=.ok (.slice a n m) v:=by go_simp
theorem Gf {v:World} {b i:Nat} {s:Int} (h:v.cell? (AD b i)=some (VI s)):(Instr.loadAt 2 (PT b i)).run Tryz.prog v=.ok (VI s) v:=by go_simp
structure StdS (v6:World) (B8 base:Nat) (wr:World) (q1 q2:PtrM) (h:HartM) (g n c:Nat) (ys:List Int):Prop where
 nb:Bw v6 wr
 bh:wr.heap[v6.heap.size]?=some (.cells (ak q1 h) 43 (0,0))
 bg:wr.heap[B8]?=some (.cells (ak q2 h) 43 (0,0))
 h1:HartIn wr q1 h
 h2:HartIn wr q2 h
 ok:HOk h
 s1:∀x,some x∈aV q1->x.block≠v6.heap.size∧x.block≠B8∧x.block≠g
 s2:∀x,some x∈aV q2->x.block≠v6.heap.size∧x.block≠B8∧x.block≠g
 own:wr.ownsRow base 29 1 (SL g n c) n (cF ys)
 words:iO (·∈ys) h.mem
 kn:KnK (·∈ys) h.k
theorem Gg {w:World} {p:PtrM} {k:KM} (h:KAt w (.agg (kA p k)) k):TlbAt w (.agg #[VI k.i.sets,VI k.i.ways,.slice p.a1 k.i.es.length p.c1]) k.i∧TlbAt w (.agg #[VI k.d.sets,VI k.d.ways,.slice p.a2 k.d.es.length p.c2]) k.d∧TlbAt w (.agg #[VI k.p.sets,VI k.p.ways,.slice p.a3 k.p.es.length p.c3]) k.p:=by
 obtain ⟨b1,d1,b2,d2,b3,d3,he,t1,t2,t3⟩:=h;simp only [kA,Value.agg.injEq,Array.mk.injEq,List.cons.injEq,Value.slice.injEq,true_and,and_true] at he;obtain ⟨⟨rfl,rfl⟩,⟨rfl,rfl⟩,rfl,rfl⟩:=he;exact ⟨t1,t2,t3⟩
theorem zS (a0:Option Addr) (len0 cap0:Nat) (zs:List Int) (w:World) (hB:Byt w a0 len0 zs) (hlc:len0<=cap0) (hcm:cap0<=9223372036854775807):
 Calls Tryz.prog 5 #[.slice a0 len0 cap0] w fun e w'=>e=.returned (.bool true)∧Bw w w':=by
 by_cases hlen:len0<=1048576
 ·have CD:=hid fun (u:World) (hu:Bw w u)=>AZ a0 len0 cap0 zs u (hB.keep hu) hlen;generalize Ac zs=Z at CD;clear hB hlc hcm;go_enter Tryz.func5,Tryz.ntmps5;go_wp2_with fail;refine (CD.out w brf).mono ?_;rintro e v1 ⟨g1,k1,cp1,rfl,o1,bd,hn,n1⟩;have H0:=hid (zX bd);have hok:=zX bd;have PB:=hid (Di bd);have pl:(gZ Z).length<=20000:=by
   simp only [gZ,List.length_map,List.length_range,jJ];omega
  have KD:=hid fun (S:Int->Prop)=>FE Z S;have CE:Hid (Calls Tryz.prog 14 #[SL g1 k1 cp1] v1 fun e v=>(∃p pa pc,e=.returned (.agg (cS p pa pc (fK Z) (gZ Z)))∧HartIn v p (fK Z)∧v.ownsRow v1.heap.size 2 1 (.slice pa (gZ Z).length pc) (gZ Z).length (dE (gZ Z)))∧Bw v1 v):=(sJ (some (AD g1 0)) k1 cp1 Z v1 (o1.byt bd) (by omega)).mono fun e v d=>by
   obtain ⟨⟨p,pa,pc,he,o⟩,n⟩:=d.own;exact ⟨⟨p,pa,pc,he,o.hart.hin hok.mem hok.ks,o.pick⟩,n⟩
  have CF:=hid fun (u:World) (g nn cp:Nat) (hb:Byt u (some (AD g 0)) nn Z) (hl:nn<=20000)=>rT (some (AD g 0)) nn cp Z u hb (by omega);generalize fK Z=h0 at *;generalize gZ Z=ps at *;clear o1 bd hok;go_wp2_with fail;refine CE.out.mono ?_;rintro e v2 ⟨⟨p,pa,pc,rfl,hi,op⟩,n2⟩;obtain ⟨v3,hs3,P3,l3,n3⟩:=xH v2 (cS p pa pc h0 ps) rfl (lA _ _ _ _ _);have SH:=hid (ye p pa pc h0 ps);have SP:=hid (yf p pa pc h0 ps);generalize cS p pa pc h0 ps=S at *;have S3:=hid P3;have HI3:=hid (hi.keep n3);have OP3:=hid (aj op n3);have HS3:=hid hs3;have A3:=bst n1 (bst n2 n3);clear hs3 P3 hi op n1 n2 n3 CE;go_upto_region 4 with (first | ((with_reducible refine aL ?_ ?_ HS3.out ?_);(exact rfl);(exact rfl)));clear HS3;go_wp2_with fail;refine (CD.out v3 A3).mono ?_;rintro e v4 ⟨g2,k2,cp2,rfl,o2,bd2,hn2,n4⟩;have CG:=hid (CF.out v4 g2 k2 cp2 (o2.byt bd2) hn2);clear o2 bd2 CF CD;go_wp2_with fail;refine CG.out.mono ?_;rintro e v5 ⟨⟨p',pa',pc',rfl,hi',_,op'⟩,n5⟩;obtain ⟨v6,hs6,P6,l6,n6⟩:=xH v5 (cS p' pa' pc' h0 ps) rfl (lA _ _ _ _ _);have SH':=hid (ye p' pa' pc' h0 ps);have SP':=hid (yf p' pa' pc' h0 ps);generalize cS p' pa' pc' h0 ps=S' at *;have S6:=hid P6;have HI6:=hid (hi'.keep n6);have OP6:=hid (aj op' n6);have HS6:=hid hs6;have n36:=bst n4 (bst n5 n6);have S3:=ah S3 n36;have HI3:=hid (HI3.out.keep n36);have OP3:=hid (aj OP3.out n36);have A6:=bst A3 n36;clear hs6 P6 hi' op' n4 n5 n6 CG n36;go_upto_region 5 with (first | ((with_reducible refine aL ?_ ?_ HS6.out ?_);(exact rfl);(exact rfl)));clear HS6;have c21:=ab S3.out 21 SP.out;have d21:=ab S6.out 21 SP'.out;have l62:v2.heap.size<v6.heap.size:=hpl S3.out;have l65:v5.heap.size<v6.heap.size:=hpl S6.out;go_upto_region 7 with fail;clear c21 d21;have HL1:Hid _:=de (P:=Tryz.prog) (T:=43) S3.out Tryz.underlying43 rfl (o:=0) (ak p h0).toList eM SH.out rfl;rw [show (ak p h0).toList.toArray=ak p h0 from rfl] at HL1;obtain ⟨v7,hs7,P7,l7,n7⟩:=uA v6 (ak p h0) rfl (fT _ _);have HS7:=hid hs7;have B7:=hid P7;have S7:=ah S6 n7;have HL2:Hid _:=de (P:=Tryz.prog) (T:=43) S7.out Tryz.underlying43 rfl (o:=0) (ak p' h0).toList eM SH'.out rfl;rw [show (ak p' h0).toList.toArray=ak p' h0 from rfl] at HL2;obtain ⟨v8,hs8,P8,l8,n8⟩:=uA v7 (ak p' h0) rfl (fT _ _);have HS8:=hid hs8;have B8:=hid P8;have B7:=ah B7 n8;have n68:=bst n7 n8;have HJ1:=hid (HI3.out.keep n68);have HJ2:=hid (HI6.out.keep n68);have w1:=hid HI3.out.low;have w2:=hid HI6.out.low;have m0:=ab B7.out 0 (v:=.slice p.am h0.mem.length p.cm) rfl;clear hs7 P7 hs8 P8 n7 n8 SH SH' HI3 HI6 S7;have l78:v6.heap.size<v7.heap.size:=l7;have l88:v7.heap.size<v8.heap.size:=l8;have l68:v6.heap.size<v8.heap.size:=by omega
  generalize ak p h0=AP at HL1 HS7;generalize ak p' h0=AQ at HL2 HS8;go_upto_region 8 with (first | ((with_reducible refine ba ?_ HL1.out ?_);(exact rfl)) | ((with_reducible refine aL ?_ ?_ HS7.out ?_);(exact rfl);(exact rfl)));clear HL1 HS7;go_upto_region 9 with (first | ((with_reducible refine ba ?_ HL2.out ?_);(exact rfl)) | ((with_reducible refine aL ?_ ?_ HS8.out ?_);(exact rfl);(exact rfl)));clear HL2 HS8;obtain ⟨v9,E9,n9,H9,l9⟩:=al1 v8 #[] 29;have o9:v9.ownsRow v8.heap.size 29 1 (SL v8.heap.size 0 0) 0 (cF []):=by
   rw [<-E9.out];exact OwnC.new 29 1 v8 [] 0 rfl (by decide)
  have hlen0:=H0.out.ln3;have CL:=hid (qX v8.heap.size v8.heap.size 0 0 [] p.am h0.mem.length p.cm h0.mem v9 o9 (by omega) (HJ1.out.keep n9).mem (fun q hq=>by have:=w1.out q (by simp [aV,hq]);omega) hlen0.1 (by omega));go_wp2_with fail;rw [E9.out];refine CL.out.mono ?_;rintro e va ⟨g,n,c,ys,rfl,L,W,hnn⟩;have HLL:=hid L;have K0:Hid (StdS v6 v7.heap.size v8.heap.size va p p' h0 g n c ys):=by
   have gb:=HLL.out.gb;have at9:=HLL.out.at';have n89:=n9;refine ⟨Below.gb (bst n68 n9) gb (by omega) l9,aB (ah B7 n9).out gb (by omega),aB (ah B8 n9).out gb (by omega),(HJ1.out.keep n9).gb gb (fun q hq=>by have:=w1.out q hq;omega),(HJ2.out.keep n9).gb gb (fun q hq=>by have:=w2.out q hq;omega),H0.out,fun x hx=>?_,fun x hx=>?_,HLL.out.own,W,KD.out _⟩
   ·have:=w1.out x hx;omega
   ·have:=w2.out x hx;omega
  clear m0 CL HLL L W H9 o9 HJ1 HJ2 B7 B8 H0 KD E9 n9 n68 w1 w2;generalize hb8:v7.heap.size=b8 at *;have HB8:=hid hb8;clear hb8;go_wp2;go_loopw [7,8] (fun sv ii wr=>∃(k:Nat) (q1 q2:PtrM) (h:HartM) (g n c:Nat) (ys:List Int),k<=40∧k<=ps.length∧sv=SL g n c∧ii=VI k∧n<=512*(k+1)∧StdS v6 b8 v8.heap.size wr q1 q2 h g n c ys) (fun _ ii _=>40-(intOf ii).toNat)
  case atStart=>exact ⟨0,p,p',h0,g,n,c,ys,by omega,by omega,rfl,rfl,by omega,K0.out⟩
  case round=>
  clear K0;obtain ⟨k,q1,q2,h,g,n,c,ys,hk,hkp,rfl,rfl,hnk,kk⟩:=hrel;have HK:=hid kk;have nw:=kk.nb;clear kk;have W3:=ah S3 nw;have W6:=ah S6 nw;have c21:=ab W3.out 21 SP.out;have d21:=ab W6.out 21 SP'.out;have lw2:v2.heap.size<wr.heap.size:=hpl W3.out;have lw5:v5.heap.size<wr.heap.size:=hpl W6.out;have lw7:v6.heap.size<wr.heap.size:=hpl HK.out.bh;have lw8:b8<wr.heap.size:=hpl HK.out.bg;have lg:=(bI HK.out.own).2;replace lg:v8.heap.size<=g∧g<wr.heap.size:=lg;go_upto_region 11 with fail;go_cut [42] from 34 to 41 (fun s wx=>∃bb,s=.bool bb∧(bb=true->k<ps.length∧k<40)∧wr=wx)
  case first=>
   by_cases hlt:k<ps.length
   ·have e1:decide ((k:Int)<(ps.length:Int))=true:=by simp;omega
    go_wp2;go_meet
    case rel=>exact ⟨_,rfl,(fun h=>⟨hlt,by have h':(k:Int)<40:=(by simpa using h);omega⟩),rfl⟩
   ·have e1:decide ((k:Int)<(ps.length:Int))=false:=by simp;omega
    go_wp2;go_meet
    case rel=>exact ⟨_,rfl,(fun h=>by cases h),rfl⟩
  case rest=>
  obtain ⟨bb,rfl,hbb,rfl⟩:=hcut;cases bb
  ·clear hbb c21 d21;have HA1:Hid _:=de (P:=Tryz.prog) (T:=41) HK.out.bh Tryz.underlying41 rfl (o:=12) (kA q1 h.k).toList Gd rfl rfl;have HA2:Hid _:=de (P:=Tryz.prog) (T:=41) HK.out.bg Tryz.underlying41 rfl (o:=12) (kA q2 h.k).toList Gd rfl rfl;rw [show (kA q1 h.k).toList.toArray=kA q1 h.k from rfl] at HA1;rw [show (kA q2 h.k).toList.toArray=kA q2 h.k from rfl] at HA2;have CC:=hid (tT q1 q2 h.k wr HK.out.h1.ks HK.out.h2.ks);clear HK;generalize kA q1 h.k=K1 at *;generalize kA q2 h.k=K2 at *;go_wp2_with (first | ((with_reducible refine ba ?_ HA1.out ?_);(exact rfl)) | ((with_reducible refine ba ?_ HA2.out ?_);(exact rfl)));refine CC.out.mono ?_;rintro e vE ⟨rfl,nE⟩;go_wp2;go_ret;exact ⟨rfl,bst A6 (bst nw nE)⟩
  ·obtain ⟨hlt,hk40⟩:=hbb rfl;clear hbb c21 d21;obtain ⟨y,hy⟩:∃y,ps[k]=y:=⟨_,rfl⟩;have by':0<=y∧y<=255:=by rw [<-hy];exact PB.out _ (List.getElem_mem hlt)
   have pki:(dE ps)[k]?=some (VI y):=by
    rw [<-hy];simp [dE,geg hlt]
   obtain ⟨pg,hpg⟩:=pA OP3.out (by omega);obtain ⟨pg',hpg'⟩:=pA OP6.out (by omega);subst hpg;subst hpg';have HLy:Hid (∀u,Bw wr u->(Instr.loadAt 2 (PT pg k)).run Tryz.prog u=.ok (VI y) u):=fun u hu=>by
    have h1:=aE (aj OP3.out (bst nw hu)) k _ pki;exact Gf (by simpa using h1)
   have HLy':Hid (∀u,Bw v6 u->(Instr.loadAt 2 (PT pg' k)).run Tryz.prog u=.ok (VI y) u):=fun u hu=>by
    have h1:=aE (aj OP6.out hu) k _ pki;exact Gf (by simpa using h1)
   have HST:=hid fun (u:World) (hu:Bw wr u)=>xD q1 h false y u (HK.out.h1.keep hu) (by have:=HK.out.ok.ln3;omega) HK.out.ok by';have HSP:=hid fun (u:World) (hu:HartIn u q2 h)=>wK (FG false) q2 h y u hu HK.out.ok by'.1 by'.2;have HXK:=hid (wT false by' HK.out.ok).h;have HKN:=hid (zM HK.out.words HK.out.kn false y);have HAs:(ak q1 h).size=21:=rfl;have HAt:(ak q2 h).size=21:=rfl;generalize fQ false y h=X at *;have HB7:=hid HK.out.bh;have HB8':=hid HK.out.bg;have HQ2:=hid HK.out.h2;have HS2:=hid HK.out.s2;have HOW:=hid HK.out.own;clear hy pki HK;generalize ak q1 h=AH at *;generalize ak q2 h=AG at *;have HLa:=hid fun u (hu:Bw wr u)=>uB HAs (ah HB7 hu).out;have HLs:=hid fun u (hu:Bw wr u)=>Ge (ab (ah W3 hu).out 21 SP.out);go_upto_region 13 with fail;have hF:=bdr wr;refine aN (Bw wr) 8 ?_;refine ax 0 45 _ rfl hF ?_ (hy:=fun u hu=>aU rfl (HLa.out u hu));refine ax 1 46 (PT v2.heap.size 21) rfl hF ?_
   go_frame
   refine ax 2 47 _ rfl hF ?_ (hy:=fun u hu=>aU rfl (HLs.out u hu));refine ax 3 48 (VI (k:Int)) rfl hF ?_
   go_frame
   refine ax 4 49 (PT pg k) rfl hF ?_ (hy:=fun u hu=>by have h1:=hlt;go_simp)
   go_frame
   refine ax 5 50 _ rfl hF ?_ (hy:=fun u hu=>aU rfl (HLy.out u hu))
   go_frame
   refine D8 6 7 51 9 (Z:=wJ) (T:=50) (fun u z v=>∃qa,z=.agg (nI true X.cause X.tval qa X.h)∧uw u.heap.size v qa X.h) rfl rfl rfl (fun u hu=>bst hF hu) (fun u hu=>(HST.out u (bst hF hu)).mono fun e w' ⟨⟨qa,h1,h2⟩,n⟩=>⟨⟨_,h1,qa,rfl,h2⟩,n⟩) ?_;rintro _ pb u v7' v8' hu ⟨qa,rfl,ho⟩ hb8 hpu hpb hz hn8
   go_frame
   have n8:=bst hF hn8;replace hpb:wr.heap.size<=pb:=hpb;have lu:wr.heap.size<=u.heap.size:=(bst hF hu).size;have RS:(nI true X.cause X.tval qa X.h).size=24:=rfl;have RO:=vo true X.cause X.tval qa X.h;have R0:=hid (show (nI true X.cause X.tval qa X.h)[0]?=some (.bool true) from rfl);have RH:=hid (show ((nI true X.cause X.tval qa X.h).toList.drop 3).take 21=(ak qa X.h).toList from rfl);generalize nI true X.cause X.tval qa X.h=RR at *;have HS9:=hid (bq (P:=Tryz.prog) (T:=50) (V:=RR) hz (by rw [RS];exact Ci) (by rw [RS];rfl) RO);have e9:=hid (aT (V:=RR) hz (by rw [RS];rfl));have gS:=aH pb RR.toList 0 v8' _ (aw _ _);have n9:Bw wr _:=aS hpb RR.toList 0 _ n8;have O9:Hid (uw wr.heap.size (v8'.setCells pb 0 RR.toList) qa X.h):=by
    show uw _ _ _ _;refine HartO.lower (base:=u.heap.size) ?_ lu;rcases hpu with h9 | h9
    ·exact (HartO.keep ho hb8).gb gS h9
    ·exact HartO.keep ho (aS h9 RR.toList 0 _ hb8)
   refine dO 8 9 51 rfl HS9.out ?_;refine dt ?_;generalize v8'.setCells pb 0 RR.toList=v9 at e9 n9 O9 |-;clear gS HS9 hu ho hb8 hpu hz hn8 n8 lu RS RO HST HLa HLs HLy hF;have lp9:pb<v9.heap.size:=hpl e9.out;have c0:=ab e9.out 0 R0.out;go_upto_region 16 with fail;clear c0;have HLR:Hid _:=de (P:=Tryz.prog) (T:=43) e9.out Tryz.underlying43 rfl (o:=3) (ak qa X.h).toList eM RH.out rfl;rw [show (ak qa X.h).toList.toArray=ak qa X.h from rfl] at HLR;have W9:=ah HB7 n9;have HAx:(ak qa X.h).size=21:=rfl;have HSa:=hid (bq (P:=Tryz.prog) (T:=43) (V:=ak qa X.h) W9.out (by rw [HAx];exact eM) (by rw [HAx,HAs]) (fT qa X.h));have eA:=hid (aT (V:=ak qa X.h) W9.out (by rw [HAx,HAs]));have gA:=aH v6.heap.size (ak qa X.h).toList 0 v9 _ (aw _ _);have nA:Bw v6 _:=aS nle (ak qa X.h).toList 0 _ (bst nw n9);have hge:=hid O9.out.ge;have IA:=hid ((O9.out.gb gA lw7).hin HXK.out.mem HXK.out.ks);have BA:=hid (aB (ah HB8' n9).out gA (by omega));have QA:=hid ((HQ2.out.keep n9).gb gA (fun x hx=>(HS2.out x hx).1));have OA:=hid (jR (aj HOW.out n9) gA (by omega));have sz9:v9.heap.size<=(v9.setCells v6.heap.size 0 (ak qa X.h).toList).heap.size:=by rw [cV];exact nle
   have hsz:=n9.size;generalize v9.setCells v6.heap.size 0 (ak qa X.h).toList=vA at *;clear gA W9 O9 HB7 HB8' HQ2 HOW e9 RH;have HEA:=hid (show (ak qa X.h)[0]?=some (.slice qa.am X.h.mem.length qa.cm) from rfl);have D1:=hid (show ((ak qa X.h).toList.drop 12).take 3=[VI X.h.k.i.sets,VI X.h.k.i.ways,.slice qa.a1 X.h.k.i.es.length qa.c1] from rfl);have M15:=hid (show (ak qa X.h)[15]?=some (VI X.h.k.d.sets) from rfl);have M16:=hid (show (ak qa X.h)[16]?=some (VI X.h.k.d.ways) from rfl);have M17:=hid (show (ak qa X.h)[17]?=some (.slice qa.a2 X.h.k.d.es.length qa.c2) from rfl);have M18:=hid (show (ak qa X.h)[18]?=some (VI X.h.k.p.sets) from rfl);have M19:=hid (show (ak qa X.h)[19]?=some (VI X.h.k.p.ways) from rfl);have M20:=hid (show (ak qa X.h)[20]?=some (.slice qa.a3 X.h.k.p.es.length qa.c3) from rfl);obtain ⟨AX,hAX⟩:∃A,ak qa X.h=A:=⟨_,rfl⟩;have EAX:=hid hAX;rw [hAX] at HLR HSa eA HEA D1 M15 M16 M17 M18 M19 M20 HAx;clear hAX;go_upto_region 17 with (first | ((with_reducible refine ba ?_ HLR.out ?_);(exact rfl)) | ((with_reducible refine aL ?_ ?_ HSa.out ?_);(exact rfl);(exact rfl)));clear HLR HSa;have HLb:=hid fun u (hu:Bw vA u)=>uB HAt (ah BA hu).out;have WA6:=ah S6 nA;have HLt:=hid fun u (hu:Bw vA u)=>Ge (ab (ah WA6 hu).out 21 SP'.out);have hF:=bdr vA;refine aN (Bw vA) 8 ?_;refine ax 0 57 _ rfl hF ?_ (hy:=fun u hu=>aU rfl (HLb.out u hu));refine ax 1 58 (PT v5.heap.size 21) rfl hF ?_
   go_frame
   refine ax 2 59 _ rfl hF ?_ (hy:=fun u hu=>aU rfl (HLt.out u hu));refine ax 3 60 (VI (k:Int)) rfl hF ?_
   go_frame
   refine ax 4 61 (PT pg' k) rfl hF ?_ (hy:=fun u hu=>by have h1:=hlt;go_simp)
   go_frame
   refine ax 5 62 _ rfl hF ?_ (hy:=fun u hu=>aU rfl (HLy'.out u (bst nA hu)))
   go_frame
   refine dN 6 63 rfl ((HSP.out _ (QA.out.keep hF)).mono ?_);rintro e vB ⟨⟨qb,rfl,hib,hgb⟩,nB⟩;have bB:=bst hF nB;refine ⟨_,rfl,fun _=>bB,?_⟩
   go_frame
   refine ik 7 64 (.agg (ak qb X.h)) (w':=vB) rfl (fun _=>bB) ?_
   go_frame
   have WB:=ah BA bB;have HBx:(ak qb X.h).size=21:=rfl;have HSb:=hid (bq (P:=Tryz.prog) (T:=43) (V:=ak qb X.h) WB.out (by rw [HBx];exact eM) (by rw [HBx,HAt]) (fT qb X.h));have eB:=hid (aT (V:=ak qb X.h) WB.out (by rw [HBx,HAt]));have gB:=aH b8 (ak qb X.h).toList 0 vB _ (aw _ _);have lb8:b8<vB.heap.size:=hpl WB.out;have dA:vA.heap.size<=vA.drew.heap.size:=hF.size;have nC:Bw v6 _:=Below.gb (bst nA bB) gB (by have:=HB8.out;omega) lb8;have hgb':=hid fun x (hx:some x∈aV qb)=>show wr.heap.size<=x.block from by have:=hgb x hx;omega
   have IB:=hid (hib.gb gB (fun x hx=>by have:=hgb'.out x hx;omega));have IC:=hid ((IA.out.keep bB).gb gB (fun x hx=>by have:=hge.out x hx;omega));have EC:=hid (aB (ah eA bB).out gB (by omega));have OC:=hid (jR (aj OA.out bB) gB (by omega));refine dO 8 6 64 rfl HSb.out ?_;refine dt ?_;have szC:wr.heap.size<=(vB.setCells b8 0 (ak qb X.h).toList).heap.size:=by
    rw [cV];have:=bB.size;omega
   clear HSb gB WB hib hgb hF HLb HLt HSP IA QA OA eA BA HLy' bB nB dA;generalize vB.setCells b8 0 (ak qb X.h).toList=vC at *;obtain ⟨AY,hAY⟩:∃A,ak qb X.h=A:=⟨_,rfl⟩;have EAY:=hid hAY;rw [hAY] at eB |-;clear hAY;generalize nI true X.cause X.tval qb X.h=RB;obtain ⟨t1,t2,t3⟩:=Gg IC.out.ks;have T1:=hid fun (u:World) (hu:Bw vC u)=>jC (some (AD g 0)) n c ys X.h.k.i qa.a1 qa.c1 u (RowC.keep (dM OC.out) hu) (by omega) (t1.keep hu) HKN.out.1;have T2:=hid fun (u:World) (hu:Bw vC u)=>jC (some (AD g 0)) n c ys X.h.k.d qa.a2 qa.c2 u (RowC.keep (dM OC.out) hu) (by omega) (t2.keep hu) HKN.out.2.1;have T3:=hid fun (u:World) (hu:Bw vC u)=>jC (some (AD g 0)) n c ys X.h.k.p qa.a3 qa.c3 u (RowC.keep (dM OC.out) hu) (by omega) (t3.keep hu) HKN.out.2.2;have HM1:=hid fun (u:World) (hu:Bw vC u)=>de (P:=Tryz.prog) (T:=39) (ah EC hu).out Tryz.underlying39 rfl (o:=12) [VI X.h.k.i.sets,VI X.h.k.i.ways,.slice qa.a1 X.h.k.i.es.length qa.c1] FF D1.out rfl;clear t1 t2 t3 D1;have L1:=hid (HM1.out vC brf);go_wp2_with ((with_reducible refine ba ?_ L1.out ?_);(exact rfl));refine (T1.out vC brf).mono ?_;rintro e vD ⟨rfl,nD⟩;clear L1 T1 HM1;have ED:=ah EC nD;have c15:=ab ED.out 15 M15.out;have c16:=ab ED.out 16 M16.out;have c17:=ab ED.out 17 M17.out;have lD:v6.heap.size<vD.heap.size:=hpl ED.out;go_wp2_with fail;refine (T2.out vD nD).mono ?_;clear c15 c16 c17;rintro e vE ⟨rfl,nE⟩;have nCE:=bst nD nE;have EE:=ah EC nCE;have c18:=ab EE.out 18 M18.out;have c19:=ab EE.out 19 M19.out;have c20:=ab EE.out 20 M20.out;have lE:v6.heap.size<vE.heap.size:=hpl EE.out;go_wp2_with fail;refine (T3.out vE nCE).mono ?_;clear c18 c19 c20;rintro e vF ⟨rfl,nF⟩;have nCF:=bst nCE nF;clear T2 T3 nD nE nF nCE ED EE;have EF:=ah EC nCF;have m0:=ab EF.out 0 HEA.out;have lF:v6.heap.size<vF.heap.size:=hpl EF.out;have hl3:=HXK.out.ln3;have szF:=nCF.size;have OF:=hid (aj OC.out nCF);have lgF:=(bI OF.out).2;replace lgF:v8.heap.size<=g∧g<vF.heap.size:=lgF;have CL:=hid (qX v8.heap.size g n c ys qa.am X.h.mem.length qa.cm X.h.mem vF OF.out (by omega) (IC.out.keep nCF).mem (fun q hq=>by have:=hge.out q (by simp [aV,hq]);omega) hl3.1 (by omega));go_wp2_with fail;refine CL.out.mono ?_;rintro e vG ⟨g',n',c',zs',rfl,L,W,hnn⟩;have HLL:=hid L;have KK:Hid (StdS v6 b8 v8.heap.size vG qa qb X.h g' n' c' zs'):=by
    have gb:=HLL.out.gb;have at9:=HLL.out.at';have i1:=IC.out.keep nCF;have i2:=IB.out.keep nCF;have hb7:=HB8.out;refine ⟨Below.gb (bst nC nCF) gb (by omega) lgF.2,aB (by rw [EAX.out];exact EF.out) gb (by omega),aB (by rw [EAY.out];exact (ah eB nCF).out) gb (by omega),i1.gb gb (fun q hq=>by have:=hge.out q hq;omega),i2.gb gb (fun q hq=>by have:=hgb'.out q hq;omega),HXK.out,fun x hx=>?_,fun x hx=>?_,HLL.out.own,W,KnK.mono HKN.out HLL.out.sub⟩
    ·have:=hge.out x hx;have:=i1.low x hx;omega
    ·have:=hgb'.out x hx;have:=i2.low x hx;omega
   clear L W HLL CL m0;go_wp2;go_roundw
   case rel=>exact ⟨k+1,qa,qb,X.h,g',n',c',zs',by omega,by omega,rfl,by go_num,by omega,KK.out⟩
   case measure=>simp [intOf];omega
 ·go_enter Tryz.func5,Tryz.ntmps5;go_wp2;go_ret;exact ⟨rfl,brf⟩
end
end Go.Proofs.YtkenjknmfhoppaaGreat
