import Derived.Test.YtkenjknmfhoppaaGreatPk48
namespace Go.Proofs.YtkenjknmfhoppaaGreat
open Go.RowKit
set_option linter.unusedVariables false
set_option maxHeartbeats 6400000
set_option maxRecDepth 20000
theorem JV (g n c:Nat) (zs:List Int) (w:World) (hB:Byt w (some (AD g 0)) n zs) (f t:Nat) (hn:n<=20000) (hf:f<=t∧t<=1000):
 Calls Tryz.prog 21 #[SL g n c,VI f,VI t] w fun e v=>∃g' cp ys,e=.returned (SL g' n cp)∧OwnB 5 v w.heap.size g' n cp ys∧(∀i:Nat,0<=ys[i]?.getD 0∧ys[i]?.getD 0<=255)∧Bw w v:=by
 have o0:=OwnB.new 5 w [] 0 rfl (by decide);have n0:=(Below.refl w.heap.size w).alloc nle (Obj.cells #[] 5);have HZ:=hid hB.2.1;have hzl:=hB.1;replace hB:=hB.keep n0;go_enter Tryz.func21,Tryz.ntmps21;go_upto_region 2 with (at_builtin;refine eQ _ rfl _ _ 22 rfl 5 Tryz.underlying22 Tryz.infoB w.heap.size _ _ _ _ rfl o0 g 0 n c zs rfl hB (by omega) w.heap.size w n0 nle ?_;intro g4 cp4 x4 o4 n4;clear o0 hB n0);simp only [Nat.zero_add,List.nil_append] at o4 |-;go_wp2;go_loopw [8] (fun ii wr=>∃(i:Nat) (ys:List Int),ii=VI i∧i<=t∧ys.length=n∧OwnB 5 wr w.heap.size g4 n cp4 ys∧(∀i:Nat,0<=ys[i]?.getD 0∧ys[i]?.getD 0<=255)∧Bw w wr) (fun ii _=>t-(intOf ii).toNat)
 case atStart=>exact ⟨f,zs,rfl,hf.1,hzl,o4,HZ.out,n4⟩
 case round=>
 clear o4 n4 HZ hzl;obtain ⟨i,ys,rfl,hi,hl,o1,b1,n1⟩:=hrel;have HB1:=hid b1;clear b1;by_cases ht:i<t
 ·have q1:decide ((i:Int)<(t:Int))=true:=by simp;omega
  by_cases hin:i<n
  ·have q2:decide ((i:Int)<(n:Int))=true:=by simp;omega
   have c6:=aM o1 i _ (show (ys.map (Value.int .u8))[i]?=some (.int .u8 ys[i]) by simp [geg (show i<ys.length by omega)]);have r6:=bQ o1 i;have l6:=o1.facts.2.2.1;have oN:=hid (o1.put i 0);have lg:=o1.facts.2.1;have nG:=hid (n1.setCell (p:=AD g4 i) lg (.int .u8 0));have HBF:Hid (∀j:Nat,0<=(ys.set i 0)[j]?.getD 0∧(ys.set i 0)[j]?.getD 0<=255):=dc fun y hy=>by
    rcases List.mem_or_eq_of_mem_set hy with h | h
    ·exact dW HB1.out y h
    ·rw [h];omega
   generalize ys[i]=zo at c6;clear o1;go_wp2;go_roundw
   case rel=>exact ⟨i+1,_,by go_num,by omega,by rw [List.length_set];exact hl,oN.out,HBF.out,nG.out⟩
   case measure=>simp [intOf];omega
  ·have q2:decide ((i:Int)<(n:Int))=false:=by simp;omega
   go_wp2;go_ret;exact ⟨g4,cp4,ys,rfl,o1,HB1.out,n1⟩
 ·have q1:decide ((i:Int)<(t:Int))=false:=by simp;omega
  go_wp2;go_ret;exact ⟨g4,cp4,ys,rfl,o1,HB1.out,n1⟩
section
attribute [local go_sem ↓] Go.wp_at_zero Go.wp_at_succ
structure OffS (ps:List Int) (h0:HartM) (b:Nat) (v wr:World) (k:Nat) (q:PtrM) (h:HartM):Prop where
 n:Bw v wr
 box:wr.heap[b]?=some (.cells (aj q h) 43 (0,0))
 hi:HartIn wr q h
 ok:HOk h
 off:Kf (ps.drop k) h->Kf ps h0
theorem Ks {h:HartM} (k:HOk h) (hn:¬(h.satp/1152921504606846976=8∧¬h.mode=2)):onM h.mode h.satp=false:=by
 have h1:=k.v.mode;have h2:=k.satp;simp only [inU] at h2;unfold onM;have e1:h.satp/1152921504606846976%16=h.satp/1152921504606846976:=by omega
 rw [e1];by_cases h8:h.satp/1152921504606846976=8
 ·have:h.mode=2:=by
   by_cases h3:h.mode=2
   ·exact h3
   ·exact absurd ⟨h8,h3⟩ hn
  rw [this];simp
 ·simp [h8]
theorem Kl (a0:Option Addr) (len0 cap0:Nat) (zs:List Int) (w:World) (hB:Byt w a0 len0 zs) (hlc:len0<=cap0) (hcm:cap0<=9223372036854775807):
 Calls Tryz.prog 6 #[.slice a0 len0 cap0] w fun e w'=>e=.returned (.bool true)∧Bw w w':=by
 by_cases hlen:len0<=1048576
 ·have CD:=hid (C6 a0 len0 cap0 zs w hB hlen);generalize sT zs=Z at CD;clear hB hlc hcm;go_enter Tryz.func6,Tryz.ntmps6;go_wp2_with fail;refine CD.out.mono ?_;rintro e v1 ⟨g,nn,cp,rfl,o1,b1,hn,n1⟩;have CZ:=hid (JV g nn cp Z v1 (o1.byt b1) 23 31 hn (by omega));clear o1 b1 CD;go_wp2_with fail;refine CZ.out.mono ?_;rintro e v2 ⟨g2,c2,y2,rfl,o2,b2,n2⟩;have CY:=hid (JV g2 nn c2 y2 v2 (o2.byt b2) 55 71 hn (by omega));clear o2 b2 CZ;go_wp2_with fail;refine CY.out.mono ?_;rintro e v3 ⟨g3,c3,bs,rfl,o3,b3,n3⟩;have I3:Hid (BI 20000 bs (SL g3 nn c3) v3):=⟨_,_,_,rfl,hn,o3.facts.2.2.2.1,o3.byt b3⟩;have A3:=bst n1 (bst n2 n3);have H0:=hid (la b3);have PB:=hid (jO b3);have pl:=qZ bs;have CE:=hid (mq (some (AD g3 0)) nn c3 bs v3 (o3.byt b3) (by omega));have HOFF:Hid (Kf (bq bs) (aI bs)->um bs=(true,(bq bs).length)):=fun h=>by
   unfold um;rw [Kg _ _ _ _ h,Nat.zero_add]
  have HSD:=hid (yx (zs:=bs) b3 rfl rfl);have HP:=hid (sS bs);obtain ⟨hrb,hm0⟩:=Bu b3;have HRB:=hid hrb;generalize (eM true (bq bs) (aI bs)).1=evs at *;generalize (eM true (bq bs) (aI bs)).2=hh at *;have CI:=hid fun u (hu:Bw v3 u)=>EH (I3.out.keep hu).wide;have CR:=hid fun (h:uO false bs evs hh) u (hu:Bw v3 u)=>As (plain:=false) (I3.out.keep hu).wide h;have CT:=hid fun u (hu:Bw v3 u)=>EJ (I3.out.keep hu) HP.out;generalize um bs=D at *;generalize aI bs=h0 at *;generalize bq bs=ps at *;clear n1 n2 n3 o3 b3 hrb CY HP I3;go_wp2_with fail;refine CE.out.mono ?_;rintro e v4 ⟨⟨p,pa,pc,rfl,hi,_,op⟩,n4⟩;obtain ⟨v5,hs5,P5,l5,n5⟩:=pV v4 (cF p pa pc h0 ps) rfl (iL _ _ _ _ _);have SH:=hid (qd p pa pc h0 ps);have SP:=hid (qf p pa pc h0 ps);generalize cF p pa pc h0 ps=S at *;have n35:=bst n4 n5;have S5:=hid P5;have HI5:=hid (hi.keep n5);have OP5:=hid (aq op n5);have HS5:=hid hs5;clear hs5 P5 hi op n4 n5 CE;go_upto_region 6 with (first | ((with_reducible refine ax ?_ ?_ HS5.out ?_);(exact rfl);(exact rfl)));clear HS5;have c21:=ab S5.out 21 SP.out;have l54:v4.heap.size<v5.heap.size:=hpl S5.out;by_cases hbig:ps.length<=300
  ·go_upto_region 8 with fail;clear c21;have HLh:Hid _:=ez (P:=Tryz.prog) (T:=43) S5.out Tryz.underlying43 rfl (o:=0) (aj p h0).toList fm SH.out rfl;rw [show (aj p h0).toList.toArray=aj p h0 from rfl] at HLh;obtain ⟨v6,hs6,P6,l6,n6⟩:=uV v5 (aj p h0) rfl (fP _ _);have K6:Hid (OffS ps h0 v5.heap.size v5 v6 0 p h0):=⟨n6,P6,HI5.out.keep n6,H0.out,fun h=>h⟩;have HS6:=hid hs6;clear hs6 P6 HI5 H0 n6 SH;generalize aj p h0=AH0 at HLh HS6;go_upto_region 9 with (first | ((with_reducible refine aZ ?_ HLh.out ?_);(exact rfl)) | ((with_reducible refine ax ?_ ?_ HS6.out ?_);(exact rfl);(exact rfl)));clear HLh HS6;go_wp2;go_loopw [6] (fun ii wr=>∃(k:Nat) (q':PtrM) (h:HartM),k<=ps.length∧ii=VI k∧OffS ps h0 v5.heap.size v5 wr k q' h) (fun ii _=>ps.length-(intOf ii).toNat)
   case atStart=>exact ⟨0,p,h0,Nat.zero_le _,rfl,K6.out⟩
   case round=>
   obtain ⟨k,q',h,hk,rfl,kk⟩:=hrel;have HK:=hid kk;have nw:=kk.n;clear K6 kk;have W5:=ah S5 nw;have lw7:v5.heap.size<wr.heap.size:=hpl HK.out.box;have c21:=ab W5.out 21 SP.out;have lw4:v4.heap.size<wr.heap.size:=hpl W5.out;by_cases hlt:k<ps.length
   ·have hlt':decide ((k:Int)<(ps.length:Int))=true:=by simp;omega
    obtain ⟨y,hy⟩:∃y,ps[k]=y:=⟨_,rfl⟩;have by':0<=y∧y<=255:=by rw [<-hy];exact PB.out _ (List.getElem_mem hlt)
    have pki:(cU ps)[k]?=some (VI y):=by
     rw [<-hy];simp [cU,geg hlt]
    have HNX:Hid (onM h.mode h.satp=false->Kf (ps.drop (k+1)) (bT true y h).h->Kf ps h0):=fun h1 h2=>HK.out.off (by rw [List.drop_eq_getElem_cons hlt,hy];exact ⟨h1,h2⟩);obtain ⟨pg,hpg⟩:=kC OP5.out (by omega);subst hpg;have HLy:Hid (∀u,Bw wr u->(Instr.loadAt 2 (PT pg k)).run Tryz.prog u=.ok (VI y) u):=fun u hu=>by
     have ho:=aq OP5.out (bst nw hu);have h1:=aM ho k _ pki;exact ldi (by simpa using h1)
    have HST:=hid fun (u:World) (hu:Bw wr u)=>Kc yr q' h y u (HK.out.hi.keep hu) HK.out.ok by'.1 by'.2;have HXK:=hid (mt true by' HK.out.ok).h;have HON:=hid (Ks HK.out.ok);have HB7:=hid HK.out.box;have c6:=ab HB7.out 6 (v:=VU h.satp) rfl;have c3:=ab HB7.out 3 (v:=VI h.mode) rfl;have HAs:(aj q' h).size=21:=rfl;have hsb:=HK.out.ok.satp;generalize bT true y h=X at *;generalize aj q' h=AH at *;generalize onM h.mode h.satp=ob at *;generalize h.satp=sa at *;generalize h.mode=mo at *;clear hy pki HK;go_upto_region 12 with fail;go_cut [39] from 31 to 38 (fun s wx=>∃bb,s=.bool bb∧(bb=false->ob=false)∧wr=wx)
    case first=>
     by_cases h8:sa/1152921504606846976=8
     ·have e8:(sa/1152921504606846976 == 8)=true:=by simpa using h8
      by_cases hm2:mo=2
      ·have HO2:=hid (HON.out (fun h=>h.2 hm2));subst hm2;go_wp2;go_meet
       case rel=>exact ⟨_,rfl,fun _=>HO2.out,rfl⟩
      ·have hm3:(mo != 2)=true:=by simpa using hm2
       go_wp2;go_meet
       case rel=>exact ⟨_,rfl,fun h=>by simp at h,rfl⟩
     ·have e8:(sa/1152921504606846976 == 8)=false:=by simpa using h8
      have HO2:=hid (HON.out (fun h=>h8 h.1));go_wp2;go_meet
      case rel=>exact ⟨_,rfl,fun _=>HO2.out,rfl⟩
    case rest=>
    obtain ⟨bb,rfl,hbb,rfl⟩:=hcut;cases bb
    ·have HN2:=hid (HNX.out (hbb rfl));clear c21 c6 c3 hbb HNX HON;go_upto_region 14 with fail;have HLa:=hid fun u (hu:Bw wr u)=>nH HAs (ah HB7 hu).out;have HLs:=hid fun u (hu:Bw wr u)=>ldp (ab (ah W5 hu).out 21 SP.out);have hF:=bdr wr;refine az (Bw wr) 8 ?_;refine ao 0 40 _ rfl hF ?_ (hy:=fun u hu=>aK rfl (HLa.out u hu));refine ao 1 41 (PT v4.heap.size 21) rfl hF ?_
     go_frame
     refine ao 2 42 _ rfl hF ?_ (hy:=fun u hu=>aK rfl (HLs.out u hu));refine ao 3 43 (VI (k:Int)) rfl hF ?_
     go_frame
     refine ao 4 44 (PT pg k) rfl hF ?_ (hy:=fun u hu=>by have h1:=hlt;go_simp)
     go_frame
     refine ao 5 45 _ rfl hF ?_ (hy:=fun u hu=>aK rfl (HLy.out u hu))
     go_frame
     refine cW 6 46 rfl ((HST.out _ hF).mono ?_);rintro e v7 ⟨⟨q2,rfl,hi7,hge⟩,n7⟩;have b7:=bst hF n7;refine ⟨_,rfl,fun _=>b7,?_⟩
     go_frame
     refine ji 7 47 (.agg (aj q2 X.h)) (w':=v7) rfl (fun _=>b7) ?_
     go_frame
     have HAx:(aj q2 X.h).size=21:=rfl;have W7:=ah HB7 b7;have HS7:=hid (aR (P:=Tryz.prog) (T:=43) (V:=aj q2 X.h) W7.out (by rw [HAx];exact fm) (by rw [HAx,HAs]) (fP q2 X.h));have e7:=hid (aH (V:=aj q2 X.h) W7.out (by rw [HAx,HAs]));have gA:=aG v5.heap.size (aj q2 X.h).toList 0 v7 _ (ak _ _);have nA:Bw v5 _:=aJ nle (aj q2 X.h).toList 0 _ (bst nw b7);have dw:wr.heap.size<=wr.drew.heap.size:=hF.size;have IA:=hid (hi7.gb gA (fun x hx=>by have:=hge x hx;omega));refine ey 8 5 47 rfl HS7.out ?_;refine dJ ?_;have K9:Hid (OffS ps h0 v5.heap.size v5 (v7.setCells v5.heap.size 0 (aj q2 X.h).toList) (k+1) q2 X.h):=⟨nA,e7.out,IA.out,HXK.out,HN2.out⟩;clear HLa HLs HLy HST hF W7 HS7 e7 gA nA IA hi7 hge n7 b7;generalize v7.setCells v5.heap.size 0 (aj q2 X.h).toList=v9 at *;generalize aj q2 X.h=AX at *;generalize Kb true X.cause X.tval q2 X.h=RX at *;go_wp2;go_roundw
     case rel=>exact ⟨k+1,q2,X.h,by omega,by go_num,K9.out⟩
     case measure=>simp [intOf];omega
    ·clear hbb c6 c3;go_wp2;go_ret;exact ⟨rfl,bst A3 (bst n35 nw)⟩
   ·have hin:k=ps.length:=by omega
    subst hin;have hlt':decide ((ps.length:Int)<(ps.length:Int))=false:=by simp
    have hD:=HOFF.out (HK.out.off (by rw [List.drop_length];exact True.intro));subst hD;have SF:=hid (HSD.out rfl);have n3w:=bst n35 nw;simp only at CI;clear HK HOFF HSD;go_wp2_with fail;refine (CI.out wr n3w).mono ?_;rintro e v7 ⟨rfl,n7⟩;obtain ⟨v8,hs8,H8,l8,n8⟩:=Bv v7 true ps.length;have HS8:=hid hs8;have n78:=bst n7 n8;have W8:=ah W5 n78;have n38:=bst n3w n78;clear hs8 n7 n8 CI W5 c21;go_upto_region 16 with (first | ((with_reducible refine ax ?_ ?_ HS8.out ?_);(exact rfl);(exact rfl)));clear HS8;have c0:=ab H8.out 0 (v:=.bool true) rfl;have c1:=ab H8.out 1 (v:=VI ps.length) rfl;have c21:=ab W8.out 21 SP.out;have l84:v4.heap.size<v8.heap.size:=hpl W8.out;have l87:v7.heap.size<v8.heap.size:=hpl H8.out;go_wp2_with fail;refine (CR.out SF.out v8 n38).mono ?_;rintro e va ⟨⟨ya,rfl,ja⟩,na⟩;have JA:=hid ja;clear ja c0 c1 c21;go_wp2_with fail;refine (CT.out va (bst n38 na)).mono ?_;rintro e vb ⟨⟨yb,rfl,jb⟩,nb⟩;have CL:=hid (Iv (JA.out.keep nb) jb HRB.out hm0);clear jb;go_wp2_with fail;refine CL.out.mono ?_;rintro e vc ⟨rfl,nc⟩;go_wp2;go_ret;exact ⟨rfl,bst A3 (bst n38 (bst na (bst nb nc)))⟩
  ·have hb2:decide ((300:Int)<(ps.length:Int))=true:=by simp;omega
   go_wp2;go_ret;exact ⟨rfl,bst A3 n35⟩
 ·go_enter Tryz.func6,Tryz.ntmps6;go_wp2;go_ret;exact ⟨rfl,brf⟩
end
end Go.Proofs.YtkenjknmfhoppaaGreat
