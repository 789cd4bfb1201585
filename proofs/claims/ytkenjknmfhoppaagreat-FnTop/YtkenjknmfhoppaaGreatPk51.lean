import Derived.Test.YtkenjknmfhoppaaGreatPk48
namespace Go.Proofs.YtkenjknmfhoppaaGreat
open Go.RowKit
set_option linter.unusedVariables false
set_option maxHeartbeats 6400000
set_option maxRecDepth 20000
section
attribute [local go_sem ↓] Go.wp_at_zero Go.wp_at_succ
theorem FH (a0:Option Addr) (len0 cap0:Nat) (zs:List Int) (w:World) (hB:Byt w a0 len0 zs) (hlc:len0<=cap0) (hcm:cap0<=9223372036854775807):
 Calls Tryz.prog 3 #[.slice a0 len0 cap0] w fun e w'=>e=.returned (.bool true)∧Bw w w':=by
 by_cases hlen:len0<=1048576
 ·have CD:=hid fun (u:World) (hu:Bw w u)=>EG (cap0:=cap0) (hB.keep hu) hlen;generalize sT zs=Z at CD;clear hB hlc hcm;go_enter Tryz.func3,Tryz.ntmps3;go_wp2_with fail;refine (CD.out w brf).mono ?_;rintro e v1 ⟨⟨x1,rfl,i1⟩,n1⟩;have HB:=hid i1.bd;have CS:=hid (EI i1);have C2:=hid fun (u:World) (x:Value) (h:BI 20000 Z x u)=>EH h.wide;have HD:=hid (yx (zs:=Z) HB.out rfl rfl);have HP:=hid (sS Z);obtain ⟨hrb,hm0⟩:=Bu HB.out;have HRB:=hid hrb;generalize (eM true (bq Z) (aI Z)).1=evs at *;generalize (eM true (bq Z) (aI Z)).2=hh at *;generalize um Z=D at *;obtain ⟨x,y⟩:=D;simp only at CS C2 HD;clear i1 hrb HB;go_wp2_with fail;refine CS.out.mono ?_;rintro e v2 ⟨rfl,n2⟩;obtain ⟨v3,hs3,H3,l3,n3⟩:=Bv v2 x y;have HS3:=hid hs3;have A3:=bst n1 (bst n2 n3);clear hs3 n1 n2 n3 CS;go_upto_region 4 with (first | ((with_reducible refine ax ?_ ?_ HS3.out ?_);(exact rfl);(exact rfl)));clear HS3;have HLw:=hid fun u (hu:Bw v3 u)=>yy (ah H3 hu).out;have hF:=bdr v3;refine az (Bw v3) 4 ?_;refine ao 0 11 (.slice a0 len0 cap0) rfl hF ?_;refine ao 3 14 _ rfl hF ?_ (hy:=fun u hu=>aK rfl (HLw.out u hu))
  go_frame
  refine cW 1 12 rfl ((CD.out _ (bst A3 hF)).mono ?_);rintro e v4 ⟨⟨x4,rfl,i4⟩,n4⟩;have b4:=bst hF n4;refine ⟨_,rfl,fun _=>b4,?_⟩
  go_frame
  refine cW 2 13 rfl ((C2.out _ _ i4).mono ?_);rintro e v5 ⟨rfl,n5⟩;have b5:=bst b4 n5;refine ⟨_,rfl,fun _=>b5,?_⟩
  go_frame
  refine kU 4 rfl ?_;have HNE:=Kv x y v5;have H5:=ah H3 b5;have A5:=bst A3 b5;have l5:=hpl H5.out;clear H3 HLw hF b4 b5 n4 n5 i4 C2;cases x
  ·have c0:=ab H5.out 0 (v:=.bool false) rfl;go_wp2;go_ret;exact ⟨rfl,A5⟩
  ·have c0:=ab H5.out 0 (v:=.bool true) rfl;have SF:=hid (HD.out rfl);clear HD;go_wp2_with fail;refine (CD.out v5 A5).mono ?_;rintro e v6 ⟨⟨x6,rfl,i6⟩,n6⟩;have CT:=hid (EJ i6 HP.out);clear c0 i6;go_wp2_with fail;refine CT.out.mono ?_;rintro e v7 ⟨⟨_,rfl,ea,ec,q,rfl,r7⟩,n7⟩;obtain ⟨v8,hs8,P8,l8,n8⟩:=ES v7 (dG ea evs.length ec q hh) rfl (zj _ _ _ _ _);have I8:Hid (RI evs hh (.agg (dG ea evs.length ec q hh)) v8):=⟨ea,ec,q,rfl,r7.keep n8⟩;have SG:(dG ea evs.length ec q hh).size=12:=rfl;generalize dG ea evs.length ec q hh=G at *;have HS8:=hid hs8;have Q8:=hid P8;have A8:=bst A5 (bst n6 (bst n7 n8));clear hs8 P8 n6 n7 n8 r7 CT;go_upto_region 9 with (first | ((with_reducible refine ax ?_ ?_ HS8.out ?_);(exact rfl);(exact rfl)));clear HS8;have HLr:=hid fun u (hu:Bw v8 u)=>ET SG (ah Q8 hu).out;have hF:=bdr v8;refine az (Bw v8) 12 ?_;refine ao 0 22 (.slice a0 len0 cap0) rfl hF ?_;refine ao 3 25 _ rfl hF ?_ (hy:=fun u hu=>aK rfl (HLr.out u hu))
   go_frame
   refine cW 1 23 rfl ((CD.out _ (bst A8 hF)).mono ?_);rintro e u1 ⟨⟨y1,rfl,j1⟩,m1⟩;have b1:=bst hF m1;refine ⟨_,rfl,fun _=>b1,?_⟩
   go_frame
   refine cW 2 24 rfl ((As j1.wide SF.out).mono ?_);rintro e u2 ⟨⟨y2,rfl,j2⟩,m2⟩;have b2:=bst b1 m2;refine ⟨_,rfl,fun _=>b2,?_⟩
   go_frame
   refine cW 4 26 rfl ((Iv j2 (I8.out.keep b2) HRB.out hm0).mono ?_);rintro e u3 ⟨rfl,m3⟩;have b3:=bst b2 m3;refine ⟨_,rfl,fun _=>b3,?_⟩
   go_frame
   refine ao 5 27 (.bool true) rfl b3 ?_;refine ao 6 28 (.slice a0 len0 cap0) rfl b3 ?_;refine ao 9 31 _ rfl b3 ?_ (hy:=fun u hu=>aK rfl (HLr.out u hu))
   go_frame
   refine cW 7 29 rfl ((CD.out _ (bst A8 b3)).mono ?_);rintro e u4 ⟨⟨y4,rfl,j4⟩,m4⟩;have b4:=bst b3 m4;refine ⟨_,rfl,fun _=>b4,?_⟩
   go_frame
   refine cW 8 30 rfl ((As j4.wide HP.out).mono ?_);rintro e u5 ⟨⟨y5,rfl,j5⟩,m5⟩;have b5:=bst b4 m5;refine ⟨_,rfl,fun _=>b5,?_⟩
   go_frame
   refine cW 10 32 rfl ((Iv j5 (I8.out.keep b5) HRB.out hm0).mono ?_);rintro e u6 ⟨rfl,m6⟩;have b6:=bst b5 m6;refine ⟨_,rfl,fun _=>b6,?_⟩
   go_frame
   refine ao 11 33 (.bool true) rfl b6 ?_
   go_frame
   refine kU 12 rfl ?_;go_wp2;go_ret;exact ⟨rfl,bst A8 b6⟩
 ·go_enter Tryz.func3,Tryz.ntmps3;go_wp2;go_ret;exact ⟨rfl,brf⟩
end
end Go.Proofs.YtkenjknmfhoppaaGreat
