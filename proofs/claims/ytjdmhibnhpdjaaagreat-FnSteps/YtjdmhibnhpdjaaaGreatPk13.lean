import Derived.Test.YtjdmhibnhpdjaaaGreatPk12
namespace Go.Proofs.YtjdmhibnhpdjaaaGreat
open Go.RowKit
set_option linter.unusedVariables false
set_option maxHeartbeats 6400000
set_option maxRecDepth 20000
theorem wV {b:Int} (h:1<=b∧b<=6) (x:Int):0<=b*bits .and .i64 x 1∧b*bits .and .i64 x 1<=6:=by
 have:=oB x 1 (by omega) (by omega);rcases (show bits .and .i64 x 1=0∨bits .and .i64 x 1=1 by omega) with e | e <;> rw [e] <;> omega
theorem yc (p:Nat) (f:Nat->Int) (n:Nat) (careful:Bool) (w:World) (h:Dw w p f w) (hn:n<=1000):
 Calls Tryz.prog 72 #[PT p 0,VI n,.bool careful] w fun e w'=>
  ∃g nn cp,4*n<=nn∧e=.returned (SL g nn cp)∧Sw w p f g nn cp w':=by
 have S0:=h.new;clear h;go_enter Tryz.func72,Tryz.ntmps72;go_wp2;go_loopw [7] (fun vv wr=>∃g nn cp,vv=SL g nn cp∧Sw w p f g nn cp wr∧nn<=4*n+8) (fun vv _=>4*n+8-EL vv)
 case atStart=>exact ⟨_,0,_,rfl,S0,by omega⟩
 case round=>
  clear S0;obtain ⟨g,nn,cp,rfl,S,hl⟩:=hrel;by_cases hlt:nn<4*n
  ·have hlt':decide ((nn:Int)<4*(n:Int))=true:=by simp;omega
   go_wp2_with fail;refine (iL.bl S (by omega)).mono ?_;clear S;rintro _ _ ⟨c,rfl,hc,S⟩;go_wp2_with fail;refine (iL.bl S (by omega)).mono ?_;clear S;rintro _ _ ⟨at',rfl,hat,S⟩;go_wp2_with fail;refine (iL.on S (by omega)).mono ?_;clear S;rintro _ _ ⟨s,rfl,S⟩;go_upto_if 30 with fail;go_cut [10] from 30 to 30 (fun s wx=>∃b,s=VI b∧(1<=b∧b<=6)∧Sw w p f g nn cp wx)
   case first=>cases s <;> (go_wp2_with fail;go_meet;case rel=>exact ⟨_,rfl,by omega,S⟩)
   case rest=>
   clear S;obtain ⟨b,rfl,hb,S⟩:=hcut;have hb1:=wV hb at';rcases (show c<5∨(5<=c∧c<7)∨((7<=c∧c<11)∧careful=true)∨((7<=c∧c<11)∧careful=false)∨c=11∨c=12∨c=13∨c=14∨c=15∨c=16∨(c=17∧at'=7)∨(c=17∧¬at'=7)∨c=18∨(c=19∧careful=true)∨(c=19∧careful=false) by cases careful <;> simp <;> omega) with q | q | ⟨q,rfl⟩ | ⟨q,rfl⟩ | q | q | q | q | q | q | q | q | q | ⟨q,rfl⟩ | ⟨q,rfl⟩;all_goals
    as_aux_lemma=>
     go_wp2_with (first
      | (at_builtin;refine lT rfl _ _ rfl rfl rfl S Y (by omega) ?_;clear S Y;intro _ _ _ S)
      | (go_at_call 34;refine (iL.bl S (by omega)).mono ?_;clear S;rintro _ _ ⟨x,rfl,hx,S⟩;have hx1:=wV hb x)
      | (go_at_call 68;refine (iL.ins S (by omega)).mono ?_;clear S;rintro _ _ ⟨_,rfl,Y,S⟩))
     iterate 3 (try any_goals ((go_at_call 13;refine (iL.on S (by omega)).mono ?_;clear S;rintro _ _ ⟨(_ | _),rfl,S⟩) <;> go_wp2_with (first
      | (at_builtin;refine lT rfl _ _ rfl rfl rfl S Y (by omega) ?_;clear S Y;intro _ _ _ S)
      | (go_at_call 34;refine (iL.bl S (by omega)).mono ?_;clear S;rintro _ _ ⟨x,rfl,hx,S⟩;have hx1:=wV hb x)
      | (go_at_call 68;refine (iL.ins S (by omega)).mono ?_;clear S;rintro _ _ ⟨_,rfl,Y,S⟩))))
     all_goals go_roundw
     all_goals (try exact ⟨_,_,_,rfl,S,by omega⟩)
     all_goals (simp [EL];omega)
  ·have hlt':decide ((nn:Int)<4*(n:Int))=false:=by simp;omega
   go_wp2;go_ret;exact ⟨_,_,_,by omega,rfl,S⟩
def FY (w:World) (p:Nat) (f:Nat->Int) (e:Ending) (w':World):Prop:=∃g nn cp,(1<=nn∧nn<=20000)∧e=.returned (SL g nn cp)∧Sw w p f g nn cp w'
theorem Sw.cap {w v:World} {p g n cp:Nat} {f:Nat->Int} (h:Sw w p f g n cp v):n<=cp:=by
 obtain ⟨_,_,_,o⟩:=h;exact o.o.facts.2.2.2.1
theorem Ac (p:Nat) (f:Nat->Int) (w:World) (h:Dw w p f w):Calls Tryz.prog 36 #[PT p 0] w (FY w p f):=by
 have D:=h;clear h;go_enter Tryz.func36,Tryz.ntmps36;go_wp2_with fail;refine (EE.on D (by omega)).mono ?_;clear D;rintro _ _ ⟨us,rfl,D⟩;go_wp2_with fail;refine (EE.bl D (by omega)).mono ?_;clear D;rintro _ v2 ⟨c0,rfl,hc0,D⟩;have S:=D.new;clear D;obtain ⟨careful,hcar⟩:∃b,decide (0<c0)=b:=⟨_,rfl⟩;go_wp2_with fail;clear hcar hc0;generalize v2.alloc (Obj.cells #[] 5)=wz at S |-;generalize v2.heap.size=gz at S |-;go_loopw [5,6] (fun vv jj wr=>∃g cp j:Nat,j<=3∧vv=SL g j cp∧jj=VI j∧Sw w p f g j cp wr) (fun _ jj _=>3-(intOf jj).toNat)
 case atStart=>exact ⟨_,_,0,by omega,rfl,rfl,S⟩
 case round=>
 clear S;obtain ⟨g,cp,j,hj,rfl,rfl,S⟩:=hrel;by_cases hlt:j<3
 ·as_aux_lemma=>
   go_wp2_with fail;refine (iL.bl S (by omega)).mono ?_;clear S;rintro _ _ ⟨y,rfl,hy,S⟩;go_wp2_with fail;refine (iL.on S (by omega)).mono ?_;clear S;rintro _ _ ⟨(_ | _),rfl,S⟩;all_goals
    go_wp2_with (at_builtin;refine lT rfl _ _ rfl rfl rfl (iL.keep S (eL _ _)) (ED _ _ (by omega)) (by omega) ?_;clear S;intro _ _ _ S);go_roundw
    case rel=>exact ⟨_,_,j+1,by omega,rfl,by go_num,S⟩
    case measure=>simp [intOf];omega
 have hj3:j=3:=by omega
 subst hj3;clear hlt hj
 as_aux_lemma=>
 go_upto_if 52 with (first | fail | (go_at_call 34;refine (iL.bl S (by omega)).mono ?_;clear S;rintro _ _ ⟨x,rfl,hx,S⟩) | (go_at_call 13;refine (iL.on S (by omega)).mono ?_;clear S;rintro _ _ ⟨ob,rfl,S⟩));go_cut [8] from 53 to 55 (fun s wx=>∃x:Int,s=VI x∧(0<=x∧x<=255)∧Sw w p f g 3 cp wx)
 case first=>cases ob <;> (go_wp2_with (first | fail | (go_at_call 34;refine (iL.bl S (by omega)).mono ?_;clear S;rintro _ _ ⟨x,rfl,hx,S⟩) | (go_at_call 13;refine (iL.on S (by omega)).mono ?_;clear S;rintro _ _ ⟨ob,rfl,S⟩) | (go_at_call 63;refine (iL.va S).mono ?_;clear S;rintro _ _ ⟨x,rfl,hx,S⟩) | (go_at_call 67;refine (iL.an S).mono ?_;clear S;rintro _ _ ⟨x,rfl,hx,S⟩) | (go_at_call 65;refine (iD 60 1152921504606846976 _ (by omega) (by decide)).mono ?_;rintro _ _ ⟨rfl,rfl⟩));go_meet;case rel=>exact ⟨_,rfl,by omega,S⟩)
 case rest=>
 clear S;obtain ⟨pages,rfl,bpages,S⟩:=hcut;go_upto_if 56 with (first | fail | (go_at_call 34;refine (iL.bl S (by omega)).mono ?_;clear S;rintro _ _ ⟨x,rfl,hx,S⟩) | (go_at_call 13;refine (iL.on S (by omega)).mono ?_;clear S;rintro _ _ ⟨ob,rfl,S⟩));go_cut [9] from 56 to 56 (fun s wx=>∃x:Int,s=VI x∧(0<=x∧x<=1)∧Sw w p f g 3 cp wx)
 case first=>cases us <;> (go_wp2_with (first | fail | (go_at_call 34;refine (iL.bl S (by omega)).mono ?_;clear S;rintro _ _ ⟨x,rfl,hx,S⟩) | (go_at_call 13;refine (iL.on S (by omega)).mono ?_;clear S;rintro _ _ ⟨ob,rfl,S⟩) | (go_at_call 63;refine (iL.va S).mono ?_;clear S;rintro _ _ ⟨x,rfl,hx,S⟩) | (go_at_call 67;refine (iL.an S).mono ?_;clear S;rintro _ _ ⟨x,rfl,hx,S⟩) | (go_at_call 65;refine (iD 60 1152921504606846976 _ (by omega) (by decide)).mono ?_;rintro _ _ ⟨rfl,rfl⟩));go_meet;case rel=>exact ⟨_,rfl,by omega,S⟩)
 case rest=>
 clear S;obtain ⟨m0,rfl,bm0,S⟩:=hcut;go_upto_if 58 with (first | fail | (go_at_call 34;refine (iL.bl S (by omega)).mono ?_;clear S;rintro _ _ ⟨x,rfl,hx,S⟩) | (go_at_call 13;refine (iL.on S (by omega)).mono ?_;clear S;rintro _ _ ⟨ob,rfl,S⟩));go_cut [9] from 58 to 58 (fun s wx=>∃x:Int,s=VI x∧(0<=x∧x<=2)∧Sw w p f g 3 cp wx)
 case first=>cases ob <;> (go_wp2_with (first | fail | (go_at_call 34;refine (iL.bl S (by omega)).mono ?_;clear S;rintro _ _ ⟨x,rfl,hx,S⟩) | (go_at_call 13;refine (iL.on S (by omega)).mono ?_;clear S;rintro _ _ ⟨ob,rfl,S⟩) | (go_at_call 63;refine (iL.va S).mono ?_;clear S;rintro _ _ ⟨x,rfl,hx,S⟩) | (go_at_call 67;refine (iL.an S).mono ?_;clear S;rintro _ _ ⟨x,rfl,hx,S⟩) | (go_at_call 65;refine (iD 60 1152921504606846976 _ (by omega) (by decide)).mono ?_;rintro _ _ ⟨rfl,rfl⟩));go_meet;case rel=>exact ⟨_,rfl,by omega,S⟩)
 case rest=>
 clear S;obtain ⟨mode,rfl,bmode,S⟩:=hcut;go_wp2_with fail;refine (iL.bl S (by omega)).mono ?_;clear S;rintro _ _ ⟨fl,rfl,hfl,S⟩;obtain ⟨z,hz⟩:∃z,mode+4*fl=z:=⟨_,rfl⟩;have bz:0<=z∧z<=255:=by omega
 go_upto_region 21 with (at_builtin;refine lT rfl _ _ rfl rfl rfl (iL.keep S (eL _ _)) (Fv _ _ _ ⟨bpages,bz⟩) (by omega) ?_;clear S;intro g cp _ S);clear hz
 as_aux_lemma=>
 go_upto_if 75 with (first | fail | (go_at_call 34;refine (iL.bl S (by omega)).mono ?_;clear S;rintro _ _ ⟨x,rfl,hx,S⟩) | (go_at_call 13;refine (iL.on S (by omega)).mono ?_;clear S;rintro _ _ ⟨ob,rfl,S⟩));go_cut [11] from 76 to 77 (fun s wx=>∃x:Int,s=VI x∧(0<=x∧x<=84)∧Sw w p f g 5 cp wx)
 case first=>cases ob <;> (go_wp2_with (first | fail | (go_at_call 34;refine (iL.bl S (by omega)).mono ?_;clear S;rintro _ _ ⟨x,rfl,hx,S⟩) | (go_at_call 13;refine (iL.on S (by omega)).mono ?_;clear S;rintro _ _ ⟨ob,rfl,S⟩) | (go_at_call 63;refine (iL.va S).mono ?_;clear S;rintro _ _ ⟨x,rfl,hx,S⟩) | (go_at_call 67;refine (iL.an S).mono ?_;clear S;rintro _ _ ⟨x,rfl,hx,S⟩) | (go_at_call 65;refine (iD 60 1152921504606846976 _ (by omega) (by decide)).mono ?_;rintro _ _ ⟨rfl,rfl⟩));go_meet;case rel=>exact ⟨_,rfl,by omega,S⟩)
 case rest=>
 clear S;obtain ⟨n1,rfl,bn1,S⟩:=hcut;go_upto_if 79 with (first | fail | (go_at_call 34;refine (iL.bl S (by omega)).mono ?_;clear S;rintro _ _ ⟨x,rfl,hx,S⟩) | (go_at_call 13;refine (iL.on S (by omega)).mono ?_;clear S;rintro _ _ ⟨ob,rfl,S⟩));go_cut [11] from 80 to 82 (fun s wx=>∃x:Int,s=VI x∧(0<=x∧x<=20001)∧Sw w p f g 5 cp wx)
 case first=>cases ob <;> (go_wp2_with (first | fail | (go_at_call 34;refine (iL.bl S (by omega)).mono ?_;clear S;rintro _ _ ⟨x,rfl,hx,S⟩) | (go_at_call 13;refine (iL.on S (by omega)).mono ?_;clear S;rintro _ _ ⟨ob,rfl,S⟩) | (go_at_call 63;refine (iL.va S).mono ?_;clear S;rintro _ _ ⟨x,rfl,hx,S⟩) | (go_at_call 67;refine (iL.an S).mono ?_;clear S;rintro _ _ ⟨x,rfl,hx,S⟩) | (go_at_call 65;refine (iD 60 1152921504606846976 _ (by omega) (by decide)).mono ?_;rintro _ _ ⟨rfl,rfl⟩));go_meet;case rel=>exact ⟨_,rfl,by omega,S⟩)
 case rest=>
 clear S;obtain ⟨ns,rfl,bns,S⟩:=hcut
 as_aux_lemma=>
 go_upto_if 89 with (first | (at_builtin;refine lT rfl _ _ rfl rfl rfl S Y (by omega) ?_;clear S Y;intro g cp _ S) | (go_at_call 34;refine (iL.bl S (by omega)).mono ?_;clear S;rintro _ _ ⟨x,rfl,hx,S⟩) | (go_at_call 13;refine (iL.on S (by omega)).mono ?_;clear S;rintro _ _ ⟨ob,rfl,S⟩) | (go_at_call 62;refine (iL.bt S 2 (by omega)).mono ?_;clear S;rintro _ _ ⟨_,_,rfl,Y,S⟩) | (go_at_call 66;refine (iL.fl S _).mono ?_;clear S;rintro _ _ ⟨x,rfl,hx,S⟩) | (go_at_call 63;refine (iL.va S).mono ?_;clear S;rintro _ _ ⟨x,rfl,hx,S⟩) | (go_at_call 67;refine (iL.an S).mono ?_;clear S;rintro _ _ ⟨x,rfl,hx,S⟩) | (go_at_call 64;refine (wU (by omega)).mono ?_;rintro _ _ ⟨x,rfl,hx,rfl⟩) | (go_at_call 65;refine (iD 60 1152921504606846976 _ (by omega) (by decide)).mono ?_;rintro _ _ ⟨rfl,rfl⟩));go_cut [12] from 90 to 91 (fun s wx=>∃x:Int,s=VU x∧(0<=x∧x<=18446744073709551615)∧Sw w p f g 7 cp wx)
 case first=>cases ob <;> (go_wp2_with (first | fail | (go_at_call 34;refine (iL.bl S (by omega)).mono ?_;clear S;rintro _ _ ⟨x,rfl,hx,S⟩) | (go_at_call 13;refine (iL.on S (by omega)).mono ?_;clear S;rintro _ _ ⟨ob,rfl,S⟩) | (go_at_call 63;refine (iL.va S).mono ?_;clear S;rintro _ _ ⟨x,rfl,hx,S⟩) | (go_at_call 67;refine (iL.an S).mono ?_;clear S;rintro _ _ ⟨x,rfl,hx,S⟩) | (go_at_call 65;refine (iD 60 1152921504606846976 _ (by omega) (by decide)).mono ?_;rintro _ _ ⟨rfl,rfl⟩));go_meet;case rel=>exact ⟨_,rfl,by omega,S⟩)
 case rest=>
 clear S;obtain ⟨pcv,rfl,bpcv,S⟩:=hcut
 as_aux_lemma=>
 go_upto_if 105 with (first | (at_builtin;refine lT rfl _ _ rfl rfl rfl S Y (by omega) ?_;clear S Y;intro g cp _ S) | (go_at_call 34;refine (iL.bl S (by omega)).mono ?_;clear S;rintro _ _ ⟨x,rfl,hx,S⟩) | (go_at_call 13;refine (iL.on S (by omega)).mono ?_;clear S;rintro _ _ ⟨ob,rfl,S⟩) | (go_at_call 62;refine (iL.bt S 8 (by omega)).mono ?_;clear S;rintro _ _ ⟨_,_,rfl,Y,S⟩) | (go_at_call 66;refine (iL.fl S _).mono ?_;clear S;rintro _ _ ⟨x,rfl,hx,S⟩) | (go_at_call 63;refine (iL.va S).mono ?_;clear S;rintro _ _ ⟨x,rfl,hx,S⟩) | (go_at_call 67;refine (iL.an S).mono ?_;clear S;rintro _ _ ⟨x,rfl,hx,S⟩) | (go_at_call 64;refine (wU (by omega)).mono ?_;rintro _ _ ⟨x,rfl,hx,rfl⟩) | (go_at_call 65;refine (iD 60 1152921504606846976 _ (by omega) (by decide)).mono ?_;rintro _ _ ⟨rfl,rfl⟩));go_cut [14] from 106 to 110 (fun s wx=>∃x:Int,s=VU x∧(0<=x∧x<=18446744073709551615)∧Sw w p f g 23 cp wx)
 case first=>cases ob <;> (go_wp2_with (first | fail | (go_at_call 34;refine (iL.bl S (by omega)).mono ?_;clear S;rintro _ _ ⟨x,rfl,hx,S⟩) | (go_at_call 13;refine (iL.on S (by omega)).mono ?_;clear S;rintro _ _ ⟨ob,rfl,S⟩) | (go_at_call 63;refine (iL.va S).mono ?_;clear S;rintro _ _ ⟨x,rfl,hx,S⟩) | (go_at_call 67;refine (iL.an S).mono ?_;clear S;rintro _ _ ⟨x,rfl,hx,S⟩) | (go_at_call 65;refine (iD 60 1152921504606846976 _ (by omega) (by decide)).mono ?_;rintro _ _ ⟨rfl,rfl⟩));go_meet;case rel=>exact ⟨_,rfl,by omega,S⟩)
 case rest=>
 clear S;obtain ⟨sp,rfl,bsp,S⟩:=hcut
 as_aux_lemma=>
 go_upto_if 132 with (first | (at_builtin;refine lT rfl _ _ rfl rfl rfl S Y (by omega) ?_;clear S Y;intro g cp _ S) | (go_at_call 34;refine (iL.bl S (by omega)).mono ?_;clear S;rintro _ _ ⟨x,rfl,hx,S⟩) | (go_at_call 13;refine (iL.on S (by omega)).mono ?_;clear S;rintro _ _ ⟨ob,rfl,S⟩) | (go_at_call 62;refine (iL.bt S 8 (by omega)).mono ?_;clear S;rintro _ _ ⟨_,_,rfl,Y,S⟩) | (go_at_call 66;refine (iL.fl S _).mono ?_;clear S;rintro _ _ ⟨x,rfl,hx,S⟩) | (go_at_call 63;refine (iL.va S).mono ?_;clear S;rintro _ _ ⟨x,rfl,hx,S⟩) | (go_at_call 67;refine (iL.an S).mono ?_;clear S;rintro _ _ ⟨x,rfl,hx,S⟩) | (go_at_call 64;refine (wU (by omega)).mono ?_;rintro _ _ ⟨x,rfl,hx,rfl⟩) | (go_at_call 65;refine (iD 60 1152921504606846976 _ (by omega) (by decide)).mono ?_;rintro _ _ ⟨rfl,rfl⟩));go_cut [18] from 133 to 134 (fun s wx=>∃x:Int,s=VU x∧(0<=x∧x<=18446744073709551615)∧Sw w p f g 31 cp wx)
 case first=>cases ob <;> (go_wp2_with (first | fail | (go_at_call 34;refine (iL.bl S (by omega)).mono ?_;clear S;rintro _ _ ⟨x,rfl,hx,S⟩) | (go_at_call 13;refine (iL.on S (by omega)).mono ?_;clear S;rintro _ _ ⟨ob,rfl,S⟩) | (go_at_call 63;refine (iL.va S).mono ?_;clear S;rintro _ _ ⟨x,rfl,hx,S⟩) | (go_at_call 67;refine (iL.an S).mono ?_;clear S;rintro _ _ ⟨x,rfl,hx,S⟩) | (go_at_call 65;refine (iD 60 1152921504606846976 _ (by omega) (by decide)).mono ?_;rintro _ _ ⟨rfl,rfl⟩));go_meet;case rel=>exact ⟨_,rfl,by omega,S⟩)
 case rest=>
 clear S;obtain ⟨lf,rfl,blf,S⟩:=hcut
 as_aux_lemma=>
 go_upto_region 52 with (first | (at_builtin;refine lT rfl _ _ rfl rfl rfl S Y (by omega) ?_;clear S Y;intro g cp _ S) | (go_at_call 34;refine (iL.bl S (by omega)).mono ?_;clear S;rintro _ _ ⟨x,rfl,hx,S⟩) | (go_at_call 13;refine (iL.on S (by omega)).mono ?_;clear S;rintro _ _ ⟨ob,rfl,S⟩) | (go_at_call 62;refine (iL.bt S 8 (by omega)).mono ?_;clear S;rintro _ _ ⟨_,_,rfl,Y,S⟩) | (go_at_call 66;refine (iL.fl S _).mono ?_;clear S;rintro _ _ ⟨x,rfl,hx,S⟩) | (go_at_call 63;refine (iL.va S).mono ?_;clear S;rintro _ _ ⟨x,rfl,hx,S⟩) | (go_at_call 67;refine (iL.an S).mono ?_;clear S;rintro _ _ ⟨x,rfl,hx,S⟩) | (go_at_call 64;refine (wU (by omega)).mono ?_;rintro _ _ ⟨x,rfl,hx,rfl⟩) | (go_at_call 65;refine (iD 60 1152921504606846976 _ (by omega) (by decide)).mono ?_;rintro _ _ ⟨rfl,rfl⟩));rename World=>v5;have R:=S.new;clear S;go_upto_region 53 with fail;generalize v5.alloc (Obj.cells #[] 22)=wR at R |-;generalize v5.heap.size=gR at R |-
 as_aux_lemma=>
 go_wp2_with fail;refine (Rr.ins R (by omega)).mono ?_;clear R;rintro _ _ ⟨gh,rfl,S⟩;go_wp2_with fail;refine (Fw.on S (by omega)).mono ?_;clear S;rintro _ v6 ⟨ob,rfl,S,O⟩;go_upto_if 178 with fail;go_cut [22] from 179 to 181 (fun s wx=>∃gh nh ch,s=SL gh nh ch∧nh<=8∧Byv wx gh nh∧Rr w p f g 87 cp gR 0 0 wx)
 case first=>
  cases ob
  ·go_wp2;go_meet
   case rel=>exact ⟨gh,4,4,rfl,by omega,O.byv,S⟩
  ·go_wp2_with fail;refine (tN 11 0 0 0 0 _ (by omega) (by omega) (by omega) (by omega)).mono ?_;rintro _ vi ⟨gi,rfl,oi,ni⟩;obtain ⟨_,ys,oh,bh⟩:=O;have yh:=(oh.keep ni oh.facts.2.2.1).byt bh;have hl:=oh.facts;go_wp2_with (at_builtin;refine kG _ rfl _ _ 22 rfl 5 Tryz.underlying22 Tryz.infoB v6.heap.size gi 4 4 _ rfl oi gh 0 4 4 ys rfl yh (by omega) v6.heap.size v6 ni (Nat.le_refl _) ?_;intro g4 cp4 x4 o4 n4);go_meet
   case rel=>exact ⟨g4,8,cp4,rfl,by omega,⟨_,o4.byt (Fg (xF (by omega) (by omega) (by omega) (by omega)) bh)⟩,kY.keep S n4⟩
 case rest=>
 clear S O;obtain ⟨gh,nh,ch,rfl,hnh,Y,S⟩:=hcut
 as_aux_lemma=>
 go_wp2_with fail;refine (Rr.run1 S Y (by omega)).mono ?_;clear S Y;rintro _ _ ⟨_,_,rfl,Y,S⟩;go_upto_if 187 with (at_builtin;refine nX rfl _ _ rfl rfl rfl S Y (by omega) ?_;clear S Y;intro gR cR _ S);go_cut [23] from 188 to 189 (fun s wx=>∃x:Int,s=VU x∧(199<=x∧x<=215)∧Rr w p f g 87 cp gR 1 cR wx)
 case first=>cases us <;> (go_wp2_with fail;go_meet;case rel=>exact ⟨_,rfl,by omega,S⟩)
 case rest=>
 clear S;obtain ⟨al,rfl,bal,S⟩:=hcut
 as_aux_lemma=>
 go_upto_region 65 with (first | (at_builtin;refine nX rfl _ _ rfl rfl rfl S Y (by omega) ?_;clear S Y;intro gR cR _ S) | (go_at_call 70;refine (Rr.pte S (by omega)).mono ?_;clear S;rintro _ _ ⟨_,_,rfl,Y,S⟩) | (go_at_call 34;refine (kY.bl S (by omega)).mono ?_;clear S;rintro _ _ ⟨x,rfl,hx,S⟩) | (go_at_call 66;refine (kY.fl S _).mono ?_;clear S;rintro _ _ ⟨x,rfl,hx,S⟩) | (go_at_call 71;refine (kY.pt S (by omega)).mono ?_;clear S;rintro _ _ ⟨x,rfl,hx,S⟩))
 as_aux_lemma=>
 go_wp2_with (first | (at_builtin;refine nX rfl _ _ rfl rfl rfl S Y (by omega) ?_;clear S Y;intro gR cR _ S) | (go_at_call 70;refine (Rr.pte S (by omega)).mono ?_;clear S;rintro _ _ ⟨_,_,rfl,Y,S⟩) | (go_at_call 34;refine (kY.bl S (by omega)).mono ?_;clear S;rintro _ _ ⟨x,rfl,hx,S⟩) | (go_at_call 66;refine (kY.fl S _).mono ?_;clear S;rintro _ _ ⟨x,rfl,hx,S⟩) | (go_at_call 71;refine (kY.pt S (by omega)).mono ?_;clear S;rintro _ _ ⟨x,rfl,hx,S⟩));go_loopw [21,24] (fun vv tt wr=>∃a gR cR:Nat,a<=3∧vv=SL gR (10+8*a) cR∧tt=VI (5+(a:Int))∧Rr w p f g 87 cp gR (10+8*a) cR wr) (fun _ tt _=>8-(intOf tt).toNat)
 case atStart=>exact ⟨0,_,_,by omega,rfl,by simp,S⟩
 case round=>
 clear S;obtain ⟨a,gR,cR,ha,rfl,rfl,S⟩:=hrel;by_cases hlt:a<3
 ·as_aux_lemma=>
   have hlt':decide ((5+(a:Int))<8)=true:=by simp;omega
   rename World=>wo;go_wp2;go_loopw [21,25] (fun vv ii wr=>∃i gR cR:Nat,i<=8∧vv=SL gR (10+8*a+i) cR∧ii=VI i∧Rr w p f g 87 cp gR (10+8*a+i) cR wr) (fun _ ii _=>8-(intOf ii).toNat)
   case atStart=>exact ⟨0,gR,cR,by omega,rfl,rfl,S⟩
   case round=>
    clear S;obtain ⟨i,gR,cR,hi,rfl,rfl,S⟩:=hrel;by_cases hil:i<8
    ·have hil':decide ((i:Int)<8)=true:=by simp;omega
     go_wp2_with fail;refine (kY.fl S _).mono ?_;clear S;rintro _ _ ⟨x,rfl,hx,S⟩;by_cases hs2:(i:Int)<2
     ·have d2:decide ((i:Int)<2)=true:=by simp;omega
      have hn1:¬(1<(i:Int)):=by omega
      have d1:decide ((i:Int)>1)=false:=by simp;omega
      have d1':decide (1<(i:Int))=false:=by simp;omega
      as_aux_lemma=>
       go_wp2_with fail
       iterate 2 (all_goals ((refine (kY.on S (by omega)).mono ?_;clear S;rintro _ _ ⟨(_ | _),rfl,S⟩) <;> go_wp2_with (first | (at_builtin;refine nX rfl _ _ rfl rfl rfl S Y (by omega) ?_;clear S Y;intro gR cR _ S) | (go_at_call 70;refine (Rr.pte S (by omega)).mono ?_;clear S;rintro _ _ ⟨_,_,rfl,Y,S⟩) | (go_at_call 34;refine (kY.bl S (by omega)).mono ?_;clear S;rintro _ _ ⟨x,rfl,hx,S⟩) | (go_at_call 66;refine (kY.fl S _).mono ?_;clear S;rintro _ _ ⟨x,rfl,hx,S⟩) | (go_at_call 71;refine (kY.pt S (by omega)).mono ?_;clear S;rintro _ _ ⟨x,rfl,hx,S⟩))))
       all_goals go_roundw
       all_goals (try exact ⟨i+1,_,_,by omega,rfl,by go_num,S⟩)
       all_goals (simp [intOf];omega)
     ·have d2:decide ((i:Int)<2)=false:=by simp;omega
      have hn1:1<(i:Int):=by omega
      have d1:decide ((i:Int)>1)=true:=by simp;omega
      have d1':decide (1<(i:Int))=true:=by simp;omega
      as_aux_lemma=>
       go_wp2_with fail
       iterate 2 (all_goals ((refine (kY.on S (by omega)).mono ?_;clear S;rintro _ _ ⟨(_ | _),rfl,S⟩) <;> go_wp2_with (first | (at_builtin;refine nX rfl _ _ rfl rfl rfl S Y (by omega) ?_;clear S Y;intro gR cR _ S) | (go_at_call 70;refine (Rr.pte S (by omega)).mono ?_;clear S;rintro _ _ ⟨_,_,rfl,Y,S⟩) | (go_at_call 34;refine (kY.bl S (by omega)).mono ?_;clear S;rintro _ _ ⟨x,rfl,hx,S⟩) | (go_at_call 66;refine (kY.fl S _).mono ?_;clear S;rintro _ _ ⟨x,rfl,hx,S⟩) | (go_at_call 71;refine (kY.pt S (by omega)).mono ?_;clear S;rintro _ _ ⟨x,rfl,hx,S⟩))))
       all_goals go_roundw
       all_goals (try exact ⟨i+1,_,_,by omega,rfl,by go_num,S⟩)
       all_goals (simp [intOf];omega)
    ·have hi8:i=8:=by omega
     subst hi8;have hil':decide (((8:Nat):Int)<8)=false:=by decide
     go_wp2;go_roundw
     case rel=>exact ⟨a+1,gR,cR,by omega,by rw [show 10+8*(a+1)=10+8*a+8 by omega],by go_num,by rw [show 10+8*(a+1)=10+8*a+8 by omega];exact S⟩
     case measure=>simp [intOf];omega
 have ha3:a=3:=by omega
 subst ha3;clear hlt ha
 as_aux_lemma=>
 go_wp2_with fail;refine (yc p f 28 careful _ S.dw (by omega)).mono ?_;rintro _ _ ⟨gP,nP,cP,hP,rfl,OP⟩;have hc:=OP.cap;obtain ⟨S,hY⟩:=S.prog OP;have Y:=hY 112 (by omega);have hP1:112<=nP:=by omega
 have hP2:112<=cP:=by omega
 clear OP hY;go_wp2_with fail;refine (Rr.run1 S Y (by omega)).mono ?_;clear S Y;rintro _ _ ⟨_,_,rfl,Y,S⟩;go_upto_region 86 with (at_builtin;refine nX rfl _ _ rfl rfl rfl S Y (by omega) ?_;clear S Y;intro gR cR _ S);go_upto_region 87 with (at_builtin;refine ya rfl _ _ rfl rfl rfl (kY.keep S (eL _ _)) (ED _ _ (by omega)) (by omega) ?_;clear S;intro g cp _ S)
 as_aux_lemma=>
 go_wp2;go_loopw [5,29] (fun vv jj wr=>∃j gO nO cO:Nat,j<=35∧vv=SL gO nO cO∧jj=VI j∧(1<=nO∧nO<=200+300*j)∧Rr w p f gO nO cO gR 35 cR wr) (fun _ jj _=>35-(intOf jj).toNat)
 case atStart=>exact ⟨0,_,_,_,by omega,rfl,rfl,by omega,S⟩
 case round=>
 clear S;obtain ⟨j,gO,nO,cO,hj,rfl,rfl,hn,S⟩:=hrel;by_cases hjl:j<35
 ·as_aux_lemma=>
   have hjl':decide ((j:Int)<35)=true:=by simp;omega
   obtain ⟨ge,q,ce,cj,Y,hq,hgR⟩:=S.row hjl;go_wp2_with (at_builtin;refine ya rfl _ _ rfl rfl rfl S Y (by omega) ?_;clear S Y;intro g2 cp2 _ S);go_roundw
   case rel=>exact ⟨j+1,_,_,_,by omega,rfl,by go_num,by omega,S⟩
   case measure=>simp [intOf];omega
 have hj35:j=35:=by omega
 subst hj35;have hjl':decide (((35:Nat):Int)<35)=false:=by decide
 have S2:=S.toS;clear S hjl hj;by_cases hn2:ns<200
 ·as_aux_lemma=>
   obtain ⟨mm,rfl⟩:∃mm:Nat,ns=mm:=⟨ns.toNat,by omega⟩;have hn2d:decide ((mm:Int)<200)=true:=by simp;omega
   go_wp2_with fail;refine (S2.mem (by omega)).mono ?_;clear S2;rintro _ _ ⟨gm,cm,rfl,Y,S⟩;go_wp2_with (at_builtin;refine lT rfl _ _ rfl rfl rfl S Y (by omega) ?_;clear S Y;intro g2 cp2 _ S);go_ret;exact ⟨_,_,_,by omega,rfl,S⟩
 ·as_aux_lemma=>
   have hn2d:decide (ns<200)=false:=by simp;omega
   go_wp2;go_ret;exact ⟨_,_,_,by omega,rfl,S2⟩
def pY:List Int->Int->Int
 | [],h=>h
 | c::r,h=>pY r (bits BinOp.and IntKind.i64 (h*131+c+7) 1073741823)
theorem AV (a:Option Addr) (len cap:Nat) (zs:List Int) (w:World) (h:Byt w a len zs) (hl:len<=1048576):
 Calls Tryz.prog 11 #[.slice a len cap] w fun e w'=>
  e=.returned (PT w.heap.size 0)∧CurN w' w.heap.size (dl zs (pY zs (54321+(len:Int)))) 0∧Below w.heap.size w w':=by
 have HB:Hid (Byt w a len zs):=h;obtain ⟨h1,h2,h3⟩:=h;have HZ:Hid (∀(k:Nat) (hk:k<len) (x:Int),pY (zs.drop k) x=pY (zs.drop (k+1)) (bits BinOp.and IntKind.i64 (x*131+zs[k]?.getD 0+7) 1073741823)):=fun k hk x=>by
  rw [List.drop_eq_getElem_cons (show k<zs.length by omega),pY,geg (show k<zs.length by omega)];rfl
 obtain ⟨X,hX⟩:∃X,pY zs (54321+(len:Int))=X:=⟨_,rfl⟩;have HX:Hid _:=hX;rw [hX];go_enter Tryz.func11,Tryz.ntmps11;go_wp2
 go_loop [3,4] (fun hh i=>∃(x:Int) (k:Nat),k<=len∧(0<=x∧x<=1073741823)∧hh=VI x∧i=VI k∧pY (zs.drop k) x=X) (fun _ i=>len-(intOf i).toNat)
 case atStart=>exact ⟨_,0,Nat.zero_le _,by omega,rfl,rfl,by rw [List.drop_zero];exact HX.out⟩
 case round=>
  obtain ⟨x,k,hk,bx,rfl,rfl,hs⟩:=hrel;have HS:Hid _:=hs;clear hs;by_cases hlt:k<len
  ·rcases h3 with h3 | ⟨b,off,rfl,hbw,hc⟩
   ·omega
   have g1:=hc k hlt;have g4:=h2 k;have HQ:=HZ.out k hlt x;obtain ⟨z,hz⟩:∃z,zs[k]?.getD 0=z:=⟨_,rfl⟩;rw [hz] at g1 g4 HQ;have HN:Hid (pY (zs.drop (k+1)) (bits BinOp.and IntKind.i64 (x*131+z+7) 1073741823)=X):=by
    show _=_;rw [<-HQ,HS.out]
   have bN:=oB (x*131+z+7) 1073741823 (by omega) (by omega);clear hc h2 HQ hz;go_wp2
   go_round
   case rel=>exact ⟨_,k+1,by omega,bN,rfl,by go_num,HN.out⟩
   case measure=>simp [intOf];omega
  ·have HA:Hid (0<len->∀x,a=some x->x.block<w.heap.size):=by
    intro hp y hy;rcases h3 with h3 | ⟨b,off,rfl,hbw,hc⟩
    ·omega
    ·cases hy;exact hbw
   have hx:x=X:=by
    rw [<-HS.out,List.drop_of_length_le (by omega),pY]
   subst hx;clear h2 h3;go_wp2;go_ret;have n1:=(Below.refl w.heap.size w).alloc (Nat.le_refl _) (Obj.cells #[Value.slice a len cap,VI 0,VI x] 106);exact ⟨rfl,⟨a,len,cap,zs,x,rfl,by rw [Nat.zero_min];exact F6 _ _,HB.out.keep n1,HA.out,hl⟩,n1⟩
theorem OwnB.put {e:TypeId} {w:World} {base g n cap:Nat} {zs:List Int} (h:OwnB e w base g n cap zs) (i:Nat) (y:Int):OwnB e (w.setCell (AD g i) (.int .u8 y)) base g n cap (zs.set i y):=by
 unfold OwnB;rw [List.map_set];exact eX h i (.int .u8 y)
theorem CG (a:Option Addr) (len cap:Nat) (code:List Int) (w:World) (hB:Byt w a len code) (hl:len<=1048576):
 Calls Tryz.prog 12 #[.slice a len cap] w fun e w'=>∃(g nn cp:Nat) (zs:List Int),e=.returned (SL g nn cp)∧OwnB 5 w' w.heap.size g nn cp zs∧(∀i:Nat,0<=zs[i]?.getD 0∧zs[i]?.getD 0<=255)∧nn<=20000∧Bw w w':=by
 have CN:=AV a len cap code w hB hl;generalize dl code (pY code (54321+(len:Int)))=f at *;clear hB hl;go_enter Tryz.func12,Tryz.ntmps12;go_wp2_with fail;refine CN.mono ?_;rintro e v1 ⟨rfl,cu,n1⟩;have hp:=cu.lt;have HBd:=hid cu.bd;generalize hpe:w.heap.size=p at *;have HPE:=hid hpe;clear hpe CN;go_wp2_with fail;refine (fp p f 0 25 v1 cu (by omega) (by omega)).mono ?_;rintro e v2 ⟨o,k1, -,rfl,d2⟩;cases o
 ·go_wp2_with fail;refine (Ac p f v2 ⟨d2.1.lt,k1,DrewN.refl d2.1⟩).mono ?_;rintro e v3 ⟨g,nn,cp,hn,rfl,_,k3,zs,S⟩;have D:=d2.trans S.d;go_wp2_with fail;refine (fp p f k3 12 v3 S.d.1 (by omega) (by omega)).mono ?_;rintro e v4 ⟨o2,k4, -,rfl,d4⟩;have s2:=d2.2.size;have hg:=S.o.facts;have o4:=S.o.gb d4.2 (by omega);have hzl:=S.l;have HZb:=hid S.b;replace D:=D.trans d4;have s4:=d4.2.size;clear S d2;cases o2
  ·have oF:=OwnB.low o4 (show p<=v2.heap.size by omega);have nF:Below p w v4:=Below.gb n1 D.2 (Nat.le_refl _) hp;go_wp2;go_ret;exact ⟨g,nn,cp,zs,rfl,by rw [HPE.out];exact oF,HZb.out,hn.2,by unfold Bw;rw [HPE.out];exact nF⟩
  ·go_wp2_with fail;refine (bZ p f k4 nn v4 d4.1 (by omega) (by omega)).mono ?_;rintro e v5 ⟨i,k5, -,hi,rfl,d5⟩;go_wp2_with fail;refine (aY p f k5 v5 d5.1).mono ?_;rintro e v6 ⟨rfl,d6⟩;have by6:=HBd.out k5;have o6:=(o4.gb d5.2 (by omega)).gb d6.2 (by omega);replace D:=(D.trans d5).trans d6;obtain ⟨ii,rfl⟩:∃ii:Nat,i=ii:=⟨i.toNat,by omega⟩;have hii:ii<zs.length:=by omega
   have c6:=il o6 ii _ (show (zs.map (Value.int .u8))[ii]?=some (.int .u8 zs[ii]) by simp [geg hii]);have r6:=iy o6 ii;have l6:=o6.facts.2.2.1;have oN:=o6.put ii (f k5);have gS:=hZ (aM v6 (some g)) ii (.int .u8 (f k5));have nF:Below p w v6:=Below.gb n1 D.2 (Nat.le_refl _) hp;have nG:Below p w (v6.setCell (AD g ii) (.int .u8 (f k5))):=Below.gb nF gS (by omega) l6;have HOF:=hid (OwnB.low oN (show p<=v2.heap.size by omega));have HBF:Hid (∀j:Nat,0<=(zs.set ii (f k5))[j]?.getD 0∧(zs.set ii (f k5))[j]?.getD 0<=255):=ax fun y hy=>by
    rcases List.mem_or_eq_of_mem_set hy with h | h
    ·exact aK HZb.out y h
    ·rw [h];exact by6
   clear oN o6 o4;generalize f k5=fy at *;generalize zs[ii]=zo at c6;go_wp2;go_ret;exact ⟨g,nn,cp,_,rfl,by rw [HPE.out];exact HOF.out,HBF.out,hn.2,by unfold Bw;rw [HPE.out];exact nG⟩
 ·go_wp2_with fail;refine (bZ p f k1 200 v2 d2.1 (by omega) (by omega)).mono ?_;rintro e v3 ⟨n,k3, -,hn,rfl,d3⟩;obtain ⟨nn,rfl⟩:∃nn:Nat,n=nn:=⟨n.toNat,by omega⟩;have D:=d2.trans d3;go_wp2_with fail;refine (fQ p f k3 nn v3 d3.1 (by omega)).mono ?_;rintro e v4 ⟨g,cp,rfl,o4,d4⟩;replace D:=D.trans d4;have s3:v1.heap.size<=v3.heap.size:=(d2.trans d3).2.size;have oF:=OwnB.low o4 (show p<=v3.heap.size by omega);have nF:Below p w v4:=Below.gb n1 D.2 (Nat.le_refl _) hp;have bF:∀j:Nat,0<=(dm f nn k3).1[j]?.getD 0∧(dm f nn k3).1[j]?.getD 0<=255:=by
   refine ax fun y hy=>?_;simp only [dm,List.mem_map] at hy;obtain ⟨j,_,rfl⟩:=hy;exact HBd.out _
  clear o4;go_wp2;go_ret;exact ⟨g,nn,cp,_,rfl,by rw [HPE.out];exact oF,bF,by omega,by unfold Bw;rw [HPE.out];exact nF⟩
theorem Bt (a:Option Addr) (len cap:Nat) (code:List Int) (w:World) (hB:Byt w a len code) (hl:len<=1048576):
 Calls Tryz.prog 4 #[.slice a len cap] w fun e w'=>∃(g nn cp:Nat) (zs:List Int) (plain:Bool),e=.returned (.tuple #[SL g nn cp,.bool plain])∧Byt w' (some (AD g 0)) nn zs∧nn<=20000∧nn<=cp∧Bw w w':=by
 have CN:=AV a len cap code w hB hl;have CD:=hid fun (u:World) (hu:Bw w u)=>CG a len cap code u (hB.keep hu) hl;generalize dl code (pY code (54321+(len:Int)))=f at *;clear hB hl;go_enter Tryz.func4,Tryz.ntmps4;go_wp2_with fail;refine CN.mono ?_;rintro e v1 ⟨rfl,cu,n1⟩;have hp:=cu.lt;go_wp2_with fail;refine (CD.out v1 n1).mono ?_;rintro e v2 ⟨g,nn,cp,zs,rfl,o2,b2,hn,n2⟩;have cu2:=cu.below n2 hp;have hf:=o2.facts;go_wp2_with fail;refine (fp w.heap.size f 0 3 v2 cu2 (by omega) (by omega)).mono ?_;rintro e v3 ⟨o,k1, -,rfl,d3⟩;have o3:=o2.gb d3.2 (by omega);have nF:Bw w v3:=Below.gb (bst n1 n2) d3.2 (Nat.le_refl _) (by omega);have hc:=o3.facts.2.2.2.1;go_wp2_with fail;exact bodyPost_ret (v:=.tuple #[SL g nn cp,.bool o]) (by simp [results,Tryz.results4,go_sem]) rfl ⟨g,nn,cp,zs,o,rfl,o3.byt b2,hn,hc,nF⟩
end Go.Proofs.YtjdmhibnhpdjaaaGreat
