import Derived.Test.YtkenjknmfhoppaaGreatSk25
namespace Go.Proofs.YtkenjknmfhoppaaGreat
open Go.RowKit
set_option linter.unusedVariables false
set_option maxHeartbeats 6400000
set_option maxRecDepth 20000
section
variable (f:Nat->Int)
def s16 (n:Int):DP:=if n<200 then dr (nU f n.toNat) fun ys=>pu ys en else en
def s15 (ca:Bool) (n:Int):DP:=dr (pgX f 28 ca) fun pz=>ro (kc 512 (pz.take 112)) (pu [35] (ct 0 (s16 f n)))
def clA (us:Bool) (al t i:Int) (K:DP):DP:=dr (fS f us) fun _=>dr (eu f 4) fun _=>dr (eu f 14) fun _=>ro (kK t i ((8+i)*1024+(al+8))) K
def clQ (t i x pg:Int) (K:DP):DP:=dr (eu f 14) fun o=>cd o (dr (bT f 9) fun d=>ro (kK t i ((60+d)*1024+x)) K) (ro (kK t i (pg*1024+x)) K)
def clB (us:Bool) (t i:Int) (K:DP):DP:=dr (fS f us) fun x=>dr (eu f 4) fun o=>cd o (dr (bT f 8) fun d=>clQ f t i x (8+d) K) (clQ f t i x (8+i) K)
def rwP (us:Bool) (al t:Int) (K:DP):Nat->DP
 | 0=>K
 | m+1=>if 8-((m+1:Nat):Int)<2 then clA f us al t (8-((m+1:Nat):Int)) (rwP us al t K m) else clB f us t (8-((m+1:Nat):Int)) (rwP us al t K m)
def grP (us:Bool) (al:Int) (K:DP):Nat->DP
 | 0=>K
 | m+1=>rwP f us al (8-((m+1:Nat):Int)) (grP us al K m) 8
def s14 (us ca:Bool) (n al:Int):DP:=dr (vl f 3) fun q=>ro (kK 1 0 q) <| ro (kK 1 1 al) <| dr (bT f 2) fun b=>dr (vl f (3+b)) fun q=>ro (kK 2 0 q) <| ro (kK 2 1 al) <| dr (vl f 5) fun q=>ro (kK 3 0 q) <| dr (fS f us) fun q=>ro (kK 3 1 (16384+q)) <| dr (vl f 6) fun q=>ro (kK 3 2 q) <| dr (bT f 2) fun b=>dr (vl f (5+2*b)) fun q=>ro (kK 4 0 q) <| dr (fS f us) fun q=>ro (kK 4 1 (24576+q)) <| grP f us al (s15 f ca n) 3
def s13 (us ca:Bool) (n:Int) (hh:List Int):DP:=ro (kc 0 hh) (s14 f us ca n (cd us 215 199))
def s12 (us ca:Bool) (n:Int):DP:=nw <| dr (eu f 6) fun o=>s13 f us ca n (cd o (gW 11 0 0 0 0++gW 12 0 0 0 1) (gW 12 0 0 0 1))
def s11 (us ca:Bool) (n sp a lf:Int):DP:=dr (bT f 16) fun o=>pu (cL (64*(2+a)+16) 8) <| pu (cL 4416 8) <| pu (cL lf 8) <| dr (bT f 2) fun d=>pu (cL (rR (1+d) 2) 8) <| pu (cL sp 8) <| pu (cL (512+64*o+8) 8) <| dr (bT f 3) fun s=>pu (cL s 8) (s12 f us ca n)
def s10 (us ca:Bool) (n sp:Int):DP:=pu (cL sp 8) <| dr (bT f 4) fun a=>dr (bT f 8) fun b=>dr (fS f us) fun x=>dr (eu f 8) fun o=>cd o (dr (ve f) fun y=>s11 f us ca n sp a y) (s11 f us ca n sp a ((8+b)*1024+x))
def s9 (us ca:Bool) (n pc:Int):DP:=pu (cL pc 8) <| pu (cL 0 8) <| dr (bT f 2) fun a=>dr (eu f 30) fun o=>cd o (dr (bT f 16) fun x=>s10 f us ca n (x*1152921504606846976)) (s10 f us ca n (rR (1+a) 1))
def s8 (us ca:Bool) (n:Int):DP:=pu (cL n 2) <| dr (eu f 20) fun o=>cd o (dr (vaX f) fun x=>s9 f us ca n x) (s9 f us ca n 0)
def s7 (us ca:Bool) (n:Int):DP:=dr (eu f 60) fun o=>cd o (dr (bT f 3) fun x=>s8 f us ca (19999+x)) (s8 f us ca n)
def s6 (us ca:Bool):DP:=dr (bT f 70) fun a=>dr (eu f 12) fun o=>cd o (dr (bT f 3) fun x=>s7 f us ca x) (s7 f us ca (15+a))
def s5 (us ca:Bool) (pg m:Int):DP:=dr (bT f 4) fun l=>pu [pg,m+4*l] (s6 f us ca)
def s4 (us ca:Bool) (pg m:Int):DP:=dr (eu f 25) fun o=>s5 f us ca pg (cd o 2 m)
def s3 (us ca:Bool) (pg:Int):DP:=s4 f us ca pg (cd us 0 1)
def s2 (us ca:Bool):DP:=dr (eu f 8) fun o=>cd o (dr (bT f 40) fun d=>s3 f us ca (14+d)) (s3 f us ca 63)
def geP (K:DP):Nat->DP
 | 0=>K
 | m+1=>dr (bT f 16) fun y=>dr (eu f 3) fun o=>pu [cd o (y%2) y] (geP K m)
def s0:DP:=dr (eu f 4) fun us=>dr (bT f 3) fun c=>geP f (s2 f us (decide (0<c))) 3
end
def Gr (w:World) (p:Nat) (f:Nat->Int) (T:List Int × Nat) (e:Ending) (w':World):Prop:=∃g nn cp,(1<=nn∧nn<=20000)∧e=.returned (SL g nn cp)∧Sg w p f T g nn cp en w'
theorem Rg.prg {w v:World} {p:Nat} {f:Nat->Int} {g n cp gR m cR:Nat} {T:List Int × Nat} {ca:Bool} {ns:Int} (s:Rg w p f T g n cp gR m cR (s15 f ca ns) v):
 ∃k,Dg v p f (pgX f 28 ca k) (pgL f ca 28 (4*28)) v∧∀gi l c v2,Sg v p f (pgX f 28 ca k) gi l c en v2->∃ys,Rg w p f T g n cp gR m cR (ro (kc 512 (List.take 112 ys)) (pu [35] (ct 0 (s16 f ns)))) v2∧∀q,q<=l->By v2 gi q (ys.take q):=by
 unfold s15 at s;obtain ⟨k,h1,h2⟩:=s.prog (v2:=v);exact ⟨k,⟨h1.lt,k,DrewN.refl h1,by rw [pgX]⟩,fun gi l c v2 h=>h2 _ gi l c v2 rfl h⟩
theorem zw (p:Nat) (f:Nat->Int) (T:List Int × Nat) (w:World) (h:Dg w p f T (s0 f) w):Calls Tryz.prog 67 #[PT p 0] w (Gr w p f T):=by
 have D:=h;clear h;go_enter Tryz.func67,Tryz.ntmps67;go_wp2_with fail;refine (Fa.on D (by omega)).mono ?_;clear D;rintro _ _ ⟨us,rfl,D⟩;go_wp2_with fail;refine (Fa.bl D (by omega)).mono ?_;clear D;rintro _ v2 ⟨c0,rfl,hc0,D⟩;have S:=D.new;clear D;obtain ⟨careful,hcar⟩:∃b,decide (0<c0)=b:=⟨_,rfl⟩;rw [hcar] at S;go_wp2_with fail;clear hcar hc0;generalize v2.alloc (Obj.cells #[] 5)=wz at S |-;generalize v2.heap.size=gz at S |-;go_loopw [5,6] (fun vv jj wr=>∃g cp j m:Nat,j+m=3∧vv=SL g j cp∧jj=VI j∧Sg w p f T g j cp (geP f (s2 f us careful) m) wr) (fun _ jj _=>3-(intOf jj).toNat)
 case atStart=>exact ⟨_,_,0,3,rfl,rfl,rfl,S⟩
 case round=>
 clear S;obtain ⟨g,cp,j,m,hj,rfl,rfl,S⟩:=hrel;by_cases hlt:j<3
 ·obtain ⟨m,rfl⟩:∃q,m=q+1:=⟨m-1,by omega⟩
  as_aux_lemma=>
   go_wp2_with fail;refine (bE.bl S (by omega)).mono ?_;clear S;rintro _ _ ⟨y,rfl,hy,S⟩;go_wp2_with fail;refine (bE.on S (by omega)).mono ?_;clear S;rintro _ _ ⟨(_ | _),rfl,S⟩;all_goals
    go_wp2_with (at_builtin;refine iz rfl _ _ rfl rfl rfl (bE.keep S (kG _ _)) (EZ _ _ (by omega)) rfl (by omega) ?_;clear S;intro _ _ _ S);go_roundw
    case rel=>exact ⟨_,_,j+1,m,by omega,rfl,by go_num,S⟩
    case measure=>simp [intOf];omega
 obtain ⟨rfl,rfl⟩:j=3∧m=0:=by omega
 rw [geP] at S;clear hlt hj
 as_aux_lemma=>
 go_upto_if 52 with (first | fail | (go_at_call 65;refine (bE.bl S (by omega)).mono ?_;clear S;rintro _ _ ⟨x,rfl,hx,S⟩) | (go_at_call 64;refine (bE.on S (by omega)).mono ?_;clear S;rintro _ _ ⟨ob,rfl,S⟩));go_cut [8] from 53 to 55 (fun s wx=>∃x:Int,s=VI x∧(0<=x∧x<=255)∧Sg w p f T g 3 cp (s3 f us careful x) wx)
 case first=>cases ob <;> (go_wp2_with (first | fail | (go_at_call 65;refine (bE.bl S (by omega)).mono ?_;clear S;rintro _ _ ⟨x,rfl,hx,S⟩) | (go_at_call 64;refine (bE.on S (by omega)).mono ?_;clear S;rintro _ _ ⟨ob,rfl,S⟩) | (go_at_call 98;refine (bE.va S).mono ?_;clear S;rintro _ _ ⟨x,rfl,hx,S⟩) | (go_at_call 101;refine (bE.an S).mono ?_;clear S;rintro _ _ ⟨x,rfl,hx,S⟩) | (go_at_call 84;refine (bj 60 1152921504606846976 _ (by omega) (by decide)).mono ?_;rintro _ _ ⟨rfl,rfl⟩));go_meet;case rel=>exact ⟨_,rfl,by omega,S⟩)
 case rest=>
 clear S;obtain ⟨pages,rfl,bpages,S⟩:=hcut;go_upto_if 56 with (first | fail | (go_at_call 65;refine (bE.bl S (by omega)).mono ?_;clear S;rintro _ _ ⟨x,rfl,hx,S⟩) | (go_at_call 64;refine (bE.on S (by omega)).mono ?_;clear S;rintro _ _ ⟨ob,rfl,S⟩));go_cut [9] from 56 to 56 (fun s wx=>∃x:Int,s=VI x∧(0<=x∧x<=1)∧Sg w p f T g 3 cp (s4 f us careful pages x) wx)
 case first=>cases us <;> (go_wp2_with (first | fail | (go_at_call 65;refine (bE.bl S (by omega)).mono ?_;clear S;rintro _ _ ⟨x,rfl,hx,S⟩) | (go_at_call 64;refine (bE.on S (by omega)).mono ?_;clear S;rintro _ _ ⟨ob,rfl,S⟩) | (go_at_call 98;refine (bE.va S).mono ?_;clear S;rintro _ _ ⟨x,rfl,hx,S⟩) | (go_at_call 101;refine (bE.an S).mono ?_;clear S;rintro _ _ ⟨x,rfl,hx,S⟩) | (go_at_call 84;refine (bj 60 1152921504606846976 _ (by omega) (by decide)).mono ?_;rintro _ _ ⟨rfl,rfl⟩));go_meet;case rel=>exact ⟨_,rfl,by omega,S⟩)
 case rest=>
 clear S;obtain ⟨m0,rfl,bm0,S⟩:=hcut;go_upto_if 58 with (first | fail | (go_at_call 65;refine (bE.bl S (by omega)).mono ?_;clear S;rintro _ _ ⟨x,rfl,hx,S⟩) | (go_at_call 64;refine (bE.on S (by omega)).mono ?_;clear S;rintro _ _ ⟨ob,rfl,S⟩));go_cut [9] from 58 to 58 (fun s wx=>∃x:Int,s=VI x∧(0<=x∧x<=2)∧Sg w p f T g 3 cp (s5 f us careful pages x) wx)
 case first=>cases ob <;> (go_wp2_with (first | fail | (go_at_call 65;refine (bE.bl S (by omega)).mono ?_;clear S;rintro _ _ ⟨x,rfl,hx,S⟩) | (go_at_call 64;refine (bE.on S (by omega)).mono ?_;clear S;rintro _ _ ⟨ob,rfl,S⟩) | (go_at_call 98;refine (bE.va S).mono ?_;clear S;rintro _ _ ⟨x,rfl,hx,S⟩) | (go_at_call 101;refine (bE.an S).mono ?_;clear S;rintro _ _ ⟨x,rfl,hx,S⟩) | (go_at_call 84;refine (bj 60 1152921504606846976 _ (by omega) (by decide)).mono ?_;rintro _ _ ⟨rfl,rfl⟩));go_meet;case rel=>exact ⟨_,rfl,by omega,S⟩)
 case rest=>
 clear S;obtain ⟨mode,rfl,bmode,S⟩:=hcut;go_wp2_with fail;refine (bE.bl S (by omega)).mono ?_;clear S;rintro _ _ ⟨fl,rfl,hfl,S⟩;obtain ⟨z,hz⟩:∃z,mode+4*fl=z:=⟨_,rfl⟩;rw [hz] at S;have bz:0<=z∧z<=255:=by omega
 go_upto_region 21 with (at_builtin;refine iz rfl _ _ rfl rfl rfl (bE.keep S (kG _ _)) (Gi _ _ _ ⟨bpages,bz⟩) rfl (by omega) ?_;clear S;intro g cp _ S);clear hz
 as_aux_lemma=>
 go_upto_if 75 with (first | fail | (go_at_call 65;refine (bE.bl S (by omega)).mono ?_;clear S;rintro _ _ ⟨x,rfl,hx,S⟩) | (go_at_call 64;refine (bE.on S (by omega)).mono ?_;clear S;rintro _ _ ⟨ob,rfl,S⟩));go_cut [11] from 76 to 77 (fun s wx=>∃x:Int,s=VI x∧(0<=x∧x<=84)∧Sg w p f T g 5 cp (s7 f us careful x) wx)
 case first=>cases ob <;> (go_wp2_with (first | fail | (go_at_call 65;refine (bE.bl S (by omega)).mono ?_;clear S;rintro _ _ ⟨x,rfl,hx,S⟩) | (go_at_call 64;refine (bE.on S (by omega)).mono ?_;clear S;rintro _ _ ⟨ob,rfl,S⟩) | (go_at_call 98;refine (bE.va S).mono ?_;clear S;rintro _ _ ⟨x,rfl,hx,S⟩) | (go_at_call 101;refine (bE.an S).mono ?_;clear S;rintro _ _ ⟨x,rfl,hx,S⟩) | (go_at_call 84;refine (bj 60 1152921504606846976 _ (by omega) (by decide)).mono ?_;rintro _ _ ⟨rfl,rfl⟩));go_meet;case rel=>exact ⟨_,rfl,by omega,S⟩)
 case rest=>
 clear S;obtain ⟨n1,rfl,bn1,S⟩:=hcut;go_upto_if 79 with (first | fail | (go_at_call 65;refine (bE.bl S (by omega)).mono ?_;clear S;rintro _ _ ⟨x,rfl,hx,S⟩) | (go_at_call 64;refine (bE.on S (by omega)).mono ?_;clear S;rintro _ _ ⟨ob,rfl,S⟩));go_cut [11] from 80 to 82 (fun s wx=>∃x:Int,s=VI x∧(0<=x∧x<=20001)∧Sg w p f T g 5 cp (s8 f us careful x) wx)
 case first=>cases ob <;> (go_wp2_with (first | fail | (go_at_call 65;refine (bE.bl S (by omega)).mono ?_;clear S;rintro _ _ ⟨x,rfl,hx,S⟩) | (go_at_call 64;refine (bE.on S (by omega)).mono ?_;clear S;rintro _ _ ⟨ob,rfl,S⟩) | (go_at_call 98;refine (bE.va S).mono ?_;clear S;rintro _ _ ⟨x,rfl,hx,S⟩) | (go_at_call 101;refine (bE.an S).mono ?_;clear S;rintro _ _ ⟨x,rfl,hx,S⟩) | (go_at_call 84;refine (bj 60 1152921504606846976 _ (by omega) (by decide)).mono ?_;rintro _ _ ⟨rfl,rfl⟩));go_meet;case rel=>exact ⟨_,rfl,by omega,S⟩)
 case rest=>
 clear S;obtain ⟨ns,rfl,bns,S⟩:=hcut
 as_aux_lemma=>
 go_upto_if 89 with (first | (at_builtin;refine iz rfl _ _ rfl rfl rfl S Y rfl (by omega) ?_;clear S Y;intro g cp _ S) | (go_at_call 65;refine (bE.bl S (by omega)).mono ?_;clear S;rintro _ _ ⟨x,rfl,hx,S⟩) | (go_at_call 64;refine (bE.on S (by omega)).mono ?_;clear S;rintro _ _ ⟨ob,rfl,S⟩) | (go_at_call 97;refine (bE.bt S 2 (by omega)).mono ?_;clear S;rintro _ _ ⟨_,_,rfl,Y,S⟩) | (go_at_call 100;refine (bE.fl _ S).mono ?_;clear S;rintro _ _ ⟨x,rfl,hx,S⟩) | (go_at_call 98;refine (bE.va S).mono ?_;clear S;rintro _ _ ⟨x,rfl,hx,S⟩) | (go_at_call 101;refine (bE.an S).mono ?_;clear S;rintro _ _ ⟨x,rfl,hx,S⟩) | (go_at_call 99;refine (wB (by omega)).mono ?_;rintro _ _ ⟨rfl,hx,rfl⟩) | (go_at_call 84;refine (bj 60 1152921504606846976 _ (by omega) (by decide)).mono ?_;rintro _ _ ⟨rfl,rfl⟩));go_cut [12] from 90 to 91 (fun s wx=>∃x:Int,s=VU x∧(0<=x∧x<=18446744073709551615)∧Sg w p f T g 7 cp (s9 f us careful ns x) wx)
 case first=>cases ob <;> (go_wp2_with (first | fail | (go_at_call 65;refine (bE.bl S (by omega)).mono ?_;clear S;rintro _ _ ⟨x,rfl,hx,S⟩) | (go_at_call 64;refine (bE.on S (by omega)).mono ?_;clear S;rintro _ _ ⟨ob,rfl,S⟩) | (go_at_call 98;refine (bE.va S).mono ?_;clear S;rintro _ _ ⟨x,rfl,hx,S⟩) | (go_at_call 101;refine (bE.an S).mono ?_;clear S;rintro _ _ ⟨x,rfl,hx,S⟩) | (go_at_call 84;refine (bj 60 1152921504606846976 _ (by omega) (by decide)).mono ?_;rintro _ _ ⟨rfl,rfl⟩));go_meet;case rel=>exact ⟨_,rfl,by omega,S⟩)
 case rest=>
 clear S;obtain ⟨pcv,rfl,bpcv,S⟩:=hcut
 as_aux_lemma=>
 go_upto_if 105 with (first | (at_builtin;refine iz rfl _ _ rfl rfl rfl S Y rfl (by omega) ?_;clear S Y;intro g cp _ S) | (go_at_call 65;refine (bE.bl S (by omega)).mono ?_;clear S;rintro _ _ ⟨x,rfl,hx,S⟩) | (go_at_call 64;refine (bE.on S (by omega)).mono ?_;clear S;rintro _ _ ⟨ob,rfl,S⟩) | (go_at_call 97;refine (bE.bt S 8 (by omega)).mono ?_;clear S;rintro _ _ ⟨_,_,rfl,Y,S⟩) | (go_at_call 100;refine (bE.fl _ S).mono ?_;clear S;rintro _ _ ⟨x,rfl,hx,S⟩) | (go_at_call 98;refine (bE.va S).mono ?_;clear S;rintro _ _ ⟨x,rfl,hx,S⟩) | (go_at_call 101;refine (bE.an S).mono ?_;clear S;rintro _ _ ⟨x,rfl,hx,S⟩) | (go_at_call 99;refine (wB (by omega)).mono ?_;rintro _ _ ⟨rfl,hx,rfl⟩) | (go_at_call 84;refine (bj 60 1152921504606846976 _ (by omega) (by decide)).mono ?_;rintro _ _ ⟨rfl,rfl⟩));go_cut [14] from 106 to 110 (fun s wx=>∃x:Int,s=VU x∧(0<=x∧x<=18446744073709551615)∧Sg w p f T g 23 cp (s10 f us careful ns x) wx)
 case first=>cases ob <;> (go_wp2_with (first | fail | (go_at_call 65;refine (bE.bl S (by omega)).mono ?_;clear S;rintro _ _ ⟨x,rfl,hx,S⟩) | (go_at_call 64;refine (bE.on S (by omega)).mono ?_;clear S;rintro _ _ ⟨ob,rfl,S⟩) | (go_at_call 98;refine (bE.va S).mono ?_;clear S;rintro _ _ ⟨x,rfl,hx,S⟩) | (go_at_call 101;refine (bE.an S).mono ?_;clear S;rintro _ _ ⟨x,rfl,hx,S⟩) | (go_at_call 84;refine (bj 60 1152921504606846976 _ (by omega) (by decide)).mono ?_;rintro _ _ ⟨rfl,rfl⟩));go_meet;case rel=>exact ⟨_,rfl,by omega,S⟩)
 case rest=>
 clear S;obtain ⟨sp,rfl,bsp,S⟩:=hcut
 as_aux_lemma=>
 go_upto_if 132 with (first | (at_builtin;refine iz rfl _ _ rfl rfl rfl S Y rfl (by omega) ?_;clear S Y;intro g cp _ S) | (go_at_call 65;refine (bE.bl S (by omega)).mono ?_;clear S;first | (have dQ:=dA;clear dQ;rintro _ _ ⟨x,rfl,hx,S⟩) | rintro _ _ ⟨dA,rfl,hdA,S⟩) | (go_at_call 64;refine (bE.on S (by omega)).mono ?_;clear S;rintro _ _ ⟨ob,rfl,S⟩) | (go_at_call 97;refine (bE.bt S 8 (by omega)).mono ?_;clear S;rintro _ _ ⟨_,_,rfl,Y,S⟩) | (go_at_call 100;refine (bE.fl _ S).mono ?_;clear S;rintro _ _ ⟨x,rfl,hx,S⟩) | (go_at_call 98;refine (bE.va S).mono ?_;clear S;rintro _ _ ⟨x,rfl,hx,S⟩) | (go_at_call 101;refine (bE.an S).mono ?_;clear S;rintro _ _ ⟨x,rfl,hx,S⟩) | (go_at_call 99;refine (wB (by omega)).mono ?_;rintro _ _ ⟨rfl,hx,rfl⟩) | (go_at_call 84;refine (bj 60 1152921504606846976 _ (by omega) (by decide)).mono ?_;rintro _ _ ⟨rfl,rfl⟩));go_cut [18] from 133 to 134 (fun s wx=>∃x:Int,s=VU x∧(0<=x∧x<=18446744073709551615)∧Sg w p f T g 31 cp (s11 f us careful ns sp dA x) wx)
 case first=>cases ob <;> (go_wp2_with (first | fail | (go_at_call 65;refine (bE.bl S (by omega)).mono ?_;clear S;rintro _ _ ⟨x,rfl,hx,S⟩) | (go_at_call 64;refine (bE.on S (by omega)).mono ?_;clear S;rintro _ _ ⟨ob,rfl,S⟩) | (go_at_call 98;refine (bE.va S).mono ?_;clear S;rintro _ _ ⟨x,rfl,hx,S⟩) | (go_at_call 101;refine (bE.an S).mono ?_;clear S;rintro _ _ ⟨x,rfl,hx,S⟩) | (go_at_call 84;refine (bj 60 1152921504606846976 _ (by omega) (by decide)).mono ?_;rintro _ _ ⟨rfl,rfl⟩));go_meet;case rel=>exact ⟨_,rfl,by omega,S⟩)
 case rest=>
 clear S;obtain ⟨lf,rfl,blf,S⟩:=hcut
 as_aux_lemma=>
 go_upto_region 52 with (first | (at_builtin;refine iz rfl _ _ rfl rfl rfl S Y rfl (by omega) ?_;clear S Y;intro g cp _ S) | (go_at_call 65;refine (bE.bl S (by omega)).mono ?_;clear S;rintro _ _ ⟨x,rfl,hx,S⟩) | (go_at_call 64;refine (bE.on S (by omega)).mono ?_;clear S;rintro _ _ ⟨ob,rfl,S⟩) | (go_at_call 97;refine (bE.bt S 8 (by omega)).mono ?_;clear S;rintro _ _ ⟨_,_,rfl,Y,S⟩) | (go_at_call 100;refine (bE.fl _ S).mono ?_;clear S;rintro _ _ ⟨x,rfl,hx,S⟩) | (go_at_call 98;refine (bE.va S).mono ?_;clear S;rintro _ _ ⟨x,rfl,hx,S⟩) | (go_at_call 101;refine (bE.an S).mono ?_;clear S;rintro _ _ ⟨x,rfl,hx,S⟩) | (go_at_call 99;refine (wB (by omega)).mono ?_;rintro _ _ ⟨rfl,hx,rfl⟩) | (go_at_call 84;refine (bj 60 1152921504606846976 _ (by omega) (by decide)).mono ?_;rintro _ _ ⟨rfl,rfl⟩));rename World=>v5;have R:=S.new;clear S;go_upto_region 53 with fail;generalize v5.alloc (Obj.cells #[] 22)=wR at R |-;generalize v5.heap.size=gR at R |-
 as_aux_lemma=>
 go_wp2_with fail;refine (Rg.ins R (by omega)).mono ?_;clear R;rintro _ _ ⟨gh,rfl,S⟩;go_wp2_with fail;refine (Gj.on S (by omega)).mono ?_;clear S;rintro _ v6 ⟨ob,rfl,S,O⟩;go_upto_if 178 with fail;go_cut [22] from 179 to 181 (fun s wx=>∃gh nh ch hh,s=SL gh nh ch∧nh<=8∧By wx gh nh hh∧Rg w p f T g 87 cp gR 0 0 (s13 f us careful ns hh) wx)
 case first=>
  cases ob
  ·go_wp2;go_meet
   case rel=>exact ⟨gh,4,4,_,rfl,by omega,O.byv,S⟩
  ·go_wp2_with fail;refine (rS 11 0 0 0 0 _ (by omega) (by omega) (by omega) (by omega)).mono ?_;rintro _ vi ⟨gi,rfl,oi,ni⟩;obtain ⟨oh,bh⟩:=O;have yh:=(oh.keep ni oh.facts.2.2.1).byt bh;have hl:=oh.facts;go_wp2_with (at_builtin;refine fk _ rfl _ _ 22 rfl 5 Tryz.underlying22 Tryz.infoB v6.heap.size gi 4 4 _ rfl oi gh 0 4 4 _ rfl yh (by omega) v6.heap.size v6 ni (Nat.le_refl _) ?_;intro g4 cp4 x4 o4 n4);go_meet
   case rel=>exact ⟨g4,8,cp4,_,rfl,by omega,o4.byt (Fu (we (by omega) (by omega) (by omega) (by omega)) bh),fL.keep S n4⟩
 case rest=>
 clear S O;obtain ⟨gh,nh,ch,hh,rfl,hnh,Y,S⟩:=hcut
 as_aux_lemma=>
 go_wp2_with fail;refine (Rg.run1 S Y (by omega)).mono ?_;clear S Y;rintro _ _ ⟨_,_,rfl,Y,S⟩;go_upto_if 187 with (at_builtin;refine kH rfl _ _ rfl rfl rfl S Y rfl (by omega) ?_;clear S Y;intro gR cR _ S);go_cut [23] from 188 to 189 (fun s wx=>∃x:Int,s=VU x∧(199<=x∧x<=215)∧Rg w p f T g 87 cp gR 1 cR (s14 f us careful ns x) wx)
 case first=>cases us <;> (go_wp2_with fail;go_meet;case rel=>exact ⟨_,rfl,by omega,S⟩)
 case rest=>
 clear S;obtain ⟨al,rfl,bal,S⟩:=hcut
 as_aux_lemma=>
 go_upto_region 65 with (first | (at_builtin;refine kH rfl _ _ rfl rfl rfl S Y rfl (by omega) ?_;clear S Y;intro gR cR _ S) | (go_at_call 104;refine (Rg.pte S (by omega)).mono ?_;clear S;rintro _ _ ⟨_,_,rfl,Y,S⟩) | (go_at_call 65;refine (fL.bl S (by omega)).mono ?_;clear S;rintro _ _ ⟨x,rfl,hx,S⟩) | (go_at_call 100;refine (fL.fl _ S).mono ?_;clear S;rintro _ _ ⟨x,rfl,hx,S⟩) | (go_at_call 105;refine (fL.pt S (by omega)).mono ?_;clear S;rintro _ _ ⟨x,rfl,hx,S⟩))
 as_aux_lemma=>
 go_wp2_with (first | (at_builtin;refine kH rfl _ _ rfl rfl rfl S Y rfl (by omega) ?_;clear S Y;intro gR cR _ S) | (go_at_call 104;refine (Rg.pte S (by omega)).mono ?_;clear S;rintro _ _ ⟨_,_,rfl,Y,S⟩) | (go_at_call 65;refine (fL.bl S (by omega)).mono ?_;clear S;rintro _ _ ⟨x,rfl,hx,S⟩) | (go_at_call 100;refine (fL.fl _ S).mono ?_;clear S;rintro _ _ ⟨x,rfl,hx,S⟩) | (go_at_call 105;refine (fL.pt S (by omega)).mono ?_;clear S;rintro _ _ ⟨x,rfl,hx,S⟩));go_loopw [21,24] (fun vv tt wr=>∃a gR cR m:Nat,a+m=3∧vv=SL gR (10+8*a) cR∧tt=VI (5+(a:Int))∧Rg w p f T g 87 cp gR (10+8*a) cR (grP f us al (s15 f careful ns) m) wr) (fun _ tt _=>8-(intOf tt).toNat)
 case atStart=>exact ⟨0,_,_,3,by omega,rfl,by simp,S⟩
 case round=>
 clear S;obtain ⟨a,gR,cR,m,ha,rfl,rfl,S⟩:=hrel;by_cases hlt:a<3
 ·obtain ⟨m,rfl⟩:∃q,m=q+1:=⟨m-1,by omega⟩;rw [grP,show 8-((m+1:Nat):Int)=5+(a:Int) by omega] at S
  as_aux_lemma=>
   have hlt':decide ((5+(a:Int))<8)=true:=by simp;omega
   rename World=>wo;go_wp2;go_loopw [21,25] (fun vv ii wr=>∃i gR cR q:Nat,i+q=8∧vv=SL gR (10+8*a+i) cR∧ii=VI i∧Rg w p f T g 87 cp gR (10+8*a+i) cR (rwP f us al (5+(a:Int)) (grP f us al (s15 f careful ns) m) q) wr) (fun _ ii _=>8-(intOf ii).toNat)
   case atStart=>exact ⟨0,gR,cR,8,by omega,rfl,rfl,S⟩
   case round=>
    clear S;obtain ⟨i,gR,cR,q,hi,rfl,rfl,S⟩:=hrel;by_cases hil:i<8
    ·have hil':decide ((i:Int)<8)=true:=by simp;omega
     obtain ⟨q,rfl⟩:∃r,q=r+1:=⟨q-1,by omega⟩;rw [rwP,show 8-((q+1:Nat):Int)=(i:Int) by omega] at S;by_cases hs2:(i:Int)<2
     ·rw [if_pos hs2] at S;have d2:decide ((i:Int)<2)=true:=by simp;omega
      have hn1:¬(1<(i:Int)):=by omega
      have d1:decide ((i:Int)>1)=false:=by simp;omega
      have d1':decide (1<(i:Int))=false:=by simp;omega
      as_aux_lemma=>
       go_wp2_with fail;refine (fL.fl _ S).mono ?_;clear S;rintro _ _ ⟨x,rfl,hx,S⟩;go_wp2_with fail
       iterate 2 (all_goals ((refine (fL.on S (by omega)).mono ?_;clear S;rintro _ _ ⟨(_ | _),rfl,S⟩) <;> go_wp2_with (first | (at_builtin;refine kH rfl _ _ rfl rfl rfl S Y rfl (by omega) ?_;clear S Y;intro gR cR _ S) | (go_at_call 104;refine (Rg.pte S (by omega)).mono ?_;clear S;rintro _ _ ⟨_,_,rfl,Y,S⟩) | (go_at_call 65;refine (fL.bl S (by omega)).mono ?_;clear S;rintro _ _ ⟨x,rfl,hx,S⟩) | (go_at_call 100;refine (fL.fl _ S).mono ?_;clear S;rintro _ _ ⟨x,rfl,hx,S⟩) | (go_at_call 105;refine (fL.pt S (by omega)).mono ?_;clear S;rintro _ _ ⟨x,rfl,hx,S⟩))))
       all_goals go_roundw
       all_goals (try exact ⟨i+1,_,_,q,by omega,rfl,by go_num,S⟩)
       all_goals (simp [intOf];omega)
     ·rw [if_neg hs2] at S;have d2:decide ((i:Int)<2)=false:=by simp;omega
      have hn1:1<(i:Int):=by omega
      have d1:decide ((i:Int)>1)=true:=by simp;omega
      have d1':decide (1<(i:Int))=true:=by simp;omega
      as_aux_lemma=>
       go_wp2_with fail;refine (fL.fl _ S).mono ?_;clear S;rintro _ _ ⟨x,rfl,hx,S⟩;go_wp2_with fail
       iterate 2 (all_goals ((refine (fL.on S (by omega)).mono ?_;clear S;rintro _ _ ⟨(_ | _),rfl,S⟩) <;> go_wp2_with (first | (at_builtin;refine kH rfl _ _ rfl rfl rfl S Y rfl (by omega) ?_;clear S Y;intro gR cR _ S) | (go_at_call 104;refine (Rg.pte S (by omega)).mono ?_;clear S;rintro _ _ ⟨_,_,rfl,Y,S⟩) | (go_at_call 65;refine (fL.bl S (by omega)).mono ?_;clear S;rintro _ _ ⟨x,rfl,hx,S⟩) | (go_at_call 100;refine (fL.fl _ S).mono ?_;clear S;rintro _ _ ⟨x,rfl,hx,S⟩) | (go_at_call 105;refine (fL.pt S (by omega)).mono ?_;clear S;rintro _ _ ⟨x,rfl,hx,S⟩))))
       all_goals go_roundw
       all_goals (try exact ⟨i+1,_,_,q,by omega,rfl,by go_num,S⟩)
       all_goals (simp [intOf];omega)
    ·obtain ⟨rfl,rfl⟩:i=8∧q=0:=by omega
     rw [rwP] at S;have hil':decide (((8:Nat):Int)<8)=false:=by decide
     go_wp2;go_roundw
     case rel=>exact ⟨a+1,gR,cR,m,by omega,by rw [show 10+8*(a+1)=10+8*a+8 by omega],by go_num,by rw [show 10+8*(a+1)=10+8*a+8 by omega];exact S⟩
     case measure=>simp [intOf];omega
 obtain ⟨rfl,rfl⟩:a=3∧m=0:=by omega
 rw [grP] at S;clear hlt ha
 as_aux_lemma=>
 go_wp2_with fail;obtain ⟨kk,hpr⟩:=S.prg;refine (xe p f 28 careful (pgX f 28 careful kk) _ hpr.1 (by omega)).mono ?_;clear S;rintro _ _ ⟨gP,nP,cP,hP,rfl,OP⟩;have hc:=OP.cap;obtain ⟨ys,S,hY⟩:=hpr.2 _ _ _ _ OP;clear hpr;have Y:=hY 112 (by omega);have hP1:112<=nP:=by omega
 have hP2:112<=cP:=by omega
 clear OP hY;go_wp2_with fail;refine (Rg.run1 S Y (by omega)).mono ?_;clear S Y;rintro _ _ ⟨_,_,rfl,Y,S⟩;go_upto_region 86 with (at_builtin;refine kH rfl _ _ rfl rfl rfl S Y rfl (by omega) ?_;clear S Y;intro gR cR _ S);go_upto_region 87 with (at_builtin;refine uY rfl _ _ rfl rfl rfl (fL.keep S (kG _ _)) (EZ _ _ (by omega)) rfl (by omega) ?_;clear S;intro g cp _ S)
 as_aux_lemma=>
 go_wp2;go_loopw [5,29] (fun vv jj wr=>∃j gO nO cO:Nat,j<=35∧vv=SL gO nO cO∧jj=VI j∧(1<=nO∧nO<=200+300*j)∧Rg w p f T gO nO cO gR 35 cR (ct j (s16 f ns)) wr) (fun _ jj _=>35-(intOf jj).toNat)
 case atStart=>exact ⟨0,_,_,_,by omega,rfl,rfl,by omega,S⟩
 case round=>
 clear S;obtain ⟨j,gO,nO,cO,hj,rfl,rfl,hn,S⟩:=hrel;by_cases hjl:j<35
 ·as_aux_lemma=>
   have hjl':decide ((j:Int)<35)=true:=by simp;omega
   obtain ⟨ge,q,ce,r,cj,Y,hq,hgR,S⟩:=S.row hjl;go_wp2_with (at_builtin;refine uY rfl _ _ rfl rfl rfl S Y rfl (by omega) ?_;clear S Y;intro g2 cp2 _ S);go_roundw
   case rel=>exact ⟨j+1,_,_,_,by omega,rfl,by go_num,by omega,S⟩
   case measure=>simp [intOf];omega
 have hj35:j=35:=by omega
 subst hj35;have hjl':decide (((35:Nat):Int)<35)=false:=by decide
 have S2:=S.last.toS;unfold s16 at S2;clear S hjl hj;by_cases hn2:ns<200
 ·as_aux_lemma=>
   rw [if_pos hn2] at S2;obtain ⟨mm,rfl⟩:∃mm:Nat,ns=mm:=⟨ns.toNat,by omega⟩;rw [Int.toNat_natCast] at S2;have hn2d:decide ((mm:Int)<200)=true:=by simp;omega
   go_wp2_with fail;refine (S2.mem (by omega)).mono ?_;clear S2;rintro _ _ ⟨gm,cm,ys,rfl,Y,S⟩;go_wp2_with (at_builtin;refine iz rfl _ _ rfl rfl rfl S Y rfl (by omega) ?_;clear S Y;intro g2 cp2 _ S);go_ret;exact ⟨_,_,_,by omega,rfl,S⟩
 ·as_aux_lemma=>
   rw [if_neg hn2] at S2;have hn2d:decide (ns<200)=false:=by simp;omega
   go_wp2;go_ret;exact ⟨_,_,_,by omega,rfl,S2⟩
end Go.Proofs.YtkenjknmfhoppaaGreat
