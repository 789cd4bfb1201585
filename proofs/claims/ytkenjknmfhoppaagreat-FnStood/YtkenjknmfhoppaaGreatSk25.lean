import Derived.Test.YtkenjknmfhoppaaGreatSk24
namespace Go.Proofs.YtkenjknmfhoppaaGreat
open Go.RowKit
set_option linter.unusedVariables false
set_option maxHeartbeats 6400000
set_option maxRecDepth 20000
def pgB (f:Nat->Int) (ca:Bool) (c a b:Int) (K:DP):DP:=
 if c<5 then dr (bT f 4) fun w=>dr (eu f 8) fun o=>cd o (dr (bT f 7) fun d=>pu (gW 5 7 b w (57+d)) K) (pu (gW 5 7 b w (8*a-16)) K)
 else if c<7 then dr (bT f 4) fun w=>dr (eu f 8) fun o=>cd o (dr (bT f 7) fun d=>dr (bT f 8) fun s=>pu (gW 6 s b w (57+d)) K) (dr (bT f 8) fun s=>pu (gW 6 s b w (8*a)) K)
 else if c<11 then dr (eu f 4) fun o=>pu (gW 6 3 2 3 (cd o (8*a-128) (8*a))) (cd ca (pu (gW 11 0 0 0 0) K) (dr (eu f 4) fun o=>cd o (pu (gW 11 0 0 0 0) K) (dr (eu f 3) fun o=>cd o (dr (bT f 3) fun g=>pu (gW 11 (b*bits .and .i64 g 1) (7*(g/2)) 0 0) K) K)))
 else if c=11 then pu (gW 9 (4+a%2) 0 0 0) K
 else if c=12 then dr (bT f 8) fun d=>pu (gW 8 7 0 0 (-1-d)) K
 else if c=13 then pu (gW 3 b b 0 (8*a-24)) K
 else if c=14 then pu (gW 7 7 b 7 (8*a)) K
 else if c=15 then pu (gW 11 (b*bits .and .i64 a 1) (7*(a/4)) 0 0) K
 else if c=16 then pu (gW 10 a 0 0 0) K
 else if c=17 then if a=7 then pu (gW 14 0 0 0 0) (pu (gW 1 7 0 0 (a%4)) K) else pu (gW 1 7 0 0 (a%4)) K
 else if c=18 then dr (bT f 17) fun x=>pu (gW x a b a (4-a)) K
 else pu (gW 7 3 2 0 (8*a)) (cd ca (pu (gW 11 0 0 0 0) K) K)
def pgL (f:Nat->Int) (ca:Bool) (n:Nat):Nat->DP
 | 0=>en
 | m+1=>wh (4*n) (dr (bT f 20) fun c=>dr (bT f 8) fun a=>dr (eu f 3) fun s=>pgB f ca c a (cd s 6 1) (pgL f ca n m))
def pgX (f:Nat->Int) (n:Nat) (ca:Bool) (k:Nat):List Int × Nat:=(pgL f ca n (4*n)).run k [] []
theorem vp {b:Int} (h:1<=b∧b<=6) (x:Int):0<=b*bits .and .i64 x 1∧b*bits .and .i64 x 1<=6:=by
 have:=kJ x 1 (by omega) (by omega);rcases (show bits .and .i64 x 1=0∨bits .and .i64 x 1=1 by omega) with e | e <;> rw [e] <;> omega
theorem xe (p:Nat) (f:Nat->Int) (n:Nat) (careful:Bool) (T:List Int × Nat) (w:World) (h:Dg w p f T (pgL f careful n (4*n)) w) (hn:n<=1000):
 Calls Tryz.prog 106 #[PT p 0,VI n,.bool careful] w fun e w'=>
  ∃g nn cp,4*n<=nn∧e=.returned (SL g nn cp)∧Sg w p f T g nn cp en w':=by
 have S0:=h.new;clear h;go_enter Tryz.func106,Tryz.ntmps106;go_wp2;go_loopw [7] (fun vv wr=>∃g nn cp m,vv=SL g nn cp∧Sg w p f T g nn cp (pgL f careful n m) wr∧nn<=4*n+8∧4*n<=nn+m) (fun vv _=>4*n+8-EY vv)
 case atStart=>exact ⟨_,0,_,_,rfl,S0,by omega,by omega⟩
 case round=>
  clear S0;obtain ⟨g,nn,cp,m,rfl,S,hl,hm⟩:=hrel;by_cases hlt:nn<4*n
  ·have hlt':decide ((nn:Int)<4*(n:Int))=true:=by simp;omega
   obtain ⟨m,rfl⟩:∃q,m=q+1:=⟨m-1,by omega⟩;replace S:=S.go hlt;go_wp2_with fail;refine (bE.bl S (by omega)).mono ?_;clear S;rintro _ _ ⟨c,rfl,hc,S⟩;go_wp2_with fail;refine (bE.bl S (by omega)).mono ?_;clear S;rintro _ _ ⟨at',rfl,hat,S⟩;go_wp2_with fail;refine (bE.on S (by omega)).mono ?_;clear S;rintro _ _ ⟨s,rfl,S⟩;go_upto_if 30 with fail;go_cut [10] from 30 to 30 (fun s wx=>∃b,s=VI b∧(1<=b∧b<=6)∧Sg w p f T g nn cp (pgB f careful c at' b (pgL f careful n m)) wx)
   case first=>cases s <;> (go_wp2_with fail;go_meet;case rel=>exact ⟨_,rfl,by omega,S⟩)
   case rest=>
   clear S;obtain ⟨b,rfl,hb,S⟩:=hcut;have hb1:=vp hb at';unfold pgB at S;rcases (show c<5∨(5<=c∧c<7)∨((7<=c∧c<11)∧careful=true)∨((7<=c∧c<11)∧careful=false)∨c=11∨c=12∨c=13∨c=14∨c=15∨c=16∨(c=17∧at'=7)∨(c=17∧¬at'=7)∨c=18∨(c=19∧careful=true)∨(c=19∧careful=false) by cases careful <;> simp <;> omega) with q | q | ⟨q,rfl⟩ | ⟨q,rfl⟩ | q | q | q | q | q | q | q | q | q | ⟨q,rfl⟩ | ⟨q,rfl⟩;all_goals
    repeat (first | rw [if_pos (by omega)] at S | rw [if_neg (by omega)] at S)
    as_aux_lemma=>
     go_wp2_with (first
      | (at_builtin;refine iz rfl _ _ rfl rfl rfl S Y (by first | rfl | simp [q]) (by omega) ?_;clear S Y;intro _ _ _ S)
      | (go_at_call 65;refine (bE.bl S (by omega)).mono ?_;clear S;rintro _ _ ⟨x,rfl,hx,S⟩;have hx1:=vp hb x)
      | (go_at_call 102;refine (bE.ins S (by omega)).mono ?_;clear S;rintro _ _ ⟨_,rfl,Y,S⟩))
     iterate 3 (try any_goals ((go_at_call 64;refine (bE.on S (by omega)).mono ?_;clear S;rintro _ _ ⟨(_ | _),rfl,S⟩) <;> go_wp2_with (first
      | (at_builtin;refine iz rfl _ _ rfl rfl rfl S Y (by first | rfl | simp [q]) (by omega) ?_;clear S Y;intro _ _ _ S)
      | (go_at_call 65;refine (bE.bl S (by omega)).mono ?_;clear S;rintro _ _ ⟨x,rfl,hx,S⟩;have hx1:=vp hb x)
      | (go_at_call 102;refine (bE.ins S (by omega)).mono ?_;clear S;rintro _ _ ⟨_,rfl,Y,S⟩))))
     all_goals go_roundw
     all_goals (try exact ⟨_,_,_,m,rfl,S,by omega,by omega⟩)
     all_goals (simp [EY];omega)
  ·have hlt':decide ((nn:Int)<4*(n:Int))=false:=by simp;omega
   have S2:Sg w p f T g nn cp en wr:=by
    cases m with
    | zero=>exact S
    | succ m=>exact S.stop hlt
   clear S;go_wp2;go_ret;exact ⟨_,_,_,by omega,rfl,S2⟩
end Go.Proofs.YtkenjknmfhoppaaGreat
