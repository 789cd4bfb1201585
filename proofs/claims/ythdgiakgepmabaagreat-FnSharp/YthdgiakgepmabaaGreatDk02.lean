import Derived.Test.YthdgiakgepmabaaGreatDk01
import Derived.Deep.RegionHeld3
import Derived.Deep.DrawnRows
namespace Go.Proofs.YthdgiakgepmabaaGreat
open Go.RowKit
set_option linter.unusedVariables false
set_option maxHeartbeats 6400000
set_option maxRecDepth 20000
theorem Gu (k:Nat) (h:k<=62):1<=(2:Int)^k∧(2:Int)^k<=4611686018427387904:=by
 have h1:(2:Nat)^k<=2^62:=Nat.pow_le_pow_right (by omega) h;have h2:1<=(2:Nat)^k:=Nat.one_le_two_pow;have e:(2:Int)^k=((2^k:Nat):Int):=by push_cast;rfl
 rw [e];omega
theorem cx {a b:Int} (h:a=b):Ending.returned (VI a)=.returned (VI b):=by rw [h]
theorem aL {a b:Bool} (h:a=b):Ending.returned (.bool a)=.returned (.bool b):=by rw [h]
theorem Cs (k:Nat):∀(n:Int) (w:World),n<=k->k<=63->n.toNat=k->
 Calls Tryz.prog 62 #[VI n] w fun e w'=>e=.returned (VU (2^k))∧w'=w:=by
 induction k with
 | zero=>
  intro n w h h' h'';have hn:n<=0:=by omega
  go_enter Tryz.func62,Tryz.ntmps62;go_wp2;go_ret;exact ⟨rfl,rfl⟩
 | succ k ih=>
  intro n w h h' h'';have hn:¬n<=0:=by omega
  have hb:=Gu k (by omega);have IH:Hid (∀(n:Int) (w:World),n<=k->k<=63->n.toNat=k->
   Calls Tryz.prog 62 #[VI n] w fun e w'=>e=.returned (VU (2^k))∧w'=w):=ih
  have HE:Hid ((2:Int)^(k+1)=2*2^k):=by show _=_;rw [Int.pow_succ,Int.mul_comm]
  rw [HE.out];clear ih HE;have H'':=hid h'';clear h'';generalize (2:Int)^k=p at *;go_enter Tryz.func62,Tryz.ntmps62;go_wp2_with fail;refine (IH.out (n-1) w (by omega) (by omega) (by have:=H''.out;omega)).mono ?_;rintro e w' ⟨rfl,rfl⟩;go_wp2;go_ret;exact ⟨rfl,rfl⟩
theorem cO (n p:Int) (w:World) (hn:n<=63) (hp:p=2^n.toNat):
 Calls Tryz.prog 62 #[VI n] w fun e w'=>e=.returned (VU p)∧w'=w:=by
 rw [hp];exact Cs n.toNat n w (by omega) (by omega) rfl
theorem bK (x i j p q:Int) (w:World) (h0:0<=x) (h1:x<=18446744073709551615) (hi:0<=i) (hi':i<=63) (hj:i<=j+1) (hj':j-i<=62) (hp:p=2^i.toNat) (hq:q=2^(j-i+1).toNat):
 Calls Tryz.prog 64 #[VU x,VI i,VI j] w fun e w'=>e=.returned (VU (x/p%q))∧∃n,w'=w.drewN n:=by
 have hp1:1<=p:=by rw [hp];exact Int.pow_pos (by omega:(0:Int)<2)
 have hq1:1<=q:=by rw [hq];exact Int.pow_pos (by omega:(0:Int)<2)
 have hxp:0<=x/p:=Int.ediv_nonneg h0 (by omega);have HP:Hid (p=2^i.toNat):=hp;have HQ:Hid (q=2^(j-i+1).toNat):=hq;clear hp hq;go_enter Tryz.func64,Tryz.ntmps64;go_wp2;go_quiet (first
  | (go_at_call_of 62 (VI i);exact Calls.quiet_of_same (cO i p _ (by omega) HP.out))
  | (go_at_call 62;exact Calls.quiet_of_same (cO (j-i+1) q _ (by omega) HQ.out)))
 go_wp2;go_ret;exact ⟨rfl,nq,rfl⟩
theorem bV (x i p:Int) (w:World) (h0:0<=x) (h1:x<=18446744073709551615) (hi:0<=i) (hi':i<=63) (hp:p=2^i.toNat):
 Calls Tryz.prog 41 #[VU x,VI i] w fun e w'=>e=.returned (.bool (bJ x p))∧∃n,w'=w.drewN n:=by
 have HP:=hid hp;clear hp;go_enter Tryz.func41,Tryz.ntmps41;go_wp2_with fail;refine (bK x i i p 2 w h0 h1 hi hi' (by omega) (by omega) HP.out (by rw [show i-i+1=1 by omega];rfl)).mono ?_;rintro e w' ⟨rfl,nq,rfl⟩;go_wp2;go_ret;exact ⟨rfl,nq,rfl⟩
theorem dK (x:Int) (w:World) (h0:0<=x) (h1:x<=18446744073709551615):
 Calls Tryz.prog 72 #[VU x] w fun e w'=>e=.returned (VU (dA x))∧∃n,w'=w.drewN n:=by
 go_enter Tryz.func72,Tryz.ntmps72;go_wp2_with fail;refine (bK x 10 53 1024 17592186044416 w h0 h1 (by omega) (by omega) (by omega) (by omega) rfl rfl).mono ?_;rintro e w' ⟨rfl,nq,rfl⟩;go_wp2;go_ret;exact ⟨rfl,nq,rfl⟩
theorem fM (x:Int) (w:World) (h0:0<=x) (h1:x<=18446744073709551615):
 Calls Tryz.prog 35 #[VU x] w fun e w'=>e=.returned (.bool (cR x))∧∃n,w'=w.drewN n:=by
 go_enter Tryz.func35,Tryz.ntmps35;go_wp2_with fail;refine (bK x 14 63 16384 1125899906842624 w h0 h1 (by omega) (by omega) (by omega) (by omega) rfl rfl).mono ?_;rintro e w' ⟨rfl,nq,rfl⟩;by_cases ht:x/16384%1125899906842624=0
 ·have ht':(x/16384%1125899906842624 == 0)=true:=by simp [ht]
  clear ht;go_wp2;go_ret;exact ⟨by simp [cR,ht'],nq,rfl⟩
 ·have ht':(x/16384%1125899906842624 == 0)=false:=by simpa using ht
  clear ht;go_wp2_with (go_at_call 62;refine (cO 50 1125899906842624 _ (by omega) rfl).mono ?_;rintro e w' ⟨rfl,rfl⟩);go_ret;exact ⟨by simp [cR,ht'],nq,rfl⟩
theorem hH (pte level:Int) (w:World) (h0:0<=pte) (h1:pte<=18446744073709551615) (hl: -9223372036854775808<=level) (hl':level<=9223372036854775807):
 Calls Tryz.prog 39 #[VU pte,VI level] w fun e w'=>e=.returned (VI (aU pte level))∧∃n,w'=w.drewN n:=by
 go_enter Tryz.func39,Tryz.ntmps39;go_wp2_with fail;refine (bV pte 1 2 w h0 h1 (by omega) (by omega) rfl).mono ?_;rintro e w' ⟨rfl,n1,rfl⟩;go_wp2_with fail;refine (bV pte 2 4 _ h0 h1 (by omega) (by omega) rfl).mono ?_;rintro e w' ⟨rfl,n2,rfl⟩;go_wp2_with fail;refine (bV pte 3 8 _ h0 h1 (by omega) (by omega) rfl).mono ?_;rintro e w' ⟨rfl,n3,rfl⟩;go_wp2_with fail;refine (bV pte 4 16 _ h0 h1 (by omega) (by omega) rfl).mono ?_;rintro e w' ⟨rfl,n4,rfl⟩;go_wp2_with fail;refine (bV pte 6 64 _ h0 h1 (by omega) (by omega) rfl).mono ?_;rintro e w' ⟨rfl,n5,rfl⟩;go_wp2_with fail;refine (bV pte 7 128 _ h0 h1 (by omega) (by omega) rfl).mono ?_;rintro e w' ⟨rfl,n6,rfl⟩;by_cases hlev:0<=level∧level<=2
 ·obtain ⟨hl0,hl2⟩:=hlev;cases hV:bJ pte 1
  ·go_wp2_with (first
    | (go_at_call 41;refine (bV pte 0 1 _ h0 h1 (by omega) (by omega) rfl).mono ?_;rintro e w' ⟨rfl,n7,rfl⟩;rw [hV]))
   go_ret;exact ⟨cx (by simp [aU,hV]),_,rfl⟩
  ·by_cases hres:0<pte/18014398509481984%1024
   ·go_wp2_with (first
     | (go_at_call 41;refine (bV pte 0 1 _ h0 h1 (by omega) (by omega) rfl).mono ?_;rintro e w' ⟨rfl,n7,rfl⟩;rw [hV])
     | (go_at_call 64;refine (bK pte 54 63 18014398509481984 1024 _ h0 h1 (by omega) (by omega) (by omega) (by omega) rfl rfl).mono ?_;rintro e w' ⟨rfl,n8,rfl⟩))
    go_ret;exact ⟨cx (by simp [aU,hres]),_,rfl⟩
   ·have hres':decide (0<pte/18014398509481984%1024)=false:=by simpa using hres
    cases hr:bJ pte 2 <;> cases hw:bJ pte 4
    ·cases hx:bJ pte 8
     ·cases hu:bJ pte 16 <;> cases ha:bJ pte 64 <;> cases hd:bJ pte 128;all_goals
       rcases (show level=0∨level=1∨level=2 by omega) with rfl | rfl | rfl;all_goals
        go_wp2_with (first
         | (go_at_call 41;refine (bV pte 0 1 _ h0 h1 (by omega) (by omega) rfl).mono ?_;rintro e w' ⟨rfl,n7,rfl⟩;rw [hV])
         | (go_at_call 64;refine (bK pte 54 63 18014398509481984 1024 _ h0 h1 (by omega) (by omega) (by omega) (by omega) rfl rfl).mono ?_;rintro e w' ⟨rfl,n8,rfl⟩))
        go_ret;exact ⟨cx (by simp [aU,hV,hr,hw,hx,hu,ha,hd,hres]),_,rfl⟩
     ·
      obtain ⟨t,ht⟩:∃t,dA pte=t:=⟨_,rfl⟩;have hpp:0<=t:=by rw [<-ht];exact Int.emod_nonneg _ (by omega)
      have HPP:=hid ht;clear ht;rcases (show level=0∨level=1∨level=2 by omega) with rfl | rfl | rfl
      ·go_wp2_with (first
        | (go_at_call 41;refine (bV pte 0 1 _ h0 h1 (by omega) (by omega) rfl).mono ?_;rintro e w' ⟨rfl,n7,rfl⟩;rw [hV])
        | (go_at_call 64;refine (bK pte 54 63 18014398509481984 1024 _ h0 h1 (by omega) (by omega) (by omega) (by omega) rfl rfl).mono ?_;rintro e w' ⟨rfl,n8,rfl⟩)
        | (go_at_call 72;refine (dK pte _ h0 h1).mono ?_;rintro e w' ⟨rfl,n9,rfl⟩;rw [HPP.out])
        | (go_at_call 62;refine (cO _ 1 _ (by omega) rfl).mono ?_;rintro e w' ⟨rfl,rfl⟩))
       go_ret;exact ⟨cx (by simp [aU,hV,hr,hw,hx,hres,iK,Int.emod_one]),_,rfl⟩
      ·by_cases hm:0<t%8
       ·go_wp2_with (first
         | (go_at_call 41;refine (bV pte 0 1 _ h0 h1 (by omega) (by omega) rfl).mono ?_;rintro e w' ⟨rfl,n7,rfl⟩;rw [hV])
         | (go_at_call 64;refine (bK pte 54 63 18014398509481984 1024 _ h0 h1 (by omega) (by omega) (by omega) (by omega) rfl rfl).mono ?_;rintro e w' ⟨rfl,n8,rfl⟩)
         | (go_at_call 72;refine (dK pte _ h0 h1).mono ?_;rintro e w' ⟨rfl,n9,rfl⟩;rw [HPP.out])
         | (go_at_call 62;refine (cO _ 8 _ (by omega) rfl).mono ?_;rintro e w' ⟨rfl,rfl⟩))
        go_ret;exact ⟨cx (by simp [aU,hV,hr,hw,hx,show ¬0<pte/18014398509481984%1024 by omega,iK,HPP.out,hm]),_,rfl⟩
       ·go_wp2_with (first
         | (go_at_call 41;refine (bV pte 0 1 _ h0 h1 (by omega) (by omega) rfl).mono ?_;rintro e w' ⟨rfl,n7,rfl⟩;rw [hV])
         | (go_at_call 64;refine (bK pte 54 63 18014398509481984 1024 _ h0 h1 (by omega) (by omega) (by omega) (by omega) rfl rfl).mono ?_;rintro e w' ⟨rfl,n8,rfl⟩)
         | (go_at_call 72;refine (dK pte _ h0 h1).mono ?_;rintro e w' ⟨rfl,n9,rfl⟩;rw [HPP.out])
         | (go_at_call 62;refine (cO _ 8 _ (by omega) rfl).mono ?_;rintro e w' ⟨rfl,rfl⟩))
        go_ret;exact ⟨cx (by simp [aU,hV,hr,hw,hx,show ¬0<pte/18014398509481984%1024 by omega,show ¬0<t%8 by omega,iK,HPP.out]),_,rfl⟩
      ·by_cases hm:0<t%64
       ·go_wp2_with (first
         | (go_at_call 41;refine (bV pte 0 1 _ h0 h1 (by omega) (by omega) rfl).mono ?_;rintro e w' ⟨rfl,n7,rfl⟩;rw [hV])
         | (go_at_call 64;refine (bK pte 54 63 18014398509481984 1024 _ h0 h1 (by omega) (by omega) (by omega) (by omega) rfl rfl).mono ?_;rintro e w' ⟨rfl,n8,rfl⟩)
         | (go_at_call 72;refine (dK pte _ h0 h1).mono ?_;rintro e w' ⟨rfl,n9,rfl⟩;rw [HPP.out])
         | (go_at_call 62;refine (cO _ 64 _ (by omega) rfl).mono ?_;rintro e w' ⟨rfl,rfl⟩))
        go_ret;exact ⟨cx (by simp [aU,hV,hr,hw,hx,show ¬0<pte/18014398509481984%1024 by omega,iK,HPP.out,hm]),_,rfl⟩
       ·go_wp2_with (first
         | (go_at_call 41;refine (bV pte 0 1 _ h0 h1 (by omega) (by omega) rfl).mono ?_;rintro e w' ⟨rfl,n7,rfl⟩;rw [hV])
         | (go_at_call 64;refine (bK pte 54 63 18014398509481984 1024 _ h0 h1 (by omega) (by omega) (by omega) (by omega) rfl rfl).mono ?_;rintro e w' ⟨rfl,n8,rfl⟩)
         | (go_at_call 72;refine (dK pte _ h0 h1).mono ?_;rintro e w' ⟨rfl,n9,rfl⟩;rw [HPP.out])
         | (go_at_call 62;refine (cO _ 64 _ (by omega) rfl).mono ?_;rintro e w' ⟨rfl,rfl⟩))
        go_ret;exact ⟨cx (by simp [aU,hV,hr,hw,hx,show ¬0<pte/18014398509481984%1024 by omega,show ¬0<t%64 by omega,iK,HPP.out]),_,rfl⟩
    ·
     go_wp2_with (first
      | (go_at_call 41;refine (bV pte 0 1 _ h0 h1 (by omega) (by omega) rfl).mono ?_;rintro e w' ⟨rfl,n7,rfl⟩;rw [hV])
      | (go_at_call 64;refine (bK pte 54 63 18014398509481984 1024 _ h0 h1 (by omega) (by omega) (by omega) (by omega) rfl rfl).mono ?_;rintro e w' ⟨rfl,n8,rfl⟩))
     go_ret;exact ⟨cx (by simp [aU,hr,hw]),_,rfl⟩
    ·
     obtain ⟨t,ht⟩:∃t,dA pte=t:=⟨_,rfl⟩;have hpp:0<=t:=by rw [<-ht];exact Int.emod_nonneg _ (by omega)
     have HPP:=hid ht;clear ht;rcases (show level=0∨level=1∨level=2 by omega) with rfl | rfl | rfl
     ·go_wp2_with (first
       | (go_at_call 41;refine (bV pte 0 1 _ h0 h1 (by omega) (by omega) rfl).mono ?_;rintro e w' ⟨rfl,n7,rfl⟩;rw [hV])
       | (go_at_call 64;refine (bK pte 54 63 18014398509481984 1024 _ h0 h1 (by omega) (by omega) (by omega) (by omega) rfl rfl).mono ?_;rintro e w' ⟨rfl,n8,rfl⟩)
       | (go_at_call 72;refine (dK pte _ h0 h1).mono ?_;rintro e w' ⟨rfl,n9,rfl⟩;rw [HPP.out])
       | (go_at_call 62;refine (cO _ 1 _ (by omega) rfl).mono ?_;rintro e w' ⟨rfl,rfl⟩))
      go_ret;exact ⟨cx (by simp [aU,hV,hr,hw,hres,iK,Int.emod_one]),_,rfl⟩
     ·by_cases hm:0<t%8
      ·go_wp2_with (first
        | (go_at_call 41;refine (bV pte 0 1 _ h0 h1 (by omega) (by omega) rfl).mono ?_;rintro e w' ⟨rfl,n7,rfl⟩;rw [hV])
        | (go_at_call 64;refine (bK pte 54 63 18014398509481984 1024 _ h0 h1 (by omega) (by omega) (by omega) (by omega) rfl rfl).mono ?_;rintro e w' ⟨rfl,n8,rfl⟩)
        | (go_at_call 72;refine (dK pte _ h0 h1).mono ?_;rintro e w' ⟨rfl,n9,rfl⟩;rw [HPP.out])
        | (go_at_call 62;refine (cO _ 8 _ (by omega) rfl).mono ?_;rintro e w' ⟨rfl,rfl⟩))
       go_ret;exact ⟨cx (by simp [aU,hV,hr,hw,show ¬0<pte/18014398509481984%1024 by omega,iK,HPP.out,hm]),_,rfl⟩
      ·go_wp2_with (first
        | (go_at_call 41;refine (bV pte 0 1 _ h0 h1 (by omega) (by omega) rfl).mono ?_;rintro e w' ⟨rfl,n7,rfl⟩;rw [hV])
        | (go_at_call 64;refine (bK pte 54 63 18014398509481984 1024 _ h0 h1 (by omega) (by omega) (by omega) (by omega) rfl rfl).mono ?_;rintro e w' ⟨rfl,n8,rfl⟩)
        | (go_at_call 72;refine (dK pte _ h0 h1).mono ?_;rintro e w' ⟨rfl,n9,rfl⟩;rw [HPP.out])
        | (go_at_call 62;refine (cO _ 8 _ (by omega) rfl).mono ?_;rintro e w' ⟨rfl,rfl⟩))
       go_ret;exact ⟨cx (by simp [aU,hV,hr,hw,show ¬0<pte/18014398509481984%1024 by omega,show ¬0<t%8 by omega,iK,HPP.out]),_,rfl⟩
     ·by_cases hm:0<t%64
      ·go_wp2_with (first
        | (go_at_call 41;refine (bV pte 0 1 _ h0 h1 (by omega) (by omega) rfl).mono ?_;rintro e w' ⟨rfl,n7,rfl⟩;rw [hV])
        | (go_at_call 64;refine (bK pte 54 63 18014398509481984 1024 _ h0 h1 (by omega) (by omega) (by omega) (by omega) rfl rfl).mono ?_;rintro e w' ⟨rfl,n8,rfl⟩)
        | (go_at_call 72;refine (dK pte _ h0 h1).mono ?_;rintro e w' ⟨rfl,n9,rfl⟩;rw [HPP.out])
        | (go_at_call 62;refine (cO _ 64 _ (by omega) rfl).mono ?_;rintro e w' ⟨rfl,rfl⟩))
       go_ret;exact ⟨cx (by simp [aU,hV,hr,hw,show ¬0<pte/18014398509481984%1024 by omega,iK,HPP.out,hm]),_,rfl⟩
      ·go_wp2_with (first
        | (go_at_call 41;refine (bV pte 0 1 _ h0 h1 (by omega) (by omega) rfl).mono ?_;rintro e w' ⟨rfl,n7,rfl⟩;rw [hV])
        | (go_at_call 64;refine (bK pte 54 63 18014398509481984 1024 _ h0 h1 (by omega) (by omega) (by omega) (by omega) rfl rfl).mono ?_;rintro e w' ⟨rfl,n8,rfl⟩)
        | (go_at_call 72;refine (dK pte _ h0 h1).mono ?_;rintro e w' ⟨rfl,n9,rfl⟩;rw [HPP.out])
        | (go_at_call 62;refine (cO _ 64 _ (by omega) rfl).mono ?_;rintro e w' ⟨rfl,rfl⟩))
       go_ret;exact ⟨cx (by simp [aU,hV,hr,hw,show ¬0<pte/18014398509481984%1024 by omega,show ¬0<t%64 by omega,iK,HPP.out]),_,rfl⟩
    ·
     obtain ⟨t,ht⟩:∃t,dA pte=t:=⟨_,rfl⟩;have hpp:0<=t:=by rw [<-ht];exact Int.emod_nonneg _ (by omega)
     have HPP:=hid ht;clear ht;rcases (show level=0∨level=1∨level=2 by omega) with rfl | rfl | rfl
     ·go_wp2_with (first
       | (go_at_call 41;refine (bV pte 0 1 _ h0 h1 (by omega) (by omega) rfl).mono ?_;rintro e w' ⟨rfl,n7,rfl⟩;rw [hV])
       | (go_at_call 64;refine (bK pte 54 63 18014398509481984 1024 _ h0 h1 (by omega) (by omega) (by omega) (by omega) rfl rfl).mono ?_;rintro e w' ⟨rfl,n8,rfl⟩)
       | (go_at_call 72;refine (dK pte _ h0 h1).mono ?_;rintro e w' ⟨rfl,n9,rfl⟩;rw [HPP.out])
       | (go_at_call 62;refine (cO _ 1 _ (by omega) rfl).mono ?_;rintro e w' ⟨rfl,rfl⟩))
      go_ret;exact ⟨cx (by simp [aU,hV,hr,hw,hres,iK,Int.emod_one]),_,rfl⟩
     ·by_cases hm:0<t%8
      ·go_wp2_with (first
        | (go_at_call 41;refine (bV pte 0 1 _ h0 h1 (by omega) (by omega) rfl).mono ?_;rintro e w' ⟨rfl,n7,rfl⟩;rw [hV])
        | (go_at_call 64;refine (bK pte 54 63 18014398509481984 1024 _ h0 h1 (by omega) (by omega) (by omega) (by omega) rfl rfl).mono ?_;rintro e w' ⟨rfl,n8,rfl⟩)
        | (go_at_call 72;refine (dK pte _ h0 h1).mono ?_;rintro e w' ⟨rfl,n9,rfl⟩;rw [HPP.out])
        | (go_at_call 62;refine (cO _ 8 _ (by omega) rfl).mono ?_;rintro e w' ⟨rfl,rfl⟩))
       go_ret;exact ⟨cx (by simp [aU,hV,hr,hw,show ¬0<pte/18014398509481984%1024 by omega,iK,HPP.out,hm]),_,rfl⟩
      ·go_wp2_with (first
        | (go_at_call 41;refine (bV pte 0 1 _ h0 h1 (by omega) (by omega) rfl).mono ?_;rintro e w' ⟨rfl,n7,rfl⟩;rw [hV])
        | (go_at_call 64;refine (bK pte 54 63 18014398509481984 1024 _ h0 h1 (by omega) (by omega) (by omega) (by omega) rfl rfl).mono ?_;rintro e w' ⟨rfl,n8,rfl⟩)
        | (go_at_call 72;refine (dK pte _ h0 h1).mono ?_;rintro e w' ⟨rfl,n9,rfl⟩;rw [HPP.out])
        | (go_at_call 62;refine (cO _ 8 _ (by omega) rfl).mono ?_;rintro e w' ⟨rfl,rfl⟩))
       go_ret;exact ⟨cx (by simp [aU,hV,hr,hw,show ¬0<pte/18014398509481984%1024 by omega,show ¬0<t%8 by omega,iK,HPP.out]),_,rfl⟩
     ·by_cases hm:0<t%64
      ·go_wp2_with (first
        | (go_at_call 41;refine (bV pte 0 1 _ h0 h1 (by omega) (by omega) rfl).mono ?_;rintro e w' ⟨rfl,n7,rfl⟩;rw [hV])
        | (go_at_call 64;refine (bK pte 54 63 18014398509481984 1024 _ h0 h1 (by omega) (by omega) (by omega) (by omega) rfl rfl).mono ?_;rintro e w' ⟨rfl,n8,rfl⟩)
        | (go_at_call 72;refine (dK pte _ h0 h1).mono ?_;rintro e w' ⟨rfl,n9,rfl⟩;rw [HPP.out])
        | (go_at_call 62;refine (cO _ 64 _ (by omega) rfl).mono ?_;rintro e w' ⟨rfl,rfl⟩))
       go_ret;exact ⟨cx (by simp [aU,hV,hr,hw,show ¬0<pte/18014398509481984%1024 by omega,iK,HPP.out,hm]),_,rfl⟩
      ·go_wp2_with (first
        | (go_at_call 41;refine (bV pte 0 1 _ h0 h1 (by omega) (by omega) rfl).mono ?_;rintro e w' ⟨rfl,n7,rfl⟩;rw [hV])
        | (go_at_call 64;refine (bK pte 54 63 18014398509481984 1024 _ h0 h1 (by omega) (by omega) (by omega) (by omega) rfl rfl).mono ?_;rintro e w' ⟨rfl,n8,rfl⟩)
        | (go_at_call 72;refine (dK pte _ h0 h1).mono ?_;rintro e w' ⟨rfl,n9,rfl⟩;rw [HPP.out])
        | (go_at_call 62;refine (cO _ 64 _ (by omega) rfl).mono ?_;rintro e w' ⟨rfl,rfl⟩))
       go_ret;exact ⟨cx (by simp [aU,hV,hr,hw,show ¬0<pte/18014398509481984%1024 by omega,show ¬0<t%64 by omega,iK,HPP.out]),_,rfl⟩
 ·by_cases hneg:level<0
  ·go_wp2;go_ret;exact ⟨cx (by simp [aU,hneg]),_,rfl⟩
  ·have hgt:2<level:=by omega
   go_wp2;go_ret;exact ⟨cx (by simp [aU,hgt]),_,rfl⟩
theorem jy (pte kind mode:Int) (sum mxr:Bool) (w:World) (h0:0<=pte) (h1:pte<=18446744073709551615):
 Calls Tryz.prog 40 #[VU pte,VI kind,VI mode,.bool sum,.bool mxr] w fun e w'=>e=.returned (.bool (cG pte kind mode sum mxr))∧∃n,w'=w.drewN n:=by
 go_enter Tryz.func40,Tryz.ntmps40;go_wp2_with fail;refine (bV pte 1 2 w h0 h1 (by omega) (by omega) rfl).mono ?_;rintro e w' ⟨rfl,n1,rfl⟩;go_wp2_with fail;refine (bV pte 2 4 _ h0 h1 (by omega) (by omega) rfl).mono ?_;rintro e w' ⟨rfl,n2,rfl⟩;go_wp2_with fail;refine (bV pte 3 8 _ h0 h1 (by omega) (by omega) rfl).mono ?_;rintro e w' ⟨rfl,n3,rfl⟩;go_wp2_with fail;refine (bV pte 4 16 _ h0 h1 (by omega) (by omega) rfl).mono ?_;rintro e w' ⟨rfl,n4,rfl⟩;go_wp2_with fail;refine (bV pte 6 64 _ h0 h1 (by omega) (by omega) rfl).mono ?_;rintro e w' ⟨rfl,n5,rfl⟩;go_wp2_with fail;refine (bV pte 7 128 _ h0 h1 (by omega) (by omega) rfl).mono ?_;rintro e w' ⟨rfl,n6,rfl⟩;by_cases k0:kind=0
 ·subst k0;by_cases m0:mode=0
  ·subst m0;go_wp2_with fail;all_goals (go_ret;exact ⟨aL (by simp_all [cG]),_,rfl⟩)
  by_cases m1:mode=1
  ·subst m1;go_wp2_with fail;all_goals (go_ret;exact ⟨aL (by simp_all [cG]),_,rfl⟩)
  ·have m0':(mode == 0)=false:=by simpa using m0
   have m1':(mode == 1)=false:=by simpa using m1
   go_wp2_with fail;all_goals (go_ret;exact ⟨aL (by simp_all [cG]),_,rfl⟩)
 by_cases k1:kind=1
 ·subst k1;by_cases m0:mode=0
  ·subst m0;go_wp2_with fail;all_goals (go_ret;exact ⟨aL (by simp_all [cG]),_,rfl⟩)
  by_cases m1:mode=1
  ·subst m1;go_wp2_with fail;all_goals (go_ret;exact ⟨aL (by simp_all [cG]),_,rfl⟩)
  ·have m0':(mode == 0)=false:=by simpa using m0
   have m1':(mode == 1)=false:=by simpa using m1
   go_wp2_with fail;all_goals (go_ret;exact ⟨aL (by simp_all [cG]),_,rfl⟩)
 by_cases k2:kind=2
 ·subst k2;by_cases m0:mode=0
  ·subst m0;go_wp2_with fail;all_goals (go_ret;exact ⟨aL (by simp_all [cG]),_,rfl⟩)
  by_cases m1:mode=1
  ·subst m1;go_wp2_with fail;all_goals (go_ret;exact ⟨aL (by simp_all [cG]),_,rfl⟩)
  ·have m0':(mode == 0)=false:=by simpa using m0
   have m1':(mode == 1)=false:=by simpa using m1
   go_wp2_with fail;all_goals (go_ret;exact ⟨aL (by simp_all [cG]),_,rfl⟩)
 have k0':(kind == 0)=false:=by simpa using k0
 have k1':(kind == 1)=false:=by simpa using k1
 have k2':(kind == 2)=false:=by simpa using k2
 by_cases m0:mode=0
 ·subst m0;go_wp2_with fail;all_goals (go_ret;exact ⟨aL (by simp_all [cG]),_,rfl⟩)
 by_cases m1:mode=1
 ·subst m1;go_wp2_with fail;all_goals (go_ret;exact ⟨aL (by simp_all [cG]),_,rfl⟩)
 ·have m0':(mode == 0)=false:=by simpa using m0
  have m1':(mode == 1)=false:=by simpa using m1
  go_wp2_with fail;all_goals (go_ret;exact ⟨aL (by simp_all [cG]),_,rfl⟩)
theorem tH (pte level va:Int) (w:World) (h0:0<=pte) (h1:pte<=18446744073709551615) (hv:0<=va) (hv':va<=18446744073709551615) (hl: -9223372036854775808<=level) (hl':level<=9223372036854775807):
 Calls Tryz.prog 136 #[VU pte,VI level,VU va] w fun e w'=>e=.returned (VU (fH pte level va))∧∃n,w'=w.drewN n:=by
 by_cases hneg:level<0
 ·go_enter Tryz.func136,Tryz.ntmps136;go_wp2;go_ret;exact ⟨dN (by simp [fH,hneg]),0,rfl⟩
 by_cases hgt:2<level
 ·go_enter Tryz.func136,Tryz.ntmps136;go_wp2;go_ret;exact ⟨dN (by simp [fH,hgt]),0,rfl⟩
 have hpp:0<=dA pte∧dA pte<17592186044416:=⟨Int.emod_nonneg _ (by omega),Int.emod_lt_of_pos _ (by omega)⟩;rcases (show level=0∨level=1∨level=2 by omega) with rfl | rfl | rfl
 ·go_enter Tryz.func136,Tryz.ntmps136;go_wp2_with fail;refine (cO 6 64 _ (by omega) rfl).mono ?_;rintro e w' ⟨rfl,rfl⟩;go_wp2;go_quiet ((go_at_call 72;exact Calls.quiet_of (dK pte _ h0 h1)));go_wp2;go_ret;exact ⟨dN (by simp [fH,gV]),nq,rfl⟩
 ·go_enter Tryz.func136,Tryz.ntmps136;go_wp2_with fail;refine (cO 9 512 _ (by omega) rfl).mono ?_;rintro e w' ⟨rfl,rfl⟩;go_wp2;go_quiet ((go_at_call 72;exact Calls.quiet_of (dK pte _ h0 h1)));go_wp2;go_ret;exact ⟨dN (by simp [fH,gV]),nq,rfl⟩
 ·go_enter Tryz.func136,Tryz.ntmps136;go_wp2_with fail;refine (cO 12 4096 _ (by omega) rfl).mono ?_;rintro e w' ⟨rfl,rfl⟩;go_wp2;go_quiet ((go_at_call 72;exact Calls.quiet_of (dK pte _ h0 h1)));go_wp2;go_ret;exact ⟨dN (by simp [fH,gV]),nq,rfl⟩
def RowC (w:World) (a:Option Addr) (n size:Nat) (cs:List Value):Prop:=
 cs.length=n*size∧(n=0∨∃b off,a=some (AD b off)∧b<w.heap.size∧∀i v,cs[i]?=some v->w.cell? ⟨b,off+i,none⟩=some v)
theorem RowC.keep {w w':World} {a:Option Addr} {n size:Nat} {cs:List Value} (h:RowC w a n size cs) (hb:Bw w w'):RowC w' a n size cs:=by
 obtain ⟨h1,h3⟩:=h;refine ⟨h1,?_⟩;rcases h3 with h3 | ⟨b,off,rfl,hlt,hc⟩
 ·exact .inl h3
 ·exact .inr ⟨b,off,rfl,ltl hlt hb.size,fun i v hi=>(hb.cell (p:=⟨b,off+i,none⟩) hlt).trans (hc i v hi)⟩
theorem RowC.gb {w w':World} {b off n size r:Nat} {cs:List Value} (h:RowC w (some (AD b off)) n size cs) (hg:w.grownBy w' (some r)) (hne:b≠r):RowC w' (some (AD b off)) n size cs:=by
 obtain ⟨h1,h3⟩:=h;refine ⟨h1,?_⟩;rcases h3 with h3 | ⟨b',off',e,hlt,hc⟩
 ·exact .inl h3
 ·simp at e;obtain ⟨rfl,rfl⟩:=e;exact .inr ⟨b,off,rfl,ltl hlt hg.size,fun i v hi=>(World.cell?_of_block (hg.block b hlt (by simpa using hne))).trans (hc i v hi)⟩
theorem RowC.gb' {w w':World} {a:Option Addr} {n size r:Nat} {cs:List Value} (h:RowC w a n size cs) (hg:w.grownBy w' (some r)) (hne:∀q,a=some q->q.block≠r):RowC w' a n size cs:=by
 obtain ⟨h1,h3⟩:=h;refine ⟨h1,?_⟩;rcases h3 with h3 | ⟨b,off,rfl,hlt,hc⟩
 ·exact .inl h3
 ·have hne':=hne (AD b off) rfl;exact .inr ⟨b,off,rfl,ltl hlt hg.size,fun i v hi=>(World.cell?_of_block (hg.block b hlt (by simpa using hne'))).trans (hc i v hi)⟩
theorem aA {w w':World} {g r:Nat} {o:Obj} (h:w.heap[g]?=some o) (hg:w.grownBy w' (some r)) (hne:g≠r):w'.heap[g]?=some o:=by
 rw [hg.block g (hpl h) (by simpa using hne),h]
theorem RowC.nil (w:World) (a:Option Addr) (size:Nat):RowC w a 0 size []:=⟨by simp,.inl rfl⟩
theorem Below.froz2 {w w':World} (h:Bw w w') {b o:Nat} {x:Bool} (hc:w.frozen? (AD b o)=x) (hb:b<w.heap.size):w'.frozen? (AD b o)=x:=(h.frozen (p:=(AD b o)) hb).trans hc
def OwnC (e:TypeId) (size:Nat) (w:World) (base g n cap:Nat) (cs:List Value):Prop:=
 w.ownsRow base e size (SL g n cap) n cs
theorem OwnC.new (e:TypeId) (size:Nat) (w:World) (cs:List Value) (n:Nat) (hn:cs.length=n*size) (hm:n<=maxLen):OwnC e size (w.alloc (.cells cs.toArray e)) w.heap.size w.heap.size n n cs:=
 ⟨hn,.inr ⟨w.heap.size,n,_,rfl,nle,fC w _,nle,hm,by simp [hn],List.take_of_length_le (by simp [hn])⟩⟩
theorem OwnC.facts {e:TypeId} {size:Nat} {w:World} {base g n cap:Nat} {cs:List Value} (h:OwnC e size w base g n cap cs):
 cs.length=n*size∧base<=g∧g<w.heap.size∧n<=cap∧cap<=maxLen:=by
 obtain ⟨h1,h2⟩:=h;rcases h2 with ⟨h2,_⟩ | ⟨g',cap',cur,h2,hb,hh,hn,hm,hs,ht⟩
 ·simp at h2
 ·simp at h2;obtain ⟨rfl,rfl⟩:=h2;exact ⟨h1,hb,(hpl hh),hn,hm⟩
theorem OwnC.row {e:TypeId} {size:Nat} {w:World} {base g n cap:Nat} {cs:List Value} (h:OwnC e size w base g n cap cs):RowC w (some (AD g 0)) n size cs:=by
 refine ⟨h.1,.inr ⟨g,0,rfl,h.facts.2.2.1,fun i v hi=>?_⟩⟩;have hl:=(List.getElem?_eq_some_iff.1 hi).1;rw [Nat.zero_add,World.ownsRow.cellAt h i (by rw [<-h.1];exact hl),hi]
theorem OwnC.keep {e:TypeId} {size B:Nat} {w w':World} {base g n cap:Nat} {cs:List Value} (h:OwnC e size w base g n cap cs) (hb:Below B w w') (hg:g<B):OwnC e size w' base g n cap cs:=by
 obtain ⟨h1,h2⟩:=h;refine ⟨h1,?_⟩;rcases h2 with ⟨h2,_⟩ | ⟨g',cap',cur,h2,hb',hh,r⟩
 ·simp at h2
 ·have hh':=h2;simp at hh';obtain ⟨rfl,rfl⟩:=hh';exact .inr ⟨_,_,cur,h2,hb',by rw [hb.block _ hg];exact hh,r⟩
theorem OwnC.gb {e:TypeId} {size:Nat} {w w':World} {base g n cap r:Nat} {cs:List Value} (h:OwnC e size w base g n cap cs) (hg:w.grownBy w' (some r)) (hne:g≠r):OwnC e size w' base g n cap cs:=by
 obtain ⟨h1,h2⟩:=h;refine ⟨h1,?_⟩;rcases h2 with ⟨h2,_⟩ | ⟨g',cap',cur,h2,hb',hh,r'⟩
 ·simp at h2
 ·have hh':=h2;simp at hh';obtain ⟨rfl,rfl⟩:=hh';exact .inr ⟨_,_,cur,h2,hb',by rw [hg.block _ (hpl hh) (by simpa using hne)];exact hh,r'⟩
theorem OwnC.low {e:TypeId} {size:Nat} {w:World} {base base' g n cap:Nat} {cs:List Value} (h:OwnC e size w base g n cap cs) (hb:base'<=base):OwnC e size w base' g n cap cs:=by
 obtain ⟨h1,h2⟩:=h;refine ⟨h1,?_⟩;rcases h2 with ⟨h2,_⟩ | ⟨g',cap',cur,h2,hb',r⟩
 ·simp at h2
 ·exact .inr ⟨g',cap',cur,h2,by omega,r⟩
theorem OwnC.of_append {e:TypeId} {size:Nat} {w':World} {base g n cap m:Nat} {v':Value} {cs:List Value} (h:w'.ownsRow base e size v' (n+m) cs)
 (hv:v'=SN↔(SL g n cap)=SN∧m=0):∃g' cap',v'=SL g' (n+m) cap'∧OwnC e size w' base g' (n+m) cap' cs:=by
 rcases h.2 with ⟨h2,_⟩ | ⟨g',cap',cur,h2,r⟩
 ·have:=hv.1 h2;simp at this
 ·refine ⟨g',cap',h2,?_⟩;subst h2;exact h
theorem OwnC.grown {e:TypeId} {size B:Nat} {a w w':World} {base g n cap:Nat} {cs:List Value} (h:Below B a w) (o:OwnC e size w base g n cap cs) (hg:w.grownBy w' (SL g n cap).ownBlock) (hB:B<=base):Below B a w':=by
 have f:=o.facts;exact h.grown hg (by omega) (fun k hk=>by cases hk;show B<=g;omega)
theorem uJ {w:World} {b off n size:Nat} {cs:List Value} (h:RowC w (some (AD b off)) n size cs):∀j u,cs[j]?=some u->w.cell? (Addr.add (AD b off) j)=some u:=by
 intro j u hu;obtain ⟨h1,h3⟩:=h;rcases h3 with h3 | ⟨b',off',e,_,hc⟩
 ·subst h3;simp at h1;subst h1;simp at hu
 ·simp at e;obtain ⟨rfl,rfl⟩:=e;have e:Addr.add (AD b off) j=⟨b,off+j,none⟩:=by
   unfold Addr.add;split
   ·next h=>subst h;rfl
   ·rfl
  rw [e];exact hc j u hu
theorem qq {P:Program} (w:World) {o:Oper} {a:Act} {K:Act->World->Prop} {Q:Exit->Act->World->Prop} (s x:Operand) (t:TypeId)
 (ho:o.op=.call { callee:=.builtin .append,args:=#[s,x],argTypes:=#[t,t] }) (e:TypeId) (ht:P.underlying t=some (.slice e)) (z:Value) (size bytes:Nat)
 (hi:(P.info? e).map (fun i=>(i.zero,i.size,i.bytes))=some (some z,size,bytes)) (hzs:z.cells.size=size) (hsz:0<size)
 (base g n cap:Nat) (cs:List Value) (hs:a.eval s=SL g n cap) (hown:OwnC e size w base g n cap cs)
 (src:Option Addr) (m c:Nat) (ys:List Value) (hx:a.eval x=.slice src m c) (hnil:src=none->m=0∧c=0) (hspot:∀q,src=some q->q.spot=none) (hy:RowC w src m size ys) (h1:∀u∈ys,u.oneCell'=true)
 (hbd:(n+m)*bytes<=140737488355328) (hbd':n+m<=9223372036854775807)
 (B:Nat) (W:World) (hb:Below B W w) (hB:B<=base)
 (h:∀g' cap' w',OwnC e size w' base g' (n+m) cap' (cs++ys)->Below B W w'->K (a.put o.dst (SL g' (n+m) cap')) w'):o.wp P a w K Q:=by
 obtain ⟨i0,hi,hz0,hz1,hz2⟩:=info_parts hi;have f:=hown.facts;cases src with
 | none=>
  obtain ⟨rfl,rfl⟩:=hnil rfl;have hys:ys=[]:=by have:=hy.1;simpa using this
  subst hys;have hrun:=run_append_owned_none (P:=P) (w:=w) base t o.type e i0 size ht hi _ n cs hown;unfold Oper.wp;simp [execOp,ho,resolve,invoke,builtin,hs,hx,hrun,Result.andThen];have:=h g cap w (by simpa using hown) hb;simp only [Nat.add_zero] at this;exact this
 | some q=>
  obtain ⟨b,off,spot⟩:=q;have:=hspot ⟨b,off,spot⟩ rfl;simp at this;subst this;refine wp_append_own w s x t ho base e i0 z size bytes ht hi hz0 hz1 hz2 hzs hsz _ n _ hs hown (AD b off) m c ys hx hy.1 (uJ hy) h1 (by unfold maxLen;omega) hbd (by omega) ?_;intro v' w' h1 h2 h3;obtain ⟨g',cap',rfl,o4⟩:=OwnC.of_append h1 h3;exact h g' cap' w' o4 (OwnC.grown hb hown h2 hB)
theorem iC {P:Program} (w:World) {ops:Array Oper} {rest:List Oper} {o:Oper} {a:Act} {Q:Exit->Act->World->Prop} (hgd:o.guard=none) (s x:Operand) (t:TypeId)
 (ho:o.op=.call { callee:=.builtin .append,args:=#[s,x],argTypes:=#[t,t] }) (e:TypeId) (ht:P.underlying t=some (.slice e)) (z:Value) (size bytes:Nat)
 (hi:(P.info? e).map (fun i=>(i.zero,i.size,i.bytes))=some (some z,size,bytes)) (hzs:z.cells.size=size) (hsz:0<size)
 (base g n cap:Nat) (cs:List Value) (hs:a.eval s=SL g n cap) (hown:OwnC e size w base g n cap cs)
 (src:Option Addr) (m c:Nat) (ys:List Value) (hx:a.eval x=.slice src m c) (hnil:src=none->m=0∧c=0) (hspot:∀q,src=some q->q.spot=none) (hy:RowC w src m size ys) (h1:∀u∈ys,u.oneCell'=true)
 (hbd:(n+m)*bytes<=140737488355328) (hbd':n+m<=9223372036854775807)
 (B:Nat) (W:World) (hb:Below B W w) (hB:B<=base)
 (h:∀g' cap' w',OwnC e size w' base g' (n+m) cap' (cs++ys)->Below B W w'->wpList P ops Q rest (a.put o.dst (SL g' (n+m) cap')) w'):wpList P ops Q (o::rest) a w:=
 wpList_plain hgd fun _ hK=>qq w s x t ho e ht z size bytes hi hzs hsz base g n cap cs hs hown src m c ys hx hnil hspot hy h1 hbd hbd' B W hb hB fun g' cap' w' h2 h3=>hK _ _ (h g' cap' w' h2 h3)
theorem mT {P:Program} (w:World) {ops:Array Oper} {o:Oper} {a:Act} {K:Act->World->Prop} {Q:Exit->Act->World->Prop} {E:Prop} (hgd:o.guard=none) (s x:Operand) (t:TypeId)
 (ho:o.op=.call { callee:=.builtin .append,args:=#[s,x],argTypes:=#[t,t] }) (e:TypeId) (ht:P.underlying t=some (.slice e)) (z:Value) (size bytes:Nat)
 (hi:(P.info? e).map (fun i=>(i.zero,i.size,i.bytes))=some (some z,size,bytes)) (hzs:z.cells.size=size) (hsz:0<size)
 (base g n cap:Nat) (cs:List Value) (hs:a.eval s=SL g n cap) (hown:OwnC e size w base g n cap cs)
 (src:Option Addr) (m c:Nat) (ys:List Value) (hx:a.eval x=.slice src m c) (hnil:src=none->m=0∧c=0) (hspot:∀q,src=some q->q.spot=none) (hy:RowC w src m size ys) (h1:∀u∈ys,u.oneCell'=true)
 (hbd:(n+m)*bytes<=140737488355328) (hbd':n+m<=9223372036854775807)
 (B:Nat) (W:World) (hb:Below B W w) (hB:B<=base)
 (h:∀g' cap' w',OwnC e size w' base g' (n+m) cap' (cs++ys)->Below B W w'->K (a.put o.dst (SL g' (n+m) cap')) w'):
 if Region.wanted o (yielded ops a.tmps)=true then Oper.wp P o a w K Q else E:=by
 have hw:Region.wanted o (yielded ops a.tmps)=true:=by simp [Region.wanted,hgd]
 rw [if_pos hw];exact qq w s x t ho e ht z size bytes hi hzs hsz base g n cap cs hs hown src m c ys hx hnil hspot hy h1 hbd hbd' B W hb hB h
def da (va level:Int):Int:=if level=0 then va/64%8 else if level=1 then va/512%8 else va/4096%8
abbrev aP:=Int × Int × Int
def bu (zs:List Int) (va:Int):Nat->Int->Int × Int × Int × List aP
 | l,n=>
  if dO zs.length (64*n+8*da va l) 8=false then (3,l,0,[])
  else if aU (rdV zs (64*n+8*da va l) 8) l=0 then (2,l,0,[])
  else if aU (rdV zs (64*n+8*da va l) 8) l=2 then (1,l,rdV zs (64*n+8*da va l) 8,[((l:Int),64*n+8*da va l,rdV zs (64*n+8*da va l) 8)])
  else match l with
   | 0=>(2,0,0,[])
   | k+1=>((bu zs va k (dA (rdV zs (64*n+8*da va l) 8))).1,(bu zs va k (dA (rdV zs (64*n+8*da va l) 8))).2.1,(bu zs va k (dA (rdV zs (64*n+8*da va l) 8))).2.2.1,
    ((l:Int),64*n+8*da va l,rdV zs (64*n+8*da va l) 8)::(bu zs va k (dA (rdV zs (64*n+8*da va l) 8))).2.2.2)
def bD (zs:List Int) (root va:Int):Int × Int × Int × List aP:=
 if cR va=false then (2,2,0,[]) else bu zs va 2 (root%17592186044416)
def eU (kind:Int):Int:=if kind=0 then 12 else if kind=1 then 13 else 15
def bO (kind:Int):Int:=if kind=0 then 1 else if kind=1 then 5 else 7
def onM (mode satp:Int):Bool:=satp/1152921504606846976%16 == 8 && (mode == 0 || mode == 1)
def aN (satp:Int):Int:=satp/17592186044416%65536
def fT (pte level mode:Int) (sum mxr:Bool) (kind va:Int):Int × Int:=
 if cG pte kind mode sum mxr=true then (0,fH pte level va) else (eU kind,0)
def cK (r:Int × Int × Int × List aP) (mode:Int) (sum mxr:Bool) (kind va:Int):Int × Int:=
 if r.1=2 then (eU kind,0) else if r.1=3 then (bO kind,0) else fT r.2.2.1 r.2.1 mode sum mxr kind va
def fP (zs:List Int) (mode:Int) (sum mxr:Bool) (satp kind va:Int):Int × Int:=
 if kind<0∨2<kind∨mode<0∨2<mode then (63,0)
 else if onM mode satp=false then (0,va)
 else cK (bD zs satp va) mode sum mxr kind va
end Go.Proofs.YthdgiakgepmabaaGreat
