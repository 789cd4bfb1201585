import Derived.Test.YtpdddbobhndbjaaGreatPk01
import Derived.Deep.RegionHeld3
import Derived.Deep.DrawnRows
namespace Go.Proofs.YtpdddbobhndbjaaGreat
open Go.RowKit
set_option linter.unusedVariables false
set_option maxHeartbeats 6400000
set_option maxRecDepth 20000
theorem Dt (k:Nat) (h:k<=62):1<=(2:Int)^k∧(2:Int)^k<=4611686018427387904:=by
 have h1:(2:Nat)^k<=2^62:=Nat.pow_le_pow_right (by omega) h;have h2:1<=(2:Nat)^k:=Nat.one_le_two_pow;have e:(2:Int)^k=((2^k:Nat):Int):=by push_cast;rfl
 rw [e];omega
theorem cx {a b:Int} (h:a=b):Ending.returned (.int .i64 a)=.returned (.int .i64 b):=by rw [h]
theorem aE {a b:Bool} (h:a=b):Ending.returned (.bool a)=.returned (.bool b):=by rw [h]
theorem Ab (k:Nat):∀(n:Int) (w:World),n<=k->k<=63->n.toNat=k->
 Calls Tryz.prog 57 #[.int .i64 n] w fun e w'=>e=.returned (.int .u64 (2^k))∧w'=w:=by
 induction k with
 | zero=>
  intro n w h h' h'';have hn:n<=0:=by omega
  go_enter Tryz.func57,Tryz.ntmps57;go_wp2_with fail;go_ret;exact ⟨rfl,rfl⟩
 | succ k ih=>
  intro n w h h' h'';have hn:¬n<=0:=by omega
  have hb:=Dt k (by omega);have IH:Hid (∀(n:Int) (w:World),n<=k->k<=63->n.toNat=k->
   Calls Tryz.prog 57 #[.int .i64 n] w fun e w'=>e=.returned (.int .u64 (2^k))∧w'=w):=ih
  have HE:Hid ((2:Int)^(k+1)=2*2^k):=by show _=_;rw [Int.pow_succ,Int.mul_comm]
  rw [HE.out];clear ih HE;have H'':=hid h'';clear h'';generalize (2:Int)^k=p at *;go_enter Tryz.func57,Tryz.ntmps57;go_wp2_with fail;refine (IH.out (n-1) w (by omega) (by omega) (by have:=H''.out;omega)).mono ?_;rintro e w' ⟨rfl,rfl⟩;go_wp2_with fail;go_ret;exact ⟨rfl,rfl⟩
theorem bV (n p:Int) (w:World) (hn:n<=63) (hp:p=2^n.toNat):
 Calls Tryz.prog 57 #[.int .i64 n] w fun e w'=>e=.returned (.int .u64 p)∧w'=w:=by
 rw [hp];exact Ab n.toNat n w (by omega) (by omega) rfl
theorem bK (x i j p q:Int) (w:World) (h0:0<=x) (h1:x<=18446744073709551615) (hi:0<=i) (hi':i<=63) (hj:i<=j+1) (hj':j-i<=62) (hp:p=2^i.toNat) (hq:q=2^(j-i+1).toNat):
 Calls Tryz.prog 59 #[.int .u64 x,.int .i64 i,.int .i64 j] w fun e w'=>e=.returned (.int .u64 (x/p%q))∧∃n,w'=w.drewN n:=by
 have hp1:1<=p:=by rw [hp];exact Int.pow_pos (by omega:(0:Int)<2)
 have hq1:1<=q:=by rw [hq];exact Int.pow_pos (by omega:(0:Int)<2)
 have hxp:0<=x/p:=Int.ediv_nonneg h0 (by omega);have HP:Hid (p=2^i.toNat):=hp;have HQ:Hid (q=2^(j-i+1).toNat):=hq;clear hp hq;go_enter Tryz.func59,Tryz.ntmps59;go_wp2_with fail;go_quiet (first
  | (go_at_call_of 57 (Value.int IntKind.i64 i);exact Calls.quiet_of_same (bV i p _ (by omega) HP.out))
  | (go_at_call 57;exact Calls.quiet_of_same (bV (j-i+1) q _ (by omega) HQ.out)))
 go_wp2_with fail;go_ret;exact ⟨rfl,nq,rfl⟩
theorem bQ (x i p:Int) (w:World) (h0:0<=x) (h1:x<=18446744073709551615) (hi:0<=i) (hi':i<=63) (hp:p=2^i.toNat):
 Calls Tryz.prog 92 #[.int .u64 x,.int .i64 i] w fun e w'=>e=.returned (.bool (bR x p))∧∃n,w'=w.drewN n:=by
 have HP:=hid hp;clear hp;go_enter Tryz.func92,Tryz.ntmps92;go_wp2_with fail;refine (bK x i i p 2 w h0 h1 hi hi' (by omega) (by omega) HP.out (by rw [show i-i+1=1 by omega];rfl)).mono ?_;rintro e w' ⟨rfl,nq,rfl⟩;go_wp2_with fail;go_ret;exact ⟨rfl,nq,rfl⟩
theorem dx (x:Int) (w:World) (h0:0<=x) (h1:x<=18446744073709551615):
 Calls Tryz.prog 118 #[.int .u64 x] w fun e w'=>e=.returned (.int .u64 (dG x))∧∃n,w'=w.drewN n:=by
 go_enter Tryz.func118,Tryz.ntmps118;go_wp2_with fail;refine (bK x 10 53 1024 17592186044416 w h0 h1 (by omega) (by omega) (by omega) (by omega) rfl rfl).mono ?_;rintro e w' ⟨rfl,nq,rfl⟩;go_wp2_with fail;go_ret;exact ⟨rfl,nq,rfl⟩
theorem er (x:Int) (w:World) (h0:0<=x) (h1:x<=18446744073709551615):
 Calls Tryz.prog 112 #[.int .u64 x] w fun e w'=>e=.returned (.bool (du x))∧∃n,w'=w.drewN n:=by
 go_enter Tryz.func112,Tryz.ntmps112;go_wp2_with fail;refine (bK x 14 63 16384 1125899906842624 w h0 h1 (by omega) (by omega) (by omega) (by omega) rfl rfl).mono ?_;rintro e w' ⟨rfl,nq,rfl⟩;by_cases ht:x/16384%1125899906842624=0
 ·have ht':(x/16384%1125899906842624 == 0)=true:=by simp [ht]
  clear ht;go_wp2_with fail;go_ret;exact ⟨by simp [du,ht'],nq,rfl⟩
 ·have ht':(x/16384%1125899906842624 == 0)=false:=by simpa using ht
  clear ht;go_wp2_with (go_at_call 57;refine (bV 50 1125899906842624 _ (by omega) rfl).mono ?_;rintro e w' ⟨rfl,rfl⟩);go_ret;exact ⟨by simp [du,ht'],nq,rfl⟩
theorem fI (pte level:Int) (w:World) (h0:0<=pte) (h1:pte<=18446744073709551615) (hl: -9223372036854775808<=level) (hl':level<=9223372036854775807):
 Calls Tryz.prog 119 #[.int .u64 pte,.int .i64 level] w fun e w'=>e=.returned (.int .i64 (bC pte level))∧∃n,w'=w.drewN n:=by
 go_enter Tryz.func119,Tryz.ntmps119;go_wp2_with fail;refine (bQ pte 1 2 w h0 h1 (by omega) (by omega) rfl).mono ?_;rintro e w' ⟨rfl,n1,rfl⟩;go_wp2_with fail;refine (bQ pte 2 4 _ h0 h1 (by omega) (by omega) rfl).mono ?_;rintro e w' ⟨rfl,n2,rfl⟩;go_wp2_with fail;refine (bQ pte 3 8 _ h0 h1 (by omega) (by omega) rfl).mono ?_;rintro e w' ⟨rfl,n3,rfl⟩;go_wp2_with fail;refine (bQ pte 4 16 _ h0 h1 (by omega) (by omega) rfl).mono ?_;rintro e w' ⟨rfl,n4,rfl⟩;go_wp2_with fail;refine (bQ pte 6 64 _ h0 h1 (by omega) (by omega) rfl).mono ?_;rintro e w' ⟨rfl,n5,rfl⟩;go_wp2_with fail;refine (bQ pte 7 128 _ h0 h1 (by omega) (by omega) rfl).mono ?_;rintro e w' ⟨rfl,n6,rfl⟩;by_cases hlev:0<=level∧level<=2
 ·obtain ⟨hl0,hl2⟩:=hlev;cases hV:bR pte 1
  ·go_wp2_with (first
    | (go_at_call 92;refine (bQ pte 0 1 _ h0 h1 (by omega) (by omega) rfl).mono ?_;rintro e w' ⟨rfl,n7,rfl⟩;rw [hV]))
   go_ret;exact ⟨cx (by simp [bC,hV]),_,rfl⟩
  ·by_cases hres:0<pte/18014398509481984%1024
   ·go_wp2_with (first
     | (go_at_call 92;refine (bQ pte 0 1 _ h0 h1 (by omega) (by omega) rfl).mono ?_;rintro e w' ⟨rfl,n7,rfl⟩;rw [hV])
     | (go_at_call 59;refine (bK pte 54 63 18014398509481984 1024 _ h0 h1 (by omega) (by omega) (by omega) (by omega) rfl rfl).mono ?_;rintro e w' ⟨rfl,n8,rfl⟩))
    go_ret;exact ⟨cx (by simp [bC,hres]),_,rfl⟩
   ·have hres':decide (0<pte/18014398509481984%1024)=false:=by simpa using hres
    cases hr:bR pte 2 <;> cases hw:bR pte 4
    ·cases hx:bR pte 8
     ·cases hu:bR pte 16 <;> cases ha:bR pte 64 <;> cases hd:bR pte 128;all_goals
       rcases (show level=0∨level=1∨level=2 by omega) with rfl | rfl | rfl;all_goals
        go_wp2_with (first
         | (go_at_call 92;refine (bQ pte 0 1 _ h0 h1 (by omega) (by omega) rfl).mono ?_;rintro e w' ⟨rfl,n7,rfl⟩;rw [hV])
         | (go_at_call 59;refine (bK pte 54 63 18014398509481984 1024 _ h0 h1 (by omega) (by omega) (by omega) (by omega) rfl rfl).mono ?_;rintro e w' ⟨rfl,n8,rfl⟩))
        go_ret;exact ⟨cx (by simp [bC,hV,hr,hw,hx,hu,ha,hd,hres]),_,rfl⟩
     ·
      obtain ⟨t,ht⟩:∃t,dG pte=t:=⟨_,rfl⟩;have hpp:0<=t:=by rw [<-ht];exact Int.emod_nonneg _ (by omega)
      have HPP:=hid ht;clear ht;rcases (show level=0∨level=1∨level=2 by omega) with rfl | rfl | rfl
      ·go_wp2_with (first
        | (go_at_call 92;refine (bQ pte 0 1 _ h0 h1 (by omega) (by omega) rfl).mono ?_;rintro e w' ⟨rfl,n7,rfl⟩;rw [hV])
        | (go_at_call 59;refine (bK pte 54 63 18014398509481984 1024 _ h0 h1 (by omega) (by omega) (by omega) (by omega) rfl rfl).mono ?_;rintro e w' ⟨rfl,n8,rfl⟩)
        | (go_at_call 118;refine (dx pte _ h0 h1).mono ?_;rintro e w' ⟨rfl,n9,rfl⟩;rw [HPP.out])
        | (go_at_call 57;refine (bV _ 1 _ (by omega) rfl).mono ?_;rintro e w' ⟨rfl,rfl⟩))
       go_ret;exact ⟨cx (by simp [bC,hV,hr,hw,hx,hres,iy,Int.emod_one]),_,rfl⟩
      ·by_cases hm:0<t%8
       ·go_wp2_with (first
         | (go_at_call 92;refine (bQ pte 0 1 _ h0 h1 (by omega) (by omega) rfl).mono ?_;rintro e w' ⟨rfl,n7,rfl⟩;rw [hV])
         | (go_at_call 59;refine (bK pte 54 63 18014398509481984 1024 _ h0 h1 (by omega) (by omega) (by omega) (by omega) rfl rfl).mono ?_;rintro e w' ⟨rfl,n8,rfl⟩)
         | (go_at_call 118;refine (dx pte _ h0 h1).mono ?_;rintro e w' ⟨rfl,n9,rfl⟩;rw [HPP.out])
         | (go_at_call 57;refine (bV _ 8 _ (by omega) rfl).mono ?_;rintro e w' ⟨rfl,rfl⟩))
        go_ret;exact ⟨cx (by simp [bC,hV,hr,hw,hx,show ¬0<pte/18014398509481984%1024 by omega,iy,HPP.out,hm]),_,rfl⟩
       ·go_wp2_with (first
         | (go_at_call 92;refine (bQ pte 0 1 _ h0 h1 (by omega) (by omega) rfl).mono ?_;rintro e w' ⟨rfl,n7,rfl⟩;rw [hV])
         | (go_at_call 59;refine (bK pte 54 63 18014398509481984 1024 _ h0 h1 (by omega) (by omega) (by omega) (by omega) rfl rfl).mono ?_;rintro e w' ⟨rfl,n8,rfl⟩)
         | (go_at_call 118;refine (dx pte _ h0 h1).mono ?_;rintro e w' ⟨rfl,n9,rfl⟩;rw [HPP.out])
         | (go_at_call 57;refine (bV _ 8 _ (by omega) rfl).mono ?_;rintro e w' ⟨rfl,rfl⟩))
        go_ret;exact ⟨cx (by simp [bC,hV,hr,hw,hx,show ¬0<pte/18014398509481984%1024 by omega,show ¬0<t%8 by omega,iy,HPP.out]),_,rfl⟩
      ·by_cases hm:0<t%64
       ·go_wp2_with (first
         | (go_at_call 92;refine (bQ pte 0 1 _ h0 h1 (by omega) (by omega) rfl).mono ?_;rintro e w' ⟨rfl,n7,rfl⟩;rw [hV])
         | (go_at_call 59;refine (bK pte 54 63 18014398509481984 1024 _ h0 h1 (by omega) (by omega) (by omega) (by omega) rfl rfl).mono ?_;rintro e w' ⟨rfl,n8,rfl⟩)
         | (go_at_call 118;refine (dx pte _ h0 h1).mono ?_;rintro e w' ⟨rfl,n9,rfl⟩;rw [HPP.out])
         | (go_at_call 57;refine (bV _ 64 _ (by omega) rfl).mono ?_;rintro e w' ⟨rfl,rfl⟩))
        go_ret;exact ⟨cx (by simp [bC,hV,hr,hw,hx,show ¬0<pte/18014398509481984%1024 by omega,iy,HPP.out,hm]),_,rfl⟩
       ·go_wp2_with (first
         | (go_at_call 92;refine (bQ pte 0 1 _ h0 h1 (by omega) (by omega) rfl).mono ?_;rintro e w' ⟨rfl,n7,rfl⟩;rw [hV])
         | (go_at_call 59;refine (bK pte 54 63 18014398509481984 1024 _ h0 h1 (by omega) (by omega) (by omega) (by omega) rfl rfl).mono ?_;rintro e w' ⟨rfl,n8,rfl⟩)
         | (go_at_call 118;refine (dx pte _ h0 h1).mono ?_;rintro e w' ⟨rfl,n9,rfl⟩;rw [HPP.out])
         | (go_at_call 57;refine (bV _ 64 _ (by omega) rfl).mono ?_;rintro e w' ⟨rfl,rfl⟩))
        go_ret;exact ⟨cx (by simp [bC,hV,hr,hw,hx,show ¬0<pte/18014398509481984%1024 by omega,show ¬0<t%64 by omega,iy,HPP.out]),_,rfl⟩
    ·
     go_wp2_with (first
      | (go_at_call 92;refine (bQ pte 0 1 _ h0 h1 (by omega) (by omega) rfl).mono ?_;rintro e w' ⟨rfl,n7,rfl⟩;rw [hV])
      | (go_at_call 59;refine (bK pte 54 63 18014398509481984 1024 _ h0 h1 (by omega) (by omega) (by omega) (by omega) rfl rfl).mono ?_;rintro e w' ⟨rfl,n8,rfl⟩))
     go_ret;exact ⟨cx (by simp [bC,hr,hw]),_,rfl⟩
    ·
     obtain ⟨t,ht⟩:∃t,dG pte=t:=⟨_,rfl⟩;have hpp:0<=t:=by rw [<-ht];exact Int.emod_nonneg _ (by omega)
     have HPP:=hid ht;clear ht;rcases (show level=0∨level=1∨level=2 by omega) with rfl | rfl | rfl
     ·go_wp2_with (first
       | (go_at_call 92;refine (bQ pte 0 1 _ h0 h1 (by omega) (by omega) rfl).mono ?_;rintro e w' ⟨rfl,n7,rfl⟩;rw [hV])
       | (go_at_call 59;refine (bK pte 54 63 18014398509481984 1024 _ h0 h1 (by omega) (by omega) (by omega) (by omega) rfl rfl).mono ?_;rintro e w' ⟨rfl,n8,rfl⟩)
       | (go_at_call 118;refine (dx pte _ h0 h1).mono ?_;rintro e w' ⟨rfl,n9,rfl⟩;rw [HPP.out])
       | (go_at_call 57;refine (bV _ 1 _ (by omega) rfl).mono ?_;rintro e w' ⟨rfl,rfl⟩))
      go_ret;exact ⟨cx (by simp [bC,hV,hr,hw,hres,iy,Int.emod_one]),_,rfl⟩
     ·by_cases hm:0<t%8
      ·go_wp2_with (first
        | (go_at_call 92;refine (bQ pte 0 1 _ h0 h1 (by omega) (by omega) rfl).mono ?_;rintro e w' ⟨rfl,n7,rfl⟩;rw [hV])
        | (go_at_call 59;refine (bK pte 54 63 18014398509481984 1024 _ h0 h1 (by omega) (by omega) (by omega) (by omega) rfl rfl).mono ?_;rintro e w' ⟨rfl,n8,rfl⟩)
        | (go_at_call 118;refine (dx pte _ h0 h1).mono ?_;rintro e w' ⟨rfl,n9,rfl⟩;rw [HPP.out])
        | (go_at_call 57;refine (bV _ 8 _ (by omega) rfl).mono ?_;rintro e w' ⟨rfl,rfl⟩))
       go_ret;exact ⟨cx (by simp [bC,hV,hr,hw,show ¬0<pte/18014398509481984%1024 by omega,iy,HPP.out,hm]),_,rfl⟩
      ·go_wp2_with (first
        | (go_at_call 92;refine (bQ pte 0 1 _ h0 h1 (by omega) (by omega) rfl).mono ?_;rintro e w' ⟨rfl,n7,rfl⟩;rw [hV])
        | (go_at_call 59;refine (bK pte 54 63 18014398509481984 1024 _ h0 h1 (by omega) (by omega) (by omega) (by omega) rfl rfl).mono ?_;rintro e w' ⟨rfl,n8,rfl⟩)
        | (go_at_call 118;refine (dx pte _ h0 h1).mono ?_;rintro e w' ⟨rfl,n9,rfl⟩;rw [HPP.out])
        | (go_at_call 57;refine (bV _ 8 _ (by omega) rfl).mono ?_;rintro e w' ⟨rfl,rfl⟩))
       go_ret;exact ⟨cx (by simp [bC,hV,hr,hw,show ¬0<pte/18014398509481984%1024 by omega,show ¬0<t%8 by omega,iy,HPP.out]),_,rfl⟩
     ·by_cases hm:0<t%64
      ·go_wp2_with (first
        | (go_at_call 92;refine (bQ pte 0 1 _ h0 h1 (by omega) (by omega) rfl).mono ?_;rintro e w' ⟨rfl,n7,rfl⟩;rw [hV])
        | (go_at_call 59;refine (bK pte 54 63 18014398509481984 1024 _ h0 h1 (by omega) (by omega) (by omega) (by omega) rfl rfl).mono ?_;rintro e w' ⟨rfl,n8,rfl⟩)
        | (go_at_call 118;refine (dx pte _ h0 h1).mono ?_;rintro e w' ⟨rfl,n9,rfl⟩;rw [HPP.out])
        | (go_at_call 57;refine (bV _ 64 _ (by omega) rfl).mono ?_;rintro e w' ⟨rfl,rfl⟩))
       go_ret;exact ⟨cx (by simp [bC,hV,hr,hw,show ¬0<pte/18014398509481984%1024 by omega,iy,HPP.out,hm]),_,rfl⟩
      ·go_wp2_with (first
        | (go_at_call 92;refine (bQ pte 0 1 _ h0 h1 (by omega) (by omega) rfl).mono ?_;rintro e w' ⟨rfl,n7,rfl⟩;rw [hV])
        | (go_at_call 59;refine (bK pte 54 63 18014398509481984 1024 _ h0 h1 (by omega) (by omega) (by omega) (by omega) rfl rfl).mono ?_;rintro e w' ⟨rfl,n8,rfl⟩)
        | (go_at_call 118;refine (dx pte _ h0 h1).mono ?_;rintro e w' ⟨rfl,n9,rfl⟩;rw [HPP.out])
        | (go_at_call 57;refine (bV _ 64 _ (by omega) rfl).mono ?_;rintro e w' ⟨rfl,rfl⟩))
       go_ret;exact ⟨cx (by simp [bC,hV,hr,hw,show ¬0<pte/18014398509481984%1024 by omega,show ¬0<t%64 by omega,iy,HPP.out]),_,rfl⟩
    ·
     obtain ⟨t,ht⟩:∃t,dG pte=t:=⟨_,rfl⟩;have hpp:0<=t:=by rw [<-ht];exact Int.emod_nonneg _ (by omega)
     have HPP:=hid ht;clear ht;rcases (show level=0∨level=1∨level=2 by omega) with rfl | rfl | rfl
     ·go_wp2_with (first
       | (go_at_call 92;refine (bQ pte 0 1 _ h0 h1 (by omega) (by omega) rfl).mono ?_;rintro e w' ⟨rfl,n7,rfl⟩;rw [hV])
       | (go_at_call 59;refine (bK pte 54 63 18014398509481984 1024 _ h0 h1 (by omega) (by omega) (by omega) (by omega) rfl rfl).mono ?_;rintro e w' ⟨rfl,n8,rfl⟩)
       | (go_at_call 118;refine (dx pte _ h0 h1).mono ?_;rintro e w' ⟨rfl,n9,rfl⟩;rw [HPP.out])
       | (go_at_call 57;refine (bV _ 1 _ (by omega) rfl).mono ?_;rintro e w' ⟨rfl,rfl⟩))
      go_ret;exact ⟨cx (by simp [bC,hV,hr,hw,hres,iy,Int.emod_one]),_,rfl⟩
     ·by_cases hm:0<t%8
      ·go_wp2_with (first
        | (go_at_call 92;refine (bQ pte 0 1 _ h0 h1 (by omega) (by omega) rfl).mono ?_;rintro e w' ⟨rfl,n7,rfl⟩;rw [hV])
        | (go_at_call 59;refine (bK pte 54 63 18014398509481984 1024 _ h0 h1 (by omega) (by omega) (by omega) (by omega) rfl rfl).mono ?_;rintro e w' ⟨rfl,n8,rfl⟩)
        | (go_at_call 118;refine (dx pte _ h0 h1).mono ?_;rintro e w' ⟨rfl,n9,rfl⟩;rw [HPP.out])
        | (go_at_call 57;refine (bV _ 8 _ (by omega) rfl).mono ?_;rintro e w' ⟨rfl,rfl⟩))
       go_ret;exact ⟨cx (by simp [bC,hV,hr,hw,show ¬0<pte/18014398509481984%1024 by omega,iy,HPP.out,hm]),_,rfl⟩
      ·go_wp2_with (first
        | (go_at_call 92;refine (bQ pte 0 1 _ h0 h1 (by omega) (by omega) rfl).mono ?_;rintro e w' ⟨rfl,n7,rfl⟩;rw [hV])
        | (go_at_call 59;refine (bK pte 54 63 18014398509481984 1024 _ h0 h1 (by omega) (by omega) (by omega) (by omega) rfl rfl).mono ?_;rintro e w' ⟨rfl,n8,rfl⟩)
        | (go_at_call 118;refine (dx pte _ h0 h1).mono ?_;rintro e w' ⟨rfl,n9,rfl⟩;rw [HPP.out])
        | (go_at_call 57;refine (bV _ 8 _ (by omega) rfl).mono ?_;rintro e w' ⟨rfl,rfl⟩))
       go_ret;exact ⟨cx (by simp [bC,hV,hr,hw,show ¬0<pte/18014398509481984%1024 by omega,show ¬0<t%8 by omega,iy,HPP.out]),_,rfl⟩
     ·by_cases hm:0<t%64
      ·go_wp2_with (first
        | (go_at_call 92;refine (bQ pte 0 1 _ h0 h1 (by omega) (by omega) rfl).mono ?_;rintro e w' ⟨rfl,n7,rfl⟩;rw [hV])
        | (go_at_call 59;refine (bK pte 54 63 18014398509481984 1024 _ h0 h1 (by omega) (by omega) (by omega) (by omega) rfl rfl).mono ?_;rintro e w' ⟨rfl,n8,rfl⟩)
        | (go_at_call 118;refine (dx pte _ h0 h1).mono ?_;rintro e w' ⟨rfl,n9,rfl⟩;rw [HPP.out])
        | (go_at_call 57;refine (bV _ 64 _ (by omega) rfl).mono ?_;rintro e w' ⟨rfl,rfl⟩))
       go_ret;exact ⟨cx (by simp [bC,hV,hr,hw,show ¬0<pte/18014398509481984%1024 by omega,iy,HPP.out,hm]),_,rfl⟩
      ·go_wp2_with (first
        | (go_at_call 92;refine (bQ pte 0 1 _ h0 h1 (by omega) (by omega) rfl).mono ?_;rintro e w' ⟨rfl,n7,rfl⟩;rw [hV])
        | (go_at_call 59;refine (bK pte 54 63 18014398509481984 1024 _ h0 h1 (by omega) (by omega) (by omega) (by omega) rfl rfl).mono ?_;rintro e w' ⟨rfl,n8,rfl⟩)
        | (go_at_call 118;refine (dx pte _ h0 h1).mono ?_;rintro e w' ⟨rfl,n9,rfl⟩;rw [HPP.out])
        | (go_at_call 57;refine (bV _ 64 _ (by omega) rfl).mono ?_;rintro e w' ⟨rfl,rfl⟩))
       go_ret;exact ⟨cx (by simp [bC,hV,hr,hw,show ¬0<pte/18014398509481984%1024 by omega,show ¬0<t%64 by omega,iy,HPP.out]),_,rfl⟩
 ·by_cases hneg:level<0
  ·go_wp2_with fail;go_ret;exact ⟨cx (by simp [bC,hneg]),_,rfl⟩
  ·have hgt:2<level:=by omega
   go_wp2_with fail;go_ret;exact ⟨cx (by simp [bC,hgt]),_,rfl⟩
theorem kV (pte kind mode:Int) (sum mxr:Bool) (w:World) (h0:0<=pte) (h1:pte<=18446744073709551615):
 Calls Tryz.prog 137 #[.int .u64 pte,.int .i64 kind,.int .i64 mode,.bool sum,.bool mxr] w fun e w'=>e=.returned (.bool (dm pte kind mode sum mxr))∧∃n,w'=w.drewN n:=by
 go_enter Tryz.func137,Tryz.ntmps137;go_wp2_with fail;refine (bQ pte 1 2 w h0 h1 (by omega) (by omega) rfl).mono ?_;rintro e w' ⟨rfl,n1,rfl⟩;go_wp2_with fail;refine (bQ pte 2 4 _ h0 h1 (by omega) (by omega) rfl).mono ?_;rintro e w' ⟨rfl,n2,rfl⟩;go_wp2_with fail;refine (bQ pte 3 8 _ h0 h1 (by omega) (by omega) rfl).mono ?_;rintro e w' ⟨rfl,n3,rfl⟩;go_wp2_with fail;refine (bQ pte 4 16 _ h0 h1 (by omega) (by omega) rfl).mono ?_;rintro e w' ⟨rfl,n4,rfl⟩;go_wp2_with fail;refine (bQ pte 6 64 _ h0 h1 (by omega) (by omega) rfl).mono ?_;rintro e w' ⟨rfl,n5,rfl⟩;go_wp2_with fail;refine (bQ pte 7 128 _ h0 h1 (by omega) (by omega) rfl).mono ?_;rintro e w' ⟨rfl,n6,rfl⟩;by_cases k0:kind=0
 ·subst k0;by_cases m0:mode=0
  ·subst m0;go_wp2_with fail;all_goals (go_ret;exact ⟨aE (by simp_all [dm]),_,rfl⟩)
  by_cases m1:mode=1
  ·subst m1;go_wp2_with fail;all_goals (go_ret;exact ⟨aE (by simp_all [dm]),_,rfl⟩)
  ·have m0':(mode == 0)=false:=by simpa using m0
   have m1':(mode == 1)=false:=by simpa using m1
   go_wp2_with fail;all_goals (go_ret;exact ⟨aE (by simp_all [dm]),_,rfl⟩)
 by_cases k1:kind=1
 ·subst k1;by_cases m0:mode=0
  ·subst m0;go_wp2_with fail;all_goals (go_ret;exact ⟨aE (by simp_all [dm]),_,rfl⟩)
  by_cases m1:mode=1
  ·subst m1;go_wp2_with fail;all_goals (go_ret;exact ⟨aE (by simp_all [dm]),_,rfl⟩)
  ·have m0':(mode == 0)=false:=by simpa using m0
   have m1':(mode == 1)=false:=by simpa using m1
   go_wp2_with fail;all_goals (go_ret;exact ⟨aE (by simp_all [dm]),_,rfl⟩)
 by_cases k2:kind=2
 ·subst k2;by_cases m0:mode=0
  ·subst m0;go_wp2_with fail;all_goals (go_ret;exact ⟨aE (by simp_all [dm]),_,rfl⟩)
  by_cases m1:mode=1
  ·subst m1;go_wp2_with fail;all_goals (go_ret;exact ⟨aE (by simp_all [dm]),_,rfl⟩)
  ·have m0':(mode == 0)=false:=by simpa using m0
   have m1':(mode == 1)=false:=by simpa using m1
   go_wp2_with fail;all_goals (go_ret;exact ⟨aE (by simp_all [dm]),_,rfl⟩)
 have k0':(kind == 0)=false:=by simpa using k0
 have k1':(kind == 1)=false:=by simpa using k1
 have k2':(kind == 2)=false:=by simpa using k2
 by_cases m0:mode=0
 ·subst m0;go_wp2_with fail;all_goals (go_ret;exact ⟨aE (by simp_all [dm]),_,rfl⟩)
 by_cases m1:mode=1
 ·subst m1;go_wp2_with fail;all_goals (go_ret;exact ⟨aE (by simp_all [dm]),_,rfl⟩)
 ·have m0':(mode == 0)=false:=by simpa using m0
  have m1':(mode == 1)=false:=by simpa using m1
  go_wp2_with fail;all_goals (go_ret;exact ⟨aE (by simp_all [dm]),_,rfl⟩)
theorem sR (pte level va:Int) (w:World) (h0:0<=pte) (h1:pte<=18446744073709551615) (hv:0<=va) (hv':va<=18446744073709551615) (hl: -9223372036854775808<=level) (hl':level<=9223372036854775807):
 Calls Tryz.prog 138 #[.int .u64 pte,.int .i64 level,.int .u64 va] w fun e w'=>e=.returned (.int .u64 (fP pte level va))∧∃n,w'=w.drewN n:=by
 by_cases hneg:level<0
 ·go_enter Tryz.func138,Tryz.ntmps138;go_wp2_with fail;go_ret;exact ⟨dH (by simp [fP,hneg]),0,rfl⟩
 by_cases hgt:2<level
 ·go_enter Tryz.func138,Tryz.ntmps138;go_wp2_with fail;go_ret;exact ⟨dH (by simp [fP,hgt]),0,rfl⟩
 have hpp:0<=dG pte∧dG pte<17592186044416:=⟨Int.emod_nonneg _ (by omega),Int.emod_lt_of_pos _ (by omega)⟩;rcases (show level=0∨level=1∨level=2 by omega) with rfl | rfl | rfl
 ·go_enter Tryz.func138,Tryz.ntmps138;go_wp2_with fail;refine (bV 6 64 _ (by omega) rfl).mono ?_;rintro e w' ⟨rfl,rfl⟩;go_wp2_with fail;go_quiet ((go_at_call 118;exact Calls.quiet_of (dx pte _ h0 h1)));go_wp2_with fail;go_ret;exact ⟨dH (by simp [fP,gL]),nq,rfl⟩
 ·go_enter Tryz.func138,Tryz.ntmps138;go_wp2_with fail;refine (bV 9 512 _ (by omega) rfl).mono ?_;rintro e w' ⟨rfl,rfl⟩;go_wp2_with fail;go_quiet ((go_at_call 118;exact Calls.quiet_of (dx pte _ h0 h1)));go_wp2_with fail;go_ret;exact ⟨dH (by simp [fP,gL]),nq,rfl⟩
 ·go_enter Tryz.func138,Tryz.ntmps138;go_wp2_with fail;refine (bV 12 4096 _ (by omega) rfl).mono ?_;rintro e w' ⟨rfl,rfl⟩;go_wp2_with fail;go_quiet ((go_at_call 118;exact Calls.quiet_of (dx pte _ h0 h1)));go_wp2_with fail;go_ret;exact ⟨dH (by simp [fP,gL]),nq,rfl⟩
def RowC (w:World) (a:Option Addr) (n size:Nat) (cs:List Value):Prop:=
 cs.length=n*size∧(n=0∨∃b off,a=some ⟨b,off,none⟩∧b<w.heap.size∧∀i v,cs[i]?=some v->w.cell? ⟨b,off+i,none⟩=some v)
theorem RowC.keep {w w':World} {a:Option Addr} {n size:Nat} {cs:List Value} (h:RowC w a n size cs) (hb:Bw w w'):RowC w' a n size cs:=by
 obtain ⟨h1,h3⟩:=h;refine ⟨h1,?_⟩;rcases h3 with h3 | ⟨b,off,rfl,hlt,hc⟩
 ·exact .inl h3
 ·exact .inr ⟨b,off,rfl,Nat.lt_of_lt_of_le hlt hb.size,fun i v hi=>(hb.cell (p:=⟨b,off+i,none⟩) hlt).trans (hc i v hi)⟩
theorem RowC.gb {w w':World} {b off n size r:Nat} {cs:List Value} (h:RowC w (some ⟨b,off,none⟩) n size cs) (hg:w.grownBy w' (some r)) (hne:b≠r):RowC w' (some ⟨b,off,none⟩) n size cs:=by
 obtain ⟨h1,h3⟩:=h;refine ⟨h1,?_⟩;rcases h3 with h3 | ⟨b',off',e,hlt,hc⟩
 ·exact .inl h3
 ·simp at e;obtain ⟨rfl,rfl⟩:=e;exact .inr ⟨b,off,rfl,Nat.lt_of_lt_of_le hlt hg.size,fun i v hi=>(World.cell?_of_block (hg.block b hlt (by simpa using hne))).trans (hc i v hi)⟩
theorem RowC.gb' {w w':World} {a:Option Addr} {n size r:Nat} {cs:List Value} (h:RowC w a n size cs) (hg:w.grownBy w' (some r)) (hne:∀q,a=some q->q.block≠r):RowC w' a n size cs:=by
 obtain ⟨h1,h3⟩:=h;refine ⟨h1,?_⟩;rcases h3 with h3 | ⟨b,off,rfl,hlt,hc⟩
 ·exact .inl h3
 ·have hne':=hne ⟨b,off,none⟩ rfl;exact .inr ⟨b,off,rfl,Nat.lt_of_lt_of_le hlt hg.size,fun i v hi=>(World.cell?_of_block (hg.block b hlt (by simpa using hne'))).trans (hc i v hi)⟩
theorem aC {w w':World} {g r:Nat} {o:Obj} (h:w.heap[g]?=some o) (hg:w.grownBy w' (some r)) (hne:g≠r):w'.heap[g]?=some o:=by
 rw [hg.block g (hpl h) (by simpa using hne),h]
theorem RowC.nil (w:World) (a:Option Addr) (size:Nat):RowC w a 0 size []:=⟨by simp,.inl rfl⟩
theorem Below.froz2 {w w':World} (h:Bw w w') {b o:Nat} {x:Bool} (hc:w.frozen? ⟨b,o,none⟩=x) (hb:b<w.heap.size):w'.frozen? ⟨b,o,none⟩=x:=(h.frozen (p:=⟨b,o,none⟩) hb).trans hc
def OwnC (e:TypeId) (size:Nat) (w:World) (base g n cap:Nat) (cs:List Value):Prop:=
 w.ownsRow base e size (.slice (some ⟨g,0,none⟩) n cap) n cs
theorem OwnC.new (e:TypeId) (size:Nat) (w:World) (cs:List Value) (n:Nat) (hn:cs.length=n*size) (hm:n<=maxLen):OwnC e size (w.alloc (.cells cs.toArray e)) w.heap.size w.heap.size n n cs:=
 ⟨hn,.inr ⟨w.heap.size,n,_,rfl,nle,heap_alloc_new w _,nle,hm,by simp [hn],List.take_of_length_le (by simp [hn])⟩⟩
theorem OwnC.facts {e:TypeId} {size:Nat} {w:World} {base g n cap:Nat} {cs:List Value} (h:OwnC e size w base g n cap cs):
 cs.length=n*size∧base<=g∧g<w.heap.size∧n<=cap∧cap<=maxLen:=by
 obtain ⟨h1,h2⟩:=h;rcases h2 with ⟨h2,_⟩ | ⟨g',cap',cur,h2,hb,hh,hn,hm,hs,ht⟩
 ·simp at h2
 ·simp at h2;obtain ⟨rfl,rfl⟩:=h2;exact ⟨h1,hb,(hpl hh),hn,hm⟩
theorem OwnC.row {e:TypeId} {size:Nat} {w:World} {base g n cap:Nat} {cs:List Value} (h:OwnC e size w base g n cap cs):RowC w (some ⟨g,0,none⟩) n size cs:=by
 refine ⟨h.1,.inr ⟨g,0,rfl,h.facts.2.2.1,fun i v hi=>?_⟩⟩;have hl:=(List.getElem?_eq_some_iff.1 hi).1;rw [Nat.zero_add,World.ownsRow.cellAt h i (by rw [<-h.1];exact hl),hi]
theorem OwnC.keep {e:TypeId} {size B:Nat} {w w':World} {base g n cap:Nat} {cs:List Value} (h:OwnC e size w base g n cap cs) (hb:Below B w w') (hg:g<B):OwnC e size w' base g n cap cs:=by
 obtain ⟨h1,h2⟩:=h;refine ⟨h1,?_⟩;rcases h2 with ⟨h2,_⟩ | ⟨g',cap',cur,h2,hb',hh,r⟩
 ·simp at h2
 ·have hh':=h2;simp at hh';obtain ⟨rfl,rfl⟩:=hh';exact .inr ⟨_,_,cur,h2,hb',by rw [hb.block _ hg];exact hh,r⟩
theorem OwnC.gb {e:TypeId} {size:Nat} {w w':World} {base g n cap r:Nat} {cs:List Value} (h:OwnC e size w base g n cap cs) (hg:w.grownBy w' (some r)) (hne:g≠r):OwnC e size w' base g n cap cs:=by
 obtain ⟨h1,h2⟩:=h;refine ⟨h1,?_⟩;rcases h2 with ⟨h2,_⟩ | ⟨g',cap',cur,h2,hb',hh,r'⟩
 ·simp at h2
 ·have hh':=h2;simp at hh';obtain ⟨rfl,rfl⟩:=hh';exact .inr ⟨_,_,cur,h2,hb',by rw [hg.block _ (hpl hh) (by simpa using hne)];exact hh,r'⟩
theorem OwnC.low {e:TypeId} {size:Nat} {w:World} {base base' g n cap:Nat} {cs:List Value} (h:OwnC e size w base g n cap cs) (hb:base'<=base):OwnC e size w base' g n cap cs:=by
 obtain ⟨h1,h2⟩:=h;refine ⟨h1,?_⟩;rcases h2 with ⟨h2,_⟩ | ⟨g',cap',cur,h2,hb',r⟩
 ·simp at h2
 ·exact .inr ⟨g',cap',cur,h2,by omega,r⟩
theorem OwnC.of_append {e:TypeId} {size:Nat} {w':World} {base g n cap m:Nat} {v':Value} {cs:List Value} (h:w'.ownsRow base e size v' (n+m) cs)
 (hv:v'=.slice none 0 0↔(Value.slice (some ⟨g,0,none⟩) n cap)=.slice none 0 0∧m=0):∃g' cap',v'=.slice (some ⟨g',0,none⟩) (n+m) cap'∧OwnC e size w' base g' (n+m) cap' cs:=by
 rcases h.2 with ⟨h2,_⟩ | ⟨g',cap',cur,h2,r⟩
 ·have:=hv.1 h2;simp at this
 ·refine ⟨g',cap',h2,?_⟩;subst h2;exact h
theorem OwnC.grown {e:TypeId} {size B:Nat} {a w w':World} {base g n cap:Nat} {cs:List Value} (h:Below B a w) (o:OwnC e size w base g n cap cs) (hg:w.grownBy w' (Value.slice (some ⟨g,0,none⟩) n cap).ownBlock) (hB:B<=base):Below B a w':=by
 have f:=o.facts;exact h.grown hg (by omega) (fun k hk=>by cases hk;show B<=g;omega)
theorem qC {w:World} {b off n size:Nat} {cs:List Value} (h:RowC w (some ⟨b,off,none⟩) n size cs):∀j u,cs[j]?=some u->w.cell? (Addr.add ⟨b,off,none⟩ j)=some u:=by
 intro j u hu;obtain ⟨h1,h3⟩:=h;rcases h3 with h3 | ⟨b',off',e,_,hc⟩
 ·subst h3;simp at h1;subst h1;simp at hu
 ·simp at e;obtain ⟨rfl,rfl⟩:=e;have e:Addr.add ⟨b,off,none⟩ j=⟨b,off+j,none⟩:=by
   unfold Addr.add;split
   ·next h=>subst h;rfl
   ·rfl
  rw [e];exact hc j u hu
theorem pO {P:Program} (w:World) {o:Oper} {a:Act} {K:Act->World->Prop} {Q:Exit->Act->World->Prop} (s x:Operand) (t:TypeId)
 (ho:o.op=.call { callee:=.builtin .append,args:=#[s,x],argTypes:=#[t,t] }) (e:TypeId) (ht:P.underlying t=some (.slice e)) (z:Value) (size bytes:Nat)
 (hi:(P.info? e).map (fun i=>(i.zero,i.size,i.bytes))=some (some z,size,bytes)) (hzs:z.cells.size=size) (hsz:0<size)
 (base g n cap:Nat) (cs:List Value) (hs:a.eval s=.slice (some ⟨g,0,none⟩) n cap) (hown:OwnC e size w base g n cap cs)
 (src:Option Addr) (m c:Nat) (ys:List Value) (hx:a.eval x=.slice src m c) (hnil:src=none->m=0∧c=0) (hspot:∀q,src=some q->q.spot=none) (hy:RowC w src m size ys) (h1:∀u∈ys,u.oneCell'=true)
 (hbd:(n+m)*bytes<=140737488355328) (hbd':n+m<=9223372036854775807)
 (B:Nat) (W:World) (hb:Below B W w) (hB:B<=base)
 (h:∀g' cap' w',OwnC e size w' base g' (n+m) cap' (cs++ys)->Below B W w'->K (a.put o.dst (.slice (some ⟨g',0,none⟩) (n+m) cap')) w'):o.wp P a w K Q:=by
 obtain ⟨i0,hi,hz0,hz1,hz2⟩:=info_parts hi;have f:=hown.facts;cases src with
 | none=>
  obtain ⟨rfl,rfl⟩:=hnil rfl;have hys:ys=[]:=by have:=hy.1;simpa using this
  subst hys;have hrun:=run_append_owned_none (P:=P) (w:=w) base t o.type e i0 size ht hi _ n cs hown;unfold Oper.wp;simp [execOp,ho,resolve,invoke,builtin,hs,hx,hrun,Result.andThen];have:=h g cap w (by simpa using hown) hb;simp only [Nat.add_zero] at this;exact this
 | some q=>
  obtain ⟨b,off,spot⟩:=q;have:=hspot ⟨b,off,spot⟩ rfl;simp at this;subst this;refine wp_append_own w s x t ho base e i0 z size bytes ht hi hz0 hz1 hz2 hzs hsz _ n _ hs hown ⟨b,off,none⟩ m c ys hx hy.1 (qC hy) h1 (by unfold maxLen;omega) hbd (by omega) ?_;intro v' w' h1 h2 h3;obtain ⟨g',cap',rfl,o4⟩:=OwnC.of_append h1 h3;exact h g' cap' w' o4 (OwnC.grown hb hown h2 hB)
theorem iR {P:Program} (w:World) {ops:Array Oper} {rest:List Oper} {o:Oper} {a:Act} {Q:Exit->Act->World->Prop} (hgd:o.guard=none) (s x:Operand) (t:TypeId)
 (ho:o.op=.call { callee:=.builtin .append,args:=#[s,x],argTypes:=#[t,t] }) (e:TypeId) (ht:P.underlying t=some (.slice e)) (z:Value) (size bytes:Nat)
 (hi:(P.info? e).map (fun i=>(i.zero,i.size,i.bytes))=some (some z,size,bytes)) (hzs:z.cells.size=size) (hsz:0<size)
 (base g n cap:Nat) (cs:List Value) (hs:a.eval s=.slice (some ⟨g,0,none⟩) n cap) (hown:OwnC e size w base g n cap cs)
 (src:Option Addr) (m c:Nat) (ys:List Value) (hx:a.eval x=.slice src m c) (hnil:src=none->m=0∧c=0) (hspot:∀q,src=some q->q.spot=none) (hy:RowC w src m size ys) (h1:∀u∈ys,u.oneCell'=true)
 (hbd:(n+m)*bytes<=140737488355328) (hbd':n+m<=9223372036854775807)
 (B:Nat) (W:World) (hb:Below B W w) (hB:B<=base)
 (h:∀g' cap' w',OwnC e size w' base g' (n+m) cap' (cs++ys)->Below B W w'->wpList P ops Q rest (a.put o.dst (.slice (some ⟨g',0,none⟩) (n+m) cap')) w'):wpList P ops Q (o::rest) a w:=
 wpList_plain hgd fun _ hK=>pO w s x t ho e ht z size bytes hi hzs hsz base g n cap cs hs hown src m c ys hx hnil hspot hy h1 hbd hbd' B W hb hB fun g' cap' w' h2 h3=>hK _ _ (h g' cap' w' h2 h3)
theorem mr {P:Program} (w:World) {ops:Array Oper} {o:Oper} {a:Act} {K:Act->World->Prop} {Q:Exit->Act->World->Prop} {E:Prop} (hgd:o.guard=none) (s x:Operand) (t:TypeId)
 (ho:o.op=.call { callee:=.builtin .append,args:=#[s,x],argTypes:=#[t,t] }) (e:TypeId) (ht:P.underlying t=some (.slice e)) (z:Value) (size bytes:Nat)
 (hi:(P.info? e).map (fun i=>(i.zero,i.size,i.bytes))=some (some z,size,bytes)) (hzs:z.cells.size=size) (hsz:0<size)
 (base g n cap:Nat) (cs:List Value) (hs:a.eval s=.slice (some ⟨g,0,none⟩) n cap) (hown:OwnC e size w base g n cap cs)
 (src:Option Addr) (m c:Nat) (ys:List Value) (hx:a.eval x=.slice src m c) (hnil:src=none->m=0∧c=0) (hspot:∀q,src=some q->q.spot=none) (hy:RowC w src m size ys) (h1:∀u∈ys,u.oneCell'=true)
 (hbd:(n+m)*bytes<=140737488355328) (hbd':n+m<=9223372036854775807)
 (B:Nat) (W:World) (hb:Below B W w) (hB:B<=base)
 (h:∀g' cap' w',OwnC e size w' base g' (n+m) cap' (cs++ys)->Below B W w'->K (a.put o.dst (.slice (some ⟨g',0,none⟩) (n+m) cap')) w'):
 if Region.wanted o (yielded ops a.tmps)=true then Oper.wp P o a w K Q else E:=by
 have hw:Region.wanted o (yielded ops a.tmps)=true:=by simp [Region.wanted,hgd]
 rw [if_pos hw];exact pO w s x t ho e ht z size bytes hi hzs hsz base g n cap cs hs hown src m c ys hx hnil hspot hy h1 hbd hbd' B W hb hB h
def dN (va level:Int):Int:=if level=0 then va/64%8 else if level=1 then va/512%8 else va/4096%8
abbrev dQ:=Int × Int × Int
def cQ (zs:List Int) (va:Int):Nat->Int->Int × Int × Int × List dQ
 | l,n=>
  if dP zs.length (64*n+8*dN va l) 8=false then (3,l,0,[])
  else if bC (rdV zs (64*n+8*dN va l) 8) l=0 then (2,l,0,[])
  else if bC (rdV zs (64*n+8*dN va l) 8) l=2 then (1,l,rdV zs (64*n+8*dN va l) 8,[((l:Int),64*n+8*dN va l,rdV zs (64*n+8*dN va l) 8)])
  else match l with
   | 0=>(2,0,0,[])
   | k+1=>((cQ zs va k (dG (rdV zs (64*n+8*dN va l) 8))).1,(cQ zs va k (dG (rdV zs (64*n+8*dN va l) 8))).2.1,(cQ zs va k (dG (rdV zs (64*n+8*dN va l) 8))).2.2.1,
    ((l:Int),64*n+8*dN va l,rdV zs (64*n+8*dN va l) 8)::(cQ zs va k (dG (rdV zs (64*n+8*dN va l) 8))).2.2.2)
def dv (zs:List Int) (root va:Int):Int × Int × Int × List dQ:=
 if du va=false then (2,2,0,[]) else cQ zs va 2 (root%17592186044416)
def eA (kind:Int):Int:=if kind=0 then 12 else if kind=1 then 13 else 15
def bL (kind:Int):Int:=if kind=0 then 1 else if kind=1 then 5 else 7
def onM (mode satp:Int):Bool:=satp/1152921504606846976%16 == 8 && (mode == 0 || mode == 1)
def aM (satp:Int):Int:=satp/17592186044416%65536
def eV (pte level mode:Int) (sum mxr:Bool) (kind va:Int):Int × Int:=
 if dm pte kind mode sum mxr=true then (0,fP pte level va) else (eA kind,0)
def cV (r:Int × Int × Int × List dQ) (mode:Int) (sum mxr:Bool) (kind va:Int):Int × Int:=
 if r.1=2 then (eA kind,0) else if r.1=3 then (bL kind,0) else eV r.2.2.1 r.2.1 mode sum mxr kind va
def iF (zs:List Int) (mode:Int) (sum mxr:Bool) (satp kind va:Int):Int × Int:=
 if kind<0∨2<kind∨mode<0∨2<mode then (63,0)
 else if onM mode satp=false then (0,va)
 else cV (dv zs satp va) mode sum mxr kind va
end Go.Proofs.YtpdddbobhndbjaaGreat
