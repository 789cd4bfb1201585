import Derived.Test.YtgnnmgfgfihljaaGreatPk01
import Derived.Deep.RegionLaw
namespace Go.Proofs.YtgnnmgfgfihljaaGreat
open Go.RowKit
set_option linter.unusedVariables false
set_option maxHeartbeats 6400000
set_option maxRecDepth 20000
theorem BK (k:Nat) (h:k<=62):1<=(2:Int)^k∧(2:Int)^k<=4611686018427387904:=by
 have h1:(2:Nat)^k<=2^62:=Nat.pow_le_pow_right (by omega) h;have h2:1<=(2:Nat)^k:=Nat.one_le_two_pow;have e:(2:Int)^k=((2^k:Nat):Int):=by push_cast;rfl
 rw [e];omega
theorem cw {a b:Int} (h:a=b):Ending.returned (.int .i64 a)=.returned (.int .i64 b):=by rw [h]
theorem aB {a b:Bool} (h:a=b):Ending.returned (.bool a)=.returned (.bool b):=by rw [h]
theorem yZ (k:Nat):∀(n:Int) (w:World),n<=k->k<=63->n.toNat=k->
 Calls Tryz.prog 112 #[.int .i64 n] w fun e w'=>e=.returned (.int .u64 (2^k))∧w'=w:=by
 induction k with
 | zero=>
  intro n w h h' h'';have hn:n<=0:=by omega
  go_enter Tryz.func112,Tryz.ntmps112;go_wp2_with fail;go_ret;exact ⟨rfl,rfl⟩
 | succ k ih=>
  intro n w h h' h'';have hn:¬n<=0:=by omega
  have hb:=BK k (by omega);have IH:Hid (∀(n:Int) (w:World),n<=k->k<=63->n.toNat=k->
   Calls Tryz.prog 112 #[.int .i64 n] w fun e w'=>e=.returned (.int .u64 (2^k))∧w'=w):=ih
  have HE:Hid ((2:Int)^(k+1)=2*2^k):=by show _=_;rw [Int.pow_succ,Int.mul_comm]
  rw [HE.out];clear ih HE;have H'':=hid h'';clear h'';generalize (2:Int)^k=p at *;go_enter Tryz.func112,Tryz.ntmps112;go_wp2_with fail;refine (IH.out (n-1) w (by omega) (by omega) (by have:=H''.out;omega)).mono ?_;rintro e w' ⟨rfl,rfl⟩;go_wp2_with fail;go_ret;exact ⟨rfl,rfl⟩
theorem bR (n p:Int) (w:World) (hn:n<=63) (hp:p=2^n.toNat):
 Calls Tryz.prog 112 #[.int .i64 n] w fun e w'=>e=.returned (.int .u64 p)∧w'=w:=by
 rw [hp];exact yZ n.toNat n w (by omega) (by omega) rfl
theorem bJ (x i j p q:Int) (w:World) (h0:0<=x) (h1:x<=18446744073709551615) (hi:0<=i) (hi':i<=63) (hj:i<=j+1) (hj':j-i<=62) (hp:p=2^i.toNat) (hq:q=2^(j-i+1).toNat):
 Calls Tryz.prog 81 #[.int .u64 x,.int .i64 i,.int .i64 j] w fun e w'=>e=.returned (.int .u64 (x/p%q))∧∃n,w'=w.drewN n:=by
 have hp1:1<=p:=by rw [hp];exact Int.pow_pos (by omega:(0:Int)<2)
 have hq1:1<=q:=by rw [hq];exact Int.pow_pos (by omega:(0:Int)<2)
 have hxp:0<=x/p:=Int.ediv_nonneg h0 (by omega);have HP:Hid (p=2^i.toNat):=hp;have HQ:Hid (q=2^(j-i+1).toNat):=hq;clear hp hq;go_enter Tryz.func81,Tryz.ntmps81;go_wp2_with fail;go_quiet (first
  | (go_at_call_of 112 (Value.int IntKind.i64 i);exact Calls.quiet_of_same (bR i p _ (by omega) HP.out))
  | (go_at_call 112;exact Calls.quiet_of_same (bR (j-i+1) q _ (by omega) HQ.out)))
 go_wp2_with fail;go_ret;exact ⟨rfl,nq,rfl⟩
theorem bO (x i p:Int) (w:World) (h0:0<=x) (h1:x<=18446744073709551615) (hi:0<=i) (hi':i<=63) (hp:p=2^i.toNat):
 Calls Tryz.prog 124 #[.int .u64 x,.int .i64 i] w fun e w'=>e=.returned (.bool (bj x p))∧∃n,w'=w.drewN n:=by
 have HP:=hid hp;clear hp;go_enter Tryz.func124,Tryz.ntmps124;go_wp2_with fail;refine (bJ x i i p 2 w h0 h1 hi hi' (by omega) (by omega) HP.out (by rw [show i-i+1=1 by omega];rfl)).mono ?_;rintro e w' ⟨rfl,nq,rfl⟩;go_wp2_with fail;go_ret;exact ⟨rfl,nq,rfl⟩
theorem de (x:Int) (w:World) (h0:0<=x) (h1:x<=18446744073709551615):
 Calls Tryz.prog 155 #[.int .u64 x] w fun e w'=>e=.returned (.int .u64 (dg x))∧∃n,w'=w.drewN n:=by
 go_enter Tryz.func155,Tryz.ntmps155;go_wp2_with fail;refine (bJ x 10 53 1024 17592186044416 w h0 h1 (by omega) (by omega) (by omega) (by omega) rfl rfl).mono ?_;rintro e w' ⟨rfl,nq,rfl⟩;go_wp2_with fail;go_ret;exact ⟨rfl,nq,rfl⟩
theorem dQ (x:Int) (w:World) (h0:0<=x) (h1:x<=18446744073709551615):
 Calls Tryz.prog 149 #[.int .u64 x] w fun e w'=>e=.returned (.bool (cP x))∧∃n,w'=w.drewN n:=by
 go_enter Tryz.func149,Tryz.ntmps149;go_wp2_with fail;refine (bJ x 14 63 16384 1125899906842624 w h0 h1 (by omega) (by omega) (by omega) (by omega) rfl rfl).mono ?_;rintro e w' ⟨rfl,nq,rfl⟩;by_cases ht:x/16384%1125899906842624=0
 ·have ht':(x/16384%1125899906842624 == 0)=true:=by simp [ht]
  clear ht;go_wp2_with fail;go_ret;exact ⟨by simp [cP,ht'],nq,rfl⟩
 ·have ht':(x/16384%1125899906842624 == 0)=false:=by simpa using ht
  clear ht;go_wp2_with (go_at_call 112;refine (bR 50 1125899906842624 _ (by omega) rfl).mono ?_;rintro e w' ⟨rfl,rfl⟩);go_ret;exact ⟨by simp [cP,ht'],nq,rfl⟩
theorem fj (pte level:Int) (w:World) (h0:0<=pte) (h1:pte<=18446744073709551615) (hl: -9223372036854775808<=level) (hl':level<=9223372036854775807):
 Calls Tryz.prog 145 #[.int .u64 pte,.int .i64 level] w fun e w'=>e=.returned (.int .i64 (bu pte level))∧∃n,w'=w.drewN n:=by
 go_enter Tryz.func145,Tryz.ntmps145;go_wp2_with fail;refine (bO pte 1 2 w h0 h1 (by omega) (by omega) rfl).mono ?_;rintro e w' ⟨rfl,n1,rfl⟩;go_wp2_with fail;refine (bO pte 2 4 _ h0 h1 (by omega) (by omega) rfl).mono ?_;rintro e w' ⟨rfl,n2,rfl⟩;go_wp2_with fail;refine (bO pte 3 8 _ h0 h1 (by omega) (by omega) rfl).mono ?_;rintro e w' ⟨rfl,n3,rfl⟩;go_wp2_with fail;refine (bO pte 4 16 _ h0 h1 (by omega) (by omega) rfl).mono ?_;rintro e w' ⟨rfl,n4,rfl⟩;go_wp2_with fail;refine (bO pte 6 64 _ h0 h1 (by omega) (by omega) rfl).mono ?_;rintro e w' ⟨rfl,n5,rfl⟩;go_wp2_with fail;refine (bO pte 7 128 _ h0 h1 (by omega) (by omega) rfl).mono ?_;rintro e w' ⟨rfl,n6,rfl⟩;by_cases hlev:0<=level∧level<=2
 ·obtain ⟨hl0,hl2⟩:=hlev;cases hV:bj pte 1
  ·go_wp2_with (first
    | (go_at_call 124;refine (bO pte 0 1 _ h0 h1 (by omega) (by omega) rfl).mono ?_;rintro e w' ⟨rfl,n7,rfl⟩;rw [hV]))
   go_ret;exact ⟨cw (by simp [bu,hV]),_,rfl⟩
  ·by_cases hres:0<pte/18014398509481984%1024
   ·go_wp2_with (first
     | (go_at_call 124;refine (bO pte 0 1 _ h0 h1 (by omega) (by omega) rfl).mono ?_;rintro e w' ⟨rfl,n7,rfl⟩;rw [hV])
     | (go_at_call 81;refine (bJ pte 54 63 18014398509481984 1024 _ h0 h1 (by omega) (by omega) (by omega) (by omega) rfl rfl).mono ?_;rintro e w' ⟨rfl,n8,rfl⟩))
    go_ret;exact ⟨cw (by simp [bu,hres]),_,rfl⟩
   ·have hres':decide (0<pte/18014398509481984%1024)=false:=by simpa using hres
    cases hr:bj pte 2 <;> cases hw:bj pte 4
    ·cases hx:bj pte 8
     ·cases hu:bj pte 16 <;> cases ha:bj pte 64 <;> cases hd:bj pte 128;all_goals
       rcases (show level=0∨level=1∨level=2 by omega) with rfl | rfl | rfl;all_goals
        go_wp2_with (first
         | (go_at_call 124;refine (bO pte 0 1 _ h0 h1 (by omega) (by omega) rfl).mono ?_;rintro e w' ⟨rfl,n7,rfl⟩;rw [hV])
         | (go_at_call 81;refine (bJ pte 54 63 18014398509481984 1024 _ h0 h1 (by omega) (by omega) (by omega) (by omega) rfl rfl).mono ?_;rintro e w' ⟨rfl,n8,rfl⟩))
        go_ret;exact ⟨cw (by simp [bu,hV,hr,hw,hx,hu,ha,hd,hres]),_,rfl⟩
     ·
      obtain ⟨t,ht⟩:∃t,dg pte=t:=⟨_,rfl⟩;have hpp:0<=t:=by rw [<-ht];exact Int.emod_nonneg _ (by omega)
      have HPP:=hid ht;clear ht;rcases (show level=0∨level=1∨level=2 by omega) with rfl | rfl | rfl
      ·go_wp2_with (first
        | (go_at_call 124;refine (bO pte 0 1 _ h0 h1 (by omega) (by omega) rfl).mono ?_;rintro e w' ⟨rfl,n7,rfl⟩;rw [hV])
        | (go_at_call 81;refine (bJ pte 54 63 18014398509481984 1024 _ h0 h1 (by omega) (by omega) (by omega) (by omega) rfl rfl).mono ?_;rintro e w' ⟨rfl,n8,rfl⟩)
        | (go_at_call 155;refine (de pte _ h0 h1).mono ?_;rintro e w' ⟨rfl,n9,rfl⟩;rw [HPP.out])
        | (go_at_call 112;refine (bR _ 1 _ (by omega) rfl).mono ?_;rintro e w' ⟨rfl,rfl⟩))
       go_ret;exact ⟨cw (by simp [bu,hV,hr,hw,hx,hres,gE,Int.emod_one]),_,rfl⟩
      ·by_cases hm:0<t%8
       ·go_wp2_with (first
         | (go_at_call 124;refine (bO pte 0 1 _ h0 h1 (by omega) (by omega) rfl).mono ?_;rintro e w' ⟨rfl,n7,rfl⟩;rw [hV])
         | (go_at_call 81;refine (bJ pte 54 63 18014398509481984 1024 _ h0 h1 (by omega) (by omega) (by omega) (by omega) rfl rfl).mono ?_;rintro e w' ⟨rfl,n8,rfl⟩)
         | (go_at_call 155;refine (de pte _ h0 h1).mono ?_;rintro e w' ⟨rfl,n9,rfl⟩;rw [HPP.out])
         | (go_at_call 112;refine (bR _ 8 _ (by omega) rfl).mono ?_;rintro e w' ⟨rfl,rfl⟩))
        go_ret;exact ⟨cw (by simp [bu,hV,hr,hw,hx,show ¬0<pte/18014398509481984%1024 by omega,gE,HPP.out,hm]),_,rfl⟩
       ·go_wp2_with (first
         | (go_at_call 124;refine (bO pte 0 1 _ h0 h1 (by omega) (by omega) rfl).mono ?_;rintro e w' ⟨rfl,n7,rfl⟩;rw [hV])
         | (go_at_call 81;refine (bJ pte 54 63 18014398509481984 1024 _ h0 h1 (by omega) (by omega) (by omega) (by omega) rfl rfl).mono ?_;rintro e w' ⟨rfl,n8,rfl⟩)
         | (go_at_call 155;refine (de pte _ h0 h1).mono ?_;rintro e w' ⟨rfl,n9,rfl⟩;rw [HPP.out])
         | (go_at_call 112;refine (bR _ 8 _ (by omega) rfl).mono ?_;rintro e w' ⟨rfl,rfl⟩))
        go_ret;exact ⟨cw (by simp [bu,hV,hr,hw,hx,show ¬0<pte/18014398509481984%1024 by omega,show ¬0<t%8 by omega,gE,HPP.out]),_,rfl⟩
      ·by_cases hm:0<t%64
       ·go_wp2_with (first
         | (go_at_call 124;refine (bO pte 0 1 _ h0 h1 (by omega) (by omega) rfl).mono ?_;rintro e w' ⟨rfl,n7,rfl⟩;rw [hV])
         | (go_at_call 81;refine (bJ pte 54 63 18014398509481984 1024 _ h0 h1 (by omega) (by omega) (by omega) (by omega) rfl rfl).mono ?_;rintro e w' ⟨rfl,n8,rfl⟩)
         | (go_at_call 155;refine (de pte _ h0 h1).mono ?_;rintro e w' ⟨rfl,n9,rfl⟩;rw [HPP.out])
         | (go_at_call 112;refine (bR _ 64 _ (by omega) rfl).mono ?_;rintro e w' ⟨rfl,rfl⟩))
        go_ret;exact ⟨cw (by simp [bu,hV,hr,hw,hx,show ¬0<pte/18014398509481984%1024 by omega,gE,HPP.out,hm]),_,rfl⟩
       ·go_wp2_with (first
         | (go_at_call 124;refine (bO pte 0 1 _ h0 h1 (by omega) (by omega) rfl).mono ?_;rintro e w' ⟨rfl,n7,rfl⟩;rw [hV])
         | (go_at_call 81;refine (bJ pte 54 63 18014398509481984 1024 _ h0 h1 (by omega) (by omega) (by omega) (by omega) rfl rfl).mono ?_;rintro e w' ⟨rfl,n8,rfl⟩)
         | (go_at_call 155;refine (de pte _ h0 h1).mono ?_;rintro e w' ⟨rfl,n9,rfl⟩;rw [HPP.out])
         | (go_at_call 112;refine (bR _ 64 _ (by omega) rfl).mono ?_;rintro e w' ⟨rfl,rfl⟩))
        go_ret;exact ⟨cw (by simp [bu,hV,hr,hw,hx,show ¬0<pte/18014398509481984%1024 by omega,show ¬0<t%64 by omega,gE,HPP.out]),_,rfl⟩
    ·
     go_wp2_with (first
      | (go_at_call 124;refine (bO pte 0 1 _ h0 h1 (by omega) (by omega) rfl).mono ?_;rintro e w' ⟨rfl,n7,rfl⟩;rw [hV])
      | (go_at_call 81;refine (bJ pte 54 63 18014398509481984 1024 _ h0 h1 (by omega) (by omega) (by omega) (by omega) rfl rfl).mono ?_;rintro e w' ⟨rfl,n8,rfl⟩))
     go_ret;exact ⟨cw (by simp [bu,hr,hw]),_,rfl⟩
    ·
     obtain ⟨t,ht⟩:∃t,dg pte=t:=⟨_,rfl⟩;have hpp:0<=t:=by rw [<-ht];exact Int.emod_nonneg _ (by omega)
     have HPP:=hid ht;clear ht;rcases (show level=0∨level=1∨level=2 by omega) with rfl | rfl | rfl
     ·go_wp2_with (first
       | (go_at_call 124;refine (bO pte 0 1 _ h0 h1 (by omega) (by omega) rfl).mono ?_;rintro e w' ⟨rfl,n7,rfl⟩;rw [hV])
       | (go_at_call 81;refine (bJ pte 54 63 18014398509481984 1024 _ h0 h1 (by omega) (by omega) (by omega) (by omega) rfl rfl).mono ?_;rintro e w' ⟨rfl,n8,rfl⟩)
       | (go_at_call 155;refine (de pte _ h0 h1).mono ?_;rintro e w' ⟨rfl,n9,rfl⟩;rw [HPP.out])
       | (go_at_call 112;refine (bR _ 1 _ (by omega) rfl).mono ?_;rintro e w' ⟨rfl,rfl⟩))
      go_ret;exact ⟨cw (by simp [bu,hV,hr,hw,hres,gE,Int.emod_one]),_,rfl⟩
     ·by_cases hm:0<t%8
      ·go_wp2_with (first
        | (go_at_call 124;refine (bO pte 0 1 _ h0 h1 (by omega) (by omega) rfl).mono ?_;rintro e w' ⟨rfl,n7,rfl⟩;rw [hV])
        | (go_at_call 81;refine (bJ pte 54 63 18014398509481984 1024 _ h0 h1 (by omega) (by omega) (by omega) (by omega) rfl rfl).mono ?_;rintro e w' ⟨rfl,n8,rfl⟩)
        | (go_at_call 155;refine (de pte _ h0 h1).mono ?_;rintro e w' ⟨rfl,n9,rfl⟩;rw [HPP.out])
        | (go_at_call 112;refine (bR _ 8 _ (by omega) rfl).mono ?_;rintro e w' ⟨rfl,rfl⟩))
       go_ret;exact ⟨cw (by simp [bu,hV,hr,hw,show ¬0<pte/18014398509481984%1024 by omega,gE,HPP.out,hm]),_,rfl⟩
      ·go_wp2_with (first
        | (go_at_call 124;refine (bO pte 0 1 _ h0 h1 (by omega) (by omega) rfl).mono ?_;rintro e w' ⟨rfl,n7,rfl⟩;rw [hV])
        | (go_at_call 81;refine (bJ pte 54 63 18014398509481984 1024 _ h0 h1 (by omega) (by omega) (by omega) (by omega) rfl rfl).mono ?_;rintro e w' ⟨rfl,n8,rfl⟩)
        | (go_at_call 155;refine (de pte _ h0 h1).mono ?_;rintro e w' ⟨rfl,n9,rfl⟩;rw [HPP.out])
        | (go_at_call 112;refine (bR _ 8 _ (by omega) rfl).mono ?_;rintro e w' ⟨rfl,rfl⟩))
       go_ret;exact ⟨cw (by simp [bu,hV,hr,hw,show ¬0<pte/18014398509481984%1024 by omega,show ¬0<t%8 by omega,gE,HPP.out]),_,rfl⟩
     ·by_cases hm:0<t%64
      ·go_wp2_with (first
        | (go_at_call 124;refine (bO pte 0 1 _ h0 h1 (by omega) (by omega) rfl).mono ?_;rintro e w' ⟨rfl,n7,rfl⟩;rw [hV])
        | (go_at_call 81;refine (bJ pte 54 63 18014398509481984 1024 _ h0 h1 (by omega) (by omega) (by omega) (by omega) rfl rfl).mono ?_;rintro e w' ⟨rfl,n8,rfl⟩)
        | (go_at_call 155;refine (de pte _ h0 h1).mono ?_;rintro e w' ⟨rfl,n9,rfl⟩;rw [HPP.out])
        | (go_at_call 112;refine (bR _ 64 _ (by omega) rfl).mono ?_;rintro e w' ⟨rfl,rfl⟩))
       go_ret;exact ⟨cw (by simp [bu,hV,hr,hw,show ¬0<pte/18014398509481984%1024 by omega,gE,HPP.out,hm]),_,rfl⟩
      ·go_wp2_with (first
        | (go_at_call 124;refine (bO pte 0 1 _ h0 h1 (by omega) (by omega) rfl).mono ?_;rintro e w' ⟨rfl,n7,rfl⟩;rw [hV])
        | (go_at_call 81;refine (bJ pte 54 63 18014398509481984 1024 _ h0 h1 (by omega) (by omega) (by omega) (by omega) rfl rfl).mono ?_;rintro e w' ⟨rfl,n8,rfl⟩)
        | (go_at_call 155;refine (de pte _ h0 h1).mono ?_;rintro e w' ⟨rfl,n9,rfl⟩;rw [HPP.out])
        | (go_at_call 112;refine (bR _ 64 _ (by omega) rfl).mono ?_;rintro e w' ⟨rfl,rfl⟩))
       go_ret;exact ⟨cw (by simp [bu,hV,hr,hw,show ¬0<pte/18014398509481984%1024 by omega,show ¬0<t%64 by omega,gE,HPP.out]),_,rfl⟩
    ·
     obtain ⟨t,ht⟩:∃t,dg pte=t:=⟨_,rfl⟩;have hpp:0<=t:=by rw [<-ht];exact Int.emod_nonneg _ (by omega)
     have HPP:=hid ht;clear ht;rcases (show level=0∨level=1∨level=2 by omega) with rfl | rfl | rfl
     ·go_wp2_with (first
       | (go_at_call 124;refine (bO pte 0 1 _ h0 h1 (by omega) (by omega) rfl).mono ?_;rintro e w' ⟨rfl,n7,rfl⟩;rw [hV])
       | (go_at_call 81;refine (bJ pte 54 63 18014398509481984 1024 _ h0 h1 (by omega) (by omega) (by omega) (by omega) rfl rfl).mono ?_;rintro e w' ⟨rfl,n8,rfl⟩)
       | (go_at_call 155;refine (de pte _ h0 h1).mono ?_;rintro e w' ⟨rfl,n9,rfl⟩;rw [HPP.out])
       | (go_at_call 112;refine (bR _ 1 _ (by omega) rfl).mono ?_;rintro e w' ⟨rfl,rfl⟩))
      go_ret;exact ⟨cw (by simp [bu,hV,hr,hw,hres,gE,Int.emod_one]),_,rfl⟩
     ·by_cases hm:0<t%8
      ·go_wp2_with (first
        | (go_at_call 124;refine (bO pte 0 1 _ h0 h1 (by omega) (by omega) rfl).mono ?_;rintro e w' ⟨rfl,n7,rfl⟩;rw [hV])
        | (go_at_call 81;refine (bJ pte 54 63 18014398509481984 1024 _ h0 h1 (by omega) (by omega) (by omega) (by omega) rfl rfl).mono ?_;rintro e w' ⟨rfl,n8,rfl⟩)
        | (go_at_call 155;refine (de pte _ h0 h1).mono ?_;rintro e w' ⟨rfl,n9,rfl⟩;rw [HPP.out])
        | (go_at_call 112;refine (bR _ 8 _ (by omega) rfl).mono ?_;rintro e w' ⟨rfl,rfl⟩))
       go_ret;exact ⟨cw (by simp [bu,hV,hr,hw,show ¬0<pte/18014398509481984%1024 by omega,gE,HPP.out,hm]),_,rfl⟩
      ·go_wp2_with (first
        | (go_at_call 124;refine (bO pte 0 1 _ h0 h1 (by omega) (by omega) rfl).mono ?_;rintro e w' ⟨rfl,n7,rfl⟩;rw [hV])
        | (go_at_call 81;refine (bJ pte 54 63 18014398509481984 1024 _ h0 h1 (by omega) (by omega) (by omega) (by omega) rfl rfl).mono ?_;rintro e w' ⟨rfl,n8,rfl⟩)
        | (go_at_call 155;refine (de pte _ h0 h1).mono ?_;rintro e w' ⟨rfl,n9,rfl⟩;rw [HPP.out])
        | (go_at_call 112;refine (bR _ 8 _ (by omega) rfl).mono ?_;rintro e w' ⟨rfl,rfl⟩))
       go_ret;exact ⟨cw (by simp [bu,hV,hr,hw,show ¬0<pte/18014398509481984%1024 by omega,show ¬0<t%8 by omega,gE,HPP.out]),_,rfl⟩
     ·by_cases hm:0<t%64
      ·go_wp2_with (first
        | (go_at_call 124;refine (bO pte 0 1 _ h0 h1 (by omega) (by omega) rfl).mono ?_;rintro e w' ⟨rfl,n7,rfl⟩;rw [hV])
        | (go_at_call 81;refine (bJ pte 54 63 18014398509481984 1024 _ h0 h1 (by omega) (by omega) (by omega) (by omega) rfl rfl).mono ?_;rintro e w' ⟨rfl,n8,rfl⟩)
        | (go_at_call 155;refine (de pte _ h0 h1).mono ?_;rintro e w' ⟨rfl,n9,rfl⟩;rw [HPP.out])
        | (go_at_call 112;refine (bR _ 64 _ (by omega) rfl).mono ?_;rintro e w' ⟨rfl,rfl⟩))
       go_ret;exact ⟨cw (by simp [bu,hV,hr,hw,show ¬0<pte/18014398509481984%1024 by omega,gE,HPP.out,hm]),_,rfl⟩
      ·go_wp2_with (first
        | (go_at_call 124;refine (bO pte 0 1 _ h0 h1 (by omega) (by omega) rfl).mono ?_;rintro e w' ⟨rfl,n7,rfl⟩;rw [hV])
        | (go_at_call 81;refine (bJ pte 54 63 18014398509481984 1024 _ h0 h1 (by omega) (by omega) (by omega) (by omega) rfl rfl).mono ?_;rintro e w' ⟨rfl,n8,rfl⟩)
        | (go_at_call 155;refine (de pte _ h0 h1).mono ?_;rintro e w' ⟨rfl,n9,rfl⟩;rw [HPP.out])
        | (go_at_call 112;refine (bR _ 64 _ (by omega) rfl).mono ?_;rintro e w' ⟨rfl,rfl⟩))
       go_ret;exact ⟨cw (by simp [bu,hV,hr,hw,show ¬0<pte/18014398509481984%1024 by omega,show ¬0<t%64 by omega,gE,HPP.out]),_,rfl⟩
 ·by_cases hneg:level<0
  ·go_wp2_with fail;go_ret;exact ⟨cw (by simp [bu,hneg]),_,rfl⟩
  ·have hgt:2<level:=by omega
   go_wp2_with fail;go_ret;exact ⟨cw (by simp [bu,hgt]),_,rfl⟩
theorem jX (pte kind mode:Int) (sum mxr:Bool) (w:World) (h0:0<=pte) (h1:pte<=18446744073709551615):
 Calls Tryz.prog 172 #[.int .u64 pte,.int .i64 kind,.int .i64 mode,.bool sum,.bool mxr] w fun e w'=>e=.returned (.bool (cF pte kind mode sum mxr))∧∃n,w'=w.drewN n:=by
 go_enter Tryz.func172,Tryz.ntmps172;go_wp2_with fail;refine (bO pte 1 2 w h0 h1 (by omega) (by omega) rfl).mono ?_;rintro e w' ⟨rfl,n1,rfl⟩;go_wp2_with fail;refine (bO pte 2 4 _ h0 h1 (by omega) (by omega) rfl).mono ?_;rintro e w' ⟨rfl,n2,rfl⟩;go_wp2_with fail;refine (bO pte 3 8 _ h0 h1 (by omega) (by omega) rfl).mono ?_;rintro e w' ⟨rfl,n3,rfl⟩;go_wp2_with fail;refine (bO pte 4 16 _ h0 h1 (by omega) (by omega) rfl).mono ?_;rintro e w' ⟨rfl,n4,rfl⟩;go_wp2_with fail;refine (bO pte 6 64 _ h0 h1 (by omega) (by omega) rfl).mono ?_;rintro e w' ⟨rfl,n5,rfl⟩;go_wp2_with fail;refine (bO pte 7 128 _ h0 h1 (by omega) (by omega) rfl).mono ?_;rintro e w' ⟨rfl,n6,rfl⟩;by_cases k0:kind=0
 ·subst k0;by_cases m0:mode=0
  ·subst m0;go_wp2_with fail;all_goals (go_ret;exact ⟨aB (by simp_all [cF]),_,rfl⟩)
  by_cases m1:mode=1
  ·subst m1;go_wp2_with fail;all_goals (go_ret;exact ⟨aB (by simp_all [cF]),_,rfl⟩)
  ·have m0':(mode == 0)=false:=by simpa using m0
   have m1':(mode == 1)=false:=by simpa using m1
   go_wp2_with fail;all_goals (go_ret;exact ⟨aB (by simp_all [cF]),_,rfl⟩)
 by_cases k1:kind=1
 ·subst k1;by_cases m0:mode=0
  ·subst m0;go_wp2_with fail;all_goals (go_ret;exact ⟨aB (by simp_all [cF]),_,rfl⟩)
  by_cases m1:mode=1
  ·subst m1;go_wp2_with fail;all_goals (go_ret;exact ⟨aB (by simp_all [cF]),_,rfl⟩)
  ·have m0':(mode == 0)=false:=by simpa using m0
   have m1':(mode == 1)=false:=by simpa using m1
   go_wp2_with fail;all_goals (go_ret;exact ⟨aB (by simp_all [cF]),_,rfl⟩)
 by_cases k2:kind=2
 ·subst k2;by_cases m0:mode=0
  ·subst m0;go_wp2_with fail;all_goals (go_ret;exact ⟨aB (by simp_all [cF]),_,rfl⟩)
  by_cases m1:mode=1
  ·subst m1;go_wp2_with fail;all_goals (go_ret;exact ⟨aB (by simp_all [cF]),_,rfl⟩)
  ·have m0':(mode == 0)=false:=by simpa using m0
   have m1':(mode == 1)=false:=by simpa using m1
   go_wp2_with fail;all_goals (go_ret;exact ⟨aB (by simp_all [cF]),_,rfl⟩)
 have k0':(kind == 0)=false:=by simpa using k0
 have k1':(kind == 1)=false:=by simpa using k1
 have k2':(kind == 2)=false:=by simpa using k2
 by_cases m0:mode=0
 ·subst m0;go_wp2_with fail;all_goals (go_ret;exact ⟨aB (by simp_all [cF]),_,rfl⟩)
 by_cases m1:mode=1
 ·subst m1;go_wp2_with fail;all_goals (go_ret;exact ⟨aB (by simp_all [cF]),_,rfl⟩)
 ·have m0':(mode == 0)=false:=by simpa using m0
  have m1':(mode == 1)=false:=by simpa using m1
  go_wp2_with fail;all_goals (go_ret;exact ⟨aB (by simp_all [cF]),_,rfl⟩)
theorem rE (pte level va:Int) (w:World) (h0:0<=pte) (h1:pte<=18446744073709551615) (hv:0<=va) (hv':va<=18446744073709551615) (hl: -9223372036854775808<=level) (hl':level<=9223372036854775807):
 Calls Tryz.prog 173 #[.int .u64 pte,.int .i64 level,.int .u64 va] w fun e w'=>e=.returned (.int .u64 (eX pte level va))∧∃n,w'=w.drewN n:=by
 by_cases hneg:level<0
 ·go_enter Tryz.func173,Tryz.ntmps173;go_wp2_with fail;go_ret;exact ⟨dw (by simp [eX,hneg]),0,rfl⟩
 by_cases hgt:2<level
 ·go_enter Tryz.func173,Tryz.ntmps173;go_wp2_with fail;go_ret;exact ⟨dw (by simp [eX,hgt]),0,rfl⟩
 have hpp:0<=dg pte∧dg pte<17592186044416:=⟨Int.emod_nonneg _ (by omega),Int.emod_lt_of_pos _ (by omega)⟩;rcases (show level=0∨level=1∨level=2 by omega) with rfl | rfl | rfl
 ·go_enter Tryz.func173,Tryz.ntmps173;go_wp2_with fail;refine (bR 6 64 _ (by omega) rfl).mono ?_;rintro e w' ⟨rfl,rfl⟩;go_wp2_with fail;go_quiet ((go_at_call 155;exact Calls.quiet_of (de pte _ h0 h1)));go_wp2_with fail;go_ret;exact ⟨dw (by simp [eX,fS]),nq,rfl⟩
 ·go_enter Tryz.func173,Tryz.ntmps173;go_wp2_with fail;refine (bR 9 512 _ (by omega) rfl).mono ?_;rintro e w' ⟨rfl,rfl⟩;go_wp2_with fail;go_quiet ((go_at_call 155;exact Calls.quiet_of (de pte _ h0 h1)));go_wp2_with fail;go_ret;exact ⟨dw (by simp [eX,fS]),nq,rfl⟩
 ·go_enter Tryz.func173,Tryz.ntmps173;go_wp2_with fail;refine (bR 12 4096 _ (by omega) rfl).mono ?_;rintro e w' ⟨rfl,rfl⟩;go_wp2_with fail;go_quiet ((go_at_call 155;exact Calls.quiet_of (de pte _ h0 h1)));go_wp2_with fail;go_ret;exact ⟨dw (by simp [eX,fS]),nq,rfl⟩
def dk (va level:Int):Int:=if level=0 then va/64%8 else if level=1 then va/512%8 else va/4096%8
abbrev dG:=Int × Int × Int
def cE (zs:List Int) (va:Int):Nat->Int->Int × Int × Int × List dG
 | l,n=>
  if di zs.length (64*n+8*dk va l) 8=false then (3,l,0,[])
  else if bu (rdV zs (64*n+8*dk va l) 8) l=0 then (2,l,0,[])
  else if bu (rdV zs (64*n+8*dk va l) 8) l=2 then (1,l,rdV zs (64*n+8*dk va l) 8,[((l:Int),64*n+8*dk va l,rdV zs (64*n+8*dk va l) 8)])
  else match l with
   | 0=>(2,0,0,[])
   | k+1=>((cE zs va k (dg (rdV zs (64*n+8*dk va l) 8))).1,(cE zs va k (dg (rdV zs (64*n+8*dk va l) 8))).2.1,(cE zs va k (dg (rdV zs (64*n+8*dk va l) 8))).2.2.1,
    ((l:Int),64*n+8*dk va l,rdV zs (64*n+8*dk va l) 8)::(cE zs va k (dg (rdV zs (64*n+8*dk va l) 8))).2.2.2)
def ce (zs:List Int) (root va:Int):Int × Int × Int × List dG:=
 if cP va=false then (2,2,0,[]) else cE zs va 2 (root%17592186044416)
def dL (kind:Int):Int:=if kind=0 then 12 else if kind=1 then 13 else 15
def bE (kind:Int):Int:=if kind=0 then 1 else if kind=1 then 5 else 7
def onM (mode satp:Int):Bool:=satp/1152921504606846976%16 == 8 && (mode == 0 || mode == 1)
def aG (satp:Int):Int:=satp/17592186044416%65536
def er (pte level mode:Int) (sum mxr:Bool) (kind va:Int):Int × Int:=
 if cF pte kind mode sum mxr=true then (0,eX pte level va) else (dL kind,0)
def cK (r:Int × Int × Int × List dG) (mode:Int) (sum mxr:Bool) (kind va:Int):Int × Int:=
 if r.1=2 then (dL kind,0) else if r.1=3 then (bE kind,0) else er r.2.2.1 r.2.1 mode sum mxr kind va
def gM (zs:List Int) (mode:Int) (sum mxr:Bool) (satp kind va:Int):Int × Int:=
 if kind<0∨2<kind∨mode<0∨2<mode then (63,0)
 else if onM mode satp=false then (0,va)
 else cK (ce zs satp va) mode sum mxr kind va
def qc (r:dG):List Value:=[.int .i64 r.1,.int .u64 r.2.1,.int .u64 r.2.2]
def cj:List dG->List Value
 | []=>[]
 | r::rs=>qc r++cj rs
theorem sk:∀rs:List dG,(cj rs).length=rs.length*3
 | []=>rfl
 | r::rs=>by simp [cj,qc,sk rs];omega
theorem kC:∀rs:List dG,∀u∈cj rs,u.oneCell'=true
 | [],u,h=>by simp [cj] at h
 | r::rs,u,h=>by
  simp only [cj,List.mem_append] at h;rcases h with h | h
  ·simp [qc] at h;rcases h with rfl | rfl | rfl <;> rfl
  ·exact kC rs u h
theorem av {w:World} {g:Nat} {T:TypeId} {a b c d:Value} (h:w.heap[g]?=some (.cells #[a,b,c,d] T (0,0))):
 (w.cell? ⟨g,0,none⟩=some a∧w.cell? ⟨g,1,none⟩=some b∧w.cell? ⟨g,2,none⟩=some c∧w.cell? ⟨g,3,none⟩=some d)∧
 (w.frozen? ⟨g,0,none⟩=false∧w.frozen? ⟨g,1,none⟩=false∧w.frozen? ⟨g,2,none⟩=false∧w.frozen? ⟨g,3,none⟩=false):=by
 simp [World.cell?,World.frozen?,h]
theorem jc (va level:Int) (w:World) (h0:0<=va) (h1:va<=18446744073709551615) (hl:0<=level) (hl':level<=2):
 Calls Tryz.prog 174 #[.int .u64 va,.int .i64 level] w fun e w'=>e=.returned (.int .u64 (dk va level))∧∃n,w'=w.drewN n:=by
 rcases (show level=0∨level=1∨level=2 by omega) with rfl | rfl | rfl
 ·go_enter Tryz.func174,Tryz.ntmps174;go_wp2_with fail;refine (bJ va 6 8 64 8 w h0 h1 (by omega) (by omega) (by omega) (by omega) rfl rfl).mono ?_;rintro e w' ⟨rfl,nq,rfl⟩;go_wp2_with fail;go_ret;exact ⟨rfl,nq,rfl⟩
 ·go_enter Tryz.func174,Tryz.ntmps174;go_wp2_with fail;refine (bJ va 9 11 512 8 w h0 h1 (by omega) (by omega) (by omega) (by omega) rfl rfl).mono ?_;rintro e w' ⟨rfl,nq,rfl⟩;go_wp2_with fail;go_ret;exact ⟨rfl,nq,rfl⟩
 ·go_enter Tryz.func174,Tryz.ntmps174;go_wp2_with fail;refine (bJ va 12 14 4096 8 w h0 h1 (by omega) (by omega) (by omega) (by omega) rfl rfl).mono ?_;rintro e w' ⟨rfl,nq,rfl⟩;go_wp2_with fail;go_ret;exact ⟨rfl,nq,rfl⟩
theorem Tryz.infoRec:(Tryz.prog.info? 261).map (fun i=>(i.zero,i.size,i.bytes))=some (some (.agg #[.int .i64 0,.int .u64 0,.int .u64 0]),3,24):=by kernel_rfl
theorem so (l a v:Int) (w:World):
 Calls Tryz.prog 175 #[.int .i64 l,.int .u64 a,.int .u64 v] w fun e w'=>
  e=.returned (.slice (some ⟨w.heap.size,0,none⟩) 1 1)∧w'=w.alloc (.cells #[.int .i64 l,.int .u64 a,.int .u64 v] 261):=by
 go_enter Tryz.func175,Tryz.ntmps175;go_wp2_with fail;go_ret;exact ⟨rfl,rfl⟩
theorem pw (va level:Int):0<=dk va level∧dk va level<=7:=by
 unfold dk;split
 ·omega
 ·split <;> omega
theorem lN (zs:List Int) (a n:Int) (hn:n<=8) (h:∀i:Nat,0<=zs[i]?.getD 0∧zs[i]?.getD 0<=255):0<=rdV zs a n∧rdV zs a n<=18446744073709551615:=by
 unfold rdV;split
 ·have:=fC zs a.toNat n.toNat h;have hp:(256:Int)^n.toNat<=18446744073709551616:=by
   rcases (show n.toNat=0∨n.toNat=1∨n.toNat=2∨n.toNat=3∨n.toNat=4∨n.toNat=5∨n.toNat=6∨n.toNat=7∨n.toNat=8 by omega) with h | h | h | h | h | h | h | h | h <;> rw [h] <;> decide
  omega
 ·omega
theorem Cq {v:World} {p:Nat} {T:TypeId} {a b c d u:Value} (h:v.heap[p]?=some (.cells #[a,b,c,d] T (0,0))):(v.setCell ⟨p,3,none⟩ u).heap[p]?=some (.cells #[a,b,c,u] T (0,0)):=by
 simp [World.setCell,Array.getElem?_modify,h]
theorem gb4 (v:World) (g:Nat) (x y z u:Value):v.grownBy ((((v.setCell ⟨g,0,none⟩ x).setCell ⟨g,1,none⟩ y).setCell ⟨g,2,none⟩ z).setCell ⟨g,3,none⟩ u) (some g):=
 ak (ak (ak (ak (au v (some g)) 0 x) 1 y) 2 z) 3 u
theorem nu {B:Nat} {a w:World} {g:Nat} (h:Below B a w) (hg:B<=g) (x y z u:Value):Below B a ((((w.setCell ⟨g,0,none⟩ x).setCell ⟨g,1,none⟩ y).setCell ⟨g,2,none⟩ z).setCell ⟨g,3,none⟩ u):=
 (((h.setCell (p:=⟨g,0,none⟩) hg x).setCell (p:=⟨g,1,none⟩) hg y).setCell (p:=⟨g,2,none⟩) hg z).setCell (p:=⟨g,3,none⟩) hg u
theorem AI (V:World) (g:Nat) (hg:V.heap.size=g) (e:TypeId) (n size:Nat) (cs:List Value) (hn:cs.length=n*size) (hm:n<=maxLen):RowC (V.alloc (.cells cs.toArray e)).drew (some ⟨g,0,none⟩) n size cs:=by
 subst hg;exact (OwnC.new e size V cs n hn hm).row
def jN (base:Nat) (w':World) (e:Ending) (r:Int × Int × Int × List dG):Prop:=
 ∃a cap,e=.returned (.agg #[.int .i64 r.1,.int .i64 r.2.1,.int .u64 r.2.2.1,.slice a r.2.2.2.length cap])∧RowC w' a r.2.2.2.length 3 (cj r.2.2.2)∧
  (a=none->r.2.2.2.length=0∧cap=0)∧(∀q,a=some q->q.spot=none∧base<=q.block)∧r.2.2.2.length<=cap
theorem py (x:Int):0<=dg x∧dg x<17592186044416:=⟨Int.emod_nonneg _ (by omega),Int.emod_lt_of_pos _ (by omega)⟩
theorem kD (p l:Int):bu p l=0∨bu p l=1∨bu p l=2:=by
 unfold bu;split
 ·exact .inl rfl
 ·split
  ·split
   ·exact .inl rfl
   ·exact .inr (.inl rfl)
  ·split
   ·exact .inl rfl
   ·exact .inr (.inr rfl)
theorem ia (p:Int):bu p 0≠1:=by
 unfold bu;split
 ·simp
 ·split
  ·simp
  ·split <;> simp
theorem ae {B:Nat} {w w':World} {g:Nat} {o:Obj} (h:w.heap[g]?=some o) (hb:Below B w w') (hg:g<B):w'.heap[g]?=some o:=by rw [hb.block g hg,h]
theorem qf (a:Option Addr) (len cap:Nat) (zs:List Int) (va lv n ix rv:Int) (w:World) (hl:len<=1048576) (hc:len<=cap) (hm:cap<=9223372036854775807) (hv0:0<=va) (hv1:va<=18446744073709551615)
 (h0:0<=lv) (h2:lv<=2) (hn0:0<=n) (hn1:n<17592186044416) (hB:Byt w a len zs) (hix:Hid (dk va lv=ix)) (hib:0<=ix∧ix<=7) (hrv:Hid (rdV zs (64*n+8*ix) 8=rv)) (hrb:0<=rv∧rv<=18446744073709551615)
 (hg:Hid (di len (64*n+8*ix) 8=false)):
 Calls Tryz.prog 154 #[.slice a len cap,.int .u64 n,.int .i64 lv,.int .u64 va] w fun e w'=>jN w.heap.size w' e (3,lv,0,[])∧Below w.heap.size w w':=by
 have hz:=hB.1;have H8:Hid ((w.alloc (Obj.cells #[Value.int .i64 0,Value.int .i64 0,Value.int .u64 0,Value.slice none 0 0] 253)).heap[w.heap.size]?=some (.cells #[Value.int .i64 0,Value.int .i64 0,Value.int .u64 0,Value.slice none 0 0] 253 (0,0))):=heap_alloc_new _ _;have n1:=(Below.refl w.heap.size w).alloc nle (Obj.cells #[Value.int .i64 0,Value.int .i64 0,Value.int .u64 0,Value.slice none 0 0] 253);have l1:w.heap.size<(w.alloc (Obj.cells #[Value.int .i64 0,Value.int .i64 0,Value.int .u64 0,Value.slice none 0 0] 253)).heap.size:=by simp
 go_enter Tryz.func154,Tryz.ntmps154;go_wp2_with fail;generalize w.alloc (Obj.cells #[Value.int .i64 0,Value.int .i64 0,Value.int .u64 0,Value.slice none 0 0] 253)=v1 at H8 n1 l1 |-;refine (jc va lv v1 hv0 hv1 h0 h2).mono ?_;rintro e w' ⟨rfl,nq,rfl⟩;rw [hix.out];have n2:=below_drewN n1 nq;have H9:Hid ((v1.drewN nq).heap[w.heap.size]?=some (.cells #[Value.int .i64 0,Value.int .i64 0,Value.int .u64 0,Value.slice none 0 0] 253 (0,0))):=H8;have l2:w.heap.size<(v1.drewN nq).heap.size:=l1;generalize v1.drewN nq=v2 at n2 H9 l2 |-;clear H8 l1 n1;go_wp2_with fail;refine (fM a len cap zs (64*n+8*ix) 8 v2 (hB.keep n2) hl hc hm (by omega) (by omega) (by omega)).mono ?_;rintro e v3 ⟨rfl,n3⟩;rw [hrv.out,hg.out];have n13:=bst n2 n3;have H10:Hid (v3.heap[w.heap.size]?=some (.cells #[Value.int .i64 0,Value.int .i64 0,Value.int .u64 0,Value.slice none 0 0] 253 (0,0))):=ae H9.out n3 l2;have l3:w.heap.size<v3.heap.size:=Nat.lt_of_lt_of_le l2 n3.size;clear H9 n2 n3 l2;obtain ⟨⟨d0,d1,d2,d3⟩,e0,e1,e2,e3⟩:=av H10.out;go_wp2_with fail;refine bodyPost_ret (v:=.agg #[.int .i64 3,.int .i64 lv,.int .u64 0,.slice none 0 0]) (by simp [results,Tryz.results154,go_sem,d0,d1,d2,d3,l3]) rfl ⟨⟨none,0,rfl,RowC.nil _ _ _,fun _=>⟨rfl,rfl⟩,(by intro q hq;cases hq),Nat.zero_le _⟩,?_⟩;exact (nu n13 nle _ _ _ _).alloc (by simpa [World.setCell] using n13.size) _
theorem qg (a:Option Addr) (len cap:Nat) (zs:List Int) (va lv n ix rv:Int) (w:World) (hl:len<=1048576) (hc:len<=cap) (hm:cap<=9223372036854775807) (hv0:0<=va) (hv1:va<=18446744073709551615)
 (h0:0<=lv) (h2:lv<=2) (hn0:0<=n) (hn1:n<17592186044416) (hB:Byt w a len zs) (hix:Hid (dk va lv=ix)) (hib:0<=ix∧ix<=7) (hrv:Hid (rdV zs (64*n+8*ix) 8=rv)) (hrb:0<=rv∧rv<=18446744073709551615)
 (hg:Hid (di len (64*n+8*ix) 8=true)) (hk:Hid (bu rv lv=0)):
 Calls Tryz.prog 154 #[.slice a len cap,.int .u64 n,.int .i64 lv,.int .u64 va] w fun e w'=>jN w.heap.size w' e (2,lv,0,[])∧Below w.heap.size w w':=by
 have hz:=hB.1;have H8:Hid ((w.alloc (Obj.cells #[Value.int .i64 0,Value.int .i64 0,Value.int .u64 0,Value.slice none 0 0] 253)).heap[w.heap.size]?=some (.cells #[Value.int .i64 0,Value.int .i64 0,Value.int .u64 0,Value.slice none 0 0] 253 (0,0))):=heap_alloc_new _ _;have n1:=(Below.refl w.heap.size w).alloc nle (Obj.cells #[Value.int .i64 0,Value.int .i64 0,Value.int .u64 0,Value.slice none 0 0] 253);have l1:w.heap.size<(w.alloc (Obj.cells #[Value.int .i64 0,Value.int .i64 0,Value.int .u64 0,Value.slice none 0 0] 253)).heap.size:=by simp
 go_enter Tryz.func154,Tryz.ntmps154;go_wp2_with fail;generalize w.alloc (Obj.cells #[Value.int .i64 0,Value.int .i64 0,Value.int .u64 0,Value.slice none 0 0] 253)=v1 at H8 n1 l1 |-;refine (jc va lv v1 hv0 hv1 h0 h2).mono ?_;rintro e w' ⟨rfl,nq,rfl⟩;rw [hix.out];have n2:=below_drewN n1 nq;have H9:Hid ((v1.drewN nq).heap[w.heap.size]?=some (.cells #[Value.int .i64 0,Value.int .i64 0,Value.int .u64 0,Value.slice none 0 0] 253 (0,0))):=H8;have l2:w.heap.size<(v1.drewN nq).heap.size:=l1;generalize v1.drewN nq=v2 at n2 H9 l2 |-;clear H8 l1 n1;go_wp2_with fail;refine (fM a len cap zs (64*n+8*ix) 8 v2 (hB.keep n2) hl hc hm (by omega) (by omega) (by omega)).mono ?_;rintro e v3 ⟨rfl,n3⟩;rw [hrv.out,hg.out];have n13:=bst n2 n3;have H10:Hid (v3.heap[w.heap.size]?=some (.cells #[Value.int .i64 0,Value.int .i64 0,Value.int .u64 0,Value.slice none 0 0] 253 (0,0))):=ae H9.out n3 l2;have l3:w.heap.size<v3.heap.size:=Nat.lt_of_lt_of_le l2 n3.size;clear H9 n2 n3 l2;go_wp2_with fail;have a4:=eY v3 #[Value.bool true,Value.int IntKind.u64 rv] 160;generalize v3.alloc (Obj.cells #[Value.bool true,Value.int IntKind.u64 rv] 160)=v4 at a4 |-;obtain ⟨l4,c4,n4⟩:=a4;have c41:v4.cell? ⟨v3.heap.size,1,none⟩=some (.int .u64 rv):=c4 1;have n14:=bst n13 n4;have H11:Hid (v4.heap[w.heap.size]?=some (.cells #[Value.int .i64 0,Value.int .i64 0,Value.int .u64 0,Value.slice none 0 0] 253 (0,0))):=ae H10.out n4 l3;clear c4 n13 n4 H10;refine (fj rv lv v4 hrb.1 hrb.2 (by omega) (by omega)).mono ?_;rintro e w' ⟨rfl,nk,rfl⟩;rw [hk.out];have n15:Below w.heap.size w (v4.drewN nk):=below_drewN n14 nk;have c51:(v4.drewN nk).cell? ⟨v3.heap.size,1,none⟩=some (.int .u64 rv):=c41;have H12:Hid ((v4.drewN nk).heap[w.heap.size]?=some (.cells #[Value.int .i64 0,Value.int .i64 0,Value.int .u64 0,Value.slice none 0 0] 253 (0,0))):=H11;have l5:v3.heap.size<(v4.drewN nk).heap.size:=l4;generalize v4.drewN nk=v5 at n15 c51 H12 l5 |-;clear n14 c41 H11 l4;obtain ⟨⟨d0,d1,d2,d3⟩,e0,e1,e2,e3⟩:=av H12.out;go_wp2_with fail;refine bodyPost_ret (v:=.agg #[.int .i64 2,.int .i64 lv,.int .u64 0,.slice none 0 0]) (by simp [results,Tryz.results154,go_sem,d0,d1,d2,d3]) rfl ⟨⟨none,0,rfl,RowC.nil _ _ _,fun _=>⟨rfl,rfl⟩,(by intro q hq;cases hq),Nat.zero_le _⟩,?_⟩;exact nu n15 nle _ _ _ _
theorem oG (a:Option Addr) (len cap:Nat) (zs:List Int) (va lv n ix rv:Int) (w:World) (hl:len<=1048576) (hc:len<=cap) (hm:cap<=9223372036854775807) (hv0:0<=va) (hv1:va<=18446744073709551615)
 (h0:0<=lv) (h2:lv<=2) (hn0:0<=n) (hn1:n<17592186044416) (hB:Byt w a len zs) (hix:Hid (dk va lv=ix)) (hib:0<=ix∧ix<=7) (hrv:Hid (rdV zs (64*n+8*ix) 8=rv)) (hrb:0<=rv∧rv<=18446744073709551615)
 (hg:Hid (di len (64*n+8*ix) 8=true)) (hk:Hid (bu rv lv=2)):
 Calls Tryz.prog 154 #[.slice a len cap,.int .u64 n,.int .i64 lv,.int .u64 va] w fun e w'=>jN w.heap.size w' e (1,lv,rv,[(lv,64*n+8*ix,rv)])∧Below w.heap.size w w':=by
 have hz:=hB.1;have H8:Hid ((w.alloc (Obj.cells #[Value.int .i64 0,Value.int .i64 0,Value.int .u64 0,Value.slice none 0 0] 253)).heap[w.heap.size]?=some (.cells #[Value.int .i64 0,Value.int .i64 0,Value.int .u64 0,Value.slice none 0 0] 253 (0,0))):=heap_alloc_new _ _;have n1:=(Below.refl w.heap.size w).alloc nle (Obj.cells #[Value.int .i64 0,Value.int .i64 0,Value.int .u64 0,Value.slice none 0 0] 253);have l1:w.heap.size<(w.alloc (Obj.cells #[Value.int .i64 0,Value.int .i64 0,Value.int .u64 0,Value.slice none 0 0] 253)).heap.size:=by simp
 go_enter Tryz.func154,Tryz.ntmps154;go_wp2_with fail;generalize w.alloc (Obj.cells #[Value.int .i64 0,Value.int .i64 0,Value.int .u64 0,Value.slice none 0 0] 253)=v1 at H8 n1 l1 |-;refine (jc va lv v1 hv0 hv1 h0 h2).mono ?_;rintro e w' ⟨rfl,nq,rfl⟩;rw [hix.out];have n2:=below_drewN n1 nq;have H9:Hid ((v1.drewN nq).heap[w.heap.size]?=some (.cells #[Value.int .i64 0,Value.int .i64 0,Value.int .u64 0,Value.slice none 0 0] 253 (0,0))):=H8;have l2:w.heap.size<(v1.drewN nq).heap.size:=l1;generalize v1.drewN nq=v2 at n2 H9 l2 |-;clear H8 l1 n1;go_wp2_with fail;refine (fM a len cap zs (64*n+8*ix) 8 v2 (hB.keep n2) hl hc hm (by omega) (by omega) (by omega)).mono ?_;rintro e v3 ⟨rfl,n3⟩;rw [hrv.out,hg.out];have n13:=bst n2 n3;have H10:Hid (v3.heap[w.heap.size]?=some (.cells #[Value.int .i64 0,Value.int .i64 0,Value.int .u64 0,Value.slice none 0 0] 253 (0,0))):=ae H9.out n3 l2;have l3:w.heap.size<v3.heap.size:=Nat.lt_of_lt_of_le l2 n3.size;clear H9 n2 n3 l2;go_wp2_with fail;have a4:=eY v3 #[Value.bool true,Value.int IntKind.u64 rv] 160;generalize v3.alloc (Obj.cells #[Value.bool true,Value.int IntKind.u64 rv] 160)=v4 at a4 |-;obtain ⟨l4,c4,n4⟩:=a4;have c41:v4.cell? ⟨v3.heap.size,1,none⟩=some (.int .u64 rv):=c4 1;have n14:=bst n13 n4;have H11:Hid (v4.heap[w.heap.size]?=some (.cells #[Value.int .i64 0,Value.int .i64 0,Value.int .u64 0,Value.slice none 0 0] 253 (0,0))):=ae H10.out n4 l3;clear c4 n13 n4 H10;refine (fj rv lv v4 hrb.1 hrb.2 (by omega) (by omega)).mono ?_;rintro e w' ⟨rfl,nk,rfl⟩;rw [hk.out];have n15:Below w.heap.size w (v4.drewN nk):=below_drewN n14 nk;have c51:(v4.drewN nk).cell? ⟨v3.heap.size,1,none⟩=some (.int .u64 rv):=c41;have H12:Hid ((v4.drewN nk).heap[w.heap.size]?=some (.cells #[Value.int .i64 0,Value.int .i64 0,Value.int .u64 0,Value.slice none 0 0] 253 (0,0))):=H11;have l5:v3.heap.size<(v4.drewN nk).heap.size:=l4;generalize v4.drewN nk=v5 at n15 c51 H12 l5 |-;clear n14 c41 H11 l4;obtain ⟨⟨d0,d1,d2,d3⟩,e0,e1,e2,e3⟩:=av H12.out;have l6:w.heap.size<v5.heap.size:=Nat.lt_trans l3 l5;have ne1:v5.heap.size≠v3.heap.size:=by omega
 have ne2:w.heap.size≠v3.heap.size:=by omega
 have ne3:v3.heap.size≠w.heap.size:=by omega
 go_wp2_with fail;go_region_held3 (fun w'=>w'.cell? ⟨v3.heap.size,1,none⟩=some (.int .u64 rv)) (go_keep)
  (first | (go_at_call 175;refine (so _ _ _ _).mono ?_;rintro e w' ⟨rfl,rfl⟩))
 go_wp2_with fail;refine bodyPost_ret (v:=.agg #[.int .i64 1,.int .i64 lv,.int .u64 rv,.slice (some ⟨v5.heap.size,0,none⟩) 1 1]) (by simp [results,Tryz.results154,go_sem,d0,d1,d2,d3,l6]) rfl
  ⟨⟨some ⟨v5.heap.size,0,none⟩,1,rfl,AI _ _ (by simp [World.setCell]) _ 1 3 (cj [(lv,64*n+8*ix,rv)]) (sk _) (by decide),(by intro h;cases h),(by intro q hq;cases hq;exact ⟨rfl,Nat.le_of_lt l6⟩),nle⟩,?_⟩
 exact ((nu n15 nle _ _ _ _).alloc (by simpa [World.setCell] using n15.size) _).drew
end Go.Proofs.YtgnnmgfgfihljaaGreat
