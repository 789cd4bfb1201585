import Derived.Test.YtaoaifmkhbgaiaaGreatPk01
import Derived.Test.YtaoaifmkhbgaiaaGreatPk02
import Derived.Deep.DeepCutAuto
namespace Go.Proofs.YtaoaifmkhbgaiaaGreat
open Go.RowKit
set_option linter.unusedVariables false
theorem AY (k:Nat) (h:k≤62):1≤(2:Int)^k∧(2:Int)^k≤4611686018427387904:=by
 have h1:(2:Nat)^k≤2^62:=Nat.pow_le_pow_right (by omega) h;have h2:1≤(2:Nat)^k:=Nat.one_le_two_pow;have e:(2:Int)^k=((2^k:Nat):Int):=by push_cast;rfl
 rw [e];omega
theorem cA {a b:Int} (h:a=b):Ending.returned (.int .i64 a)=.returned (.int .i64 b):=by rw [h]
theorem aF {a b:Bool} (h:a=b):Ending.returned (.bool a)=.returned (.bool b):=by rw [h]
theorem y7 (k:Nat):∀(n:Int) (w:World),n≤k→k≤63→n.toNat=k→
 Calls Tryz.prog 50 #[.int .i64 n] w fun e w'=>e=.returned (.int .u64 (2^k))∧w'=w:=by
 induction k with
 | zero=>
  intro n w h h' h'';have hn:n≤0:=by omega
  go_enter Tryz.func50,Tryz.ntmps50;go_wp2_with fail;go_ret;exact ⟨rfl,rfl⟩
 | succ k ih=>
  intro n w h h' h'';have hn:¬n≤0:=by omega
  have hb:=AY k (by omega);have IH:Hid (∀(n:Int) (w:World),n≤k→k≤63→n.toNat=k→
   Calls Tryz.prog 50 #[.int .i64 n] w fun e w'=>e=.returned (.int .u64 (2^k))∧w'=w):=ih
  have HE:Hid ((2:Int)^(k+1)=2*2^k):=by show _=_;rw [Int.pow_succ,Int.mul_comm]
  rw [HE.out];clear ih HE;have H'':Hid (n.toNat=k+1):=h'';clear h'';generalize (2:Int)^k=p at *;go_enter Tryz.func50,Tryz.ntmps50;go_wp2_with fail;refine (IH.out (n-1) w (by omega) (by omega) (by have:=H''.out;omega)).mono ?_;rintro e w' ⟨rfl,rfl⟩;go_wp2_with fail;go_ret;exact ⟨rfl,rfl⟩
theorem aZ (n p:Int) (w:World) (hn:n≤63) (hp:p=2^n.toNat):
 Calls Tryz.prog 50 #[.int .i64 n] w fun e w'=>e=.returned (.int .u64 p)∧w'=w:=by
 rw [hp];exact y7 n.toNat n w (by omega) (by omega) rfl
set_option maxHeartbeats 400000 in
theorem bS (x i j p q:Int) (w:World) (h0:0≤x) (h1:x≤18446744073709551615) (hi:0≤i) (hi':i≤63) (hj:i≤j+1) (hj':j-i≤62) (hp:p=2^i.toNat) (hq:q=2^(j-i+1).toNat):
 Calls Tryz.prog 49 #[.int .u64 x,.int .i64 i,.int .i64 j] w fun e w'=>e=.returned (.int .u64 (x/p%q))∧∃n,w'=w.drewN n:=by
 have hp1:1≤p:=by rw [hp];exact Int.pow_pos (by omega:(0:Int)<2)
 have hq1:1≤q:=by rw [hq];exact Int.pow_pos (by omega:(0:Int)<2)
 have hxp:0≤x/p:=Int.ediv_nonneg h0 (by omega);have HP:Hid (p=2^i.toNat):=hp;have HQ:Hid (q=2^(j-i+1).toNat):=hq;clear hp hq;go_enter Tryz.func49,Tryz.ntmps49;go_wp2_with fail;go_quiet (first
  | (go_at_call_of 50 (Value.int IntKind.i64 i);exact Calls.quiet_of_same (aZ i p _ (by omega) HP.out))
  | (go_at_call 50;exact Calls.quiet_of_same (aZ (j-i+1) q _ (by omega) HQ.out)))
 go_wp2_with fail;go_ret;exact ⟨rfl,nq,rfl⟩
theorem bU (x i p:Int) (w:World) (h0:0≤x) (h1:x≤18446744073709551615) (hi:0≤i) (hi':i≤63) (hp:p=2^i.toNat):
 Calls Tryz.prog 70 #[.int .u64 x,.int .i64 i] w fun e w'=>e=.returned (.bool (bK x p))∧∃n,w'=w.drewN n:=by
 have HP:Hid (p=2^i.toNat):=hp;clear hp;go_enter Tryz.func70,Tryz.ntmps70;go_wp2_with fail;refine (bS x i i p 2 w h0 h1 hi hi' (by omega) (by omega) HP.out (by rw [show i-i+1=1 by omega];rfl)).mono ?_;rintro e w' ⟨rfl,nq,rfl⟩;go_wp2_with fail;go_ret;exact ⟨rfl,nq,rfl⟩
theorem dQ (x:Int) (w:World) (h0:0≤x) (h1:x≤18446744073709551615):
 Calls Tryz.prog 45 #[.int .u64 x] w fun e w'=>e=.returned (.int .u64 (dK x))∧∃n,w'=w.drewN n:=by
 go_enter Tryz.func45,Tryz.ntmps45;go_wp2_with fail;refine (bS x 10 53 1024 17592186044416 w h0 h1 (by omega) (by omega) (by omega) (by omega) rfl rfl).mono ?_;rintro e w' ⟨rfl,nq,rfl⟩;go_wp2_with fail;go_ret;exact ⟨rfl,nq,rfl⟩
theorem dR (x:Int) (w:World) (h0:0≤x) (h1:x≤18446744073709551615):
 Calls Tryz.prog 10 #[.int .u64 x] w fun e w'=>e=.returned (.bool (bW x))∧∃n,w'=w.drewN n:=by
 go_enter Tryz.func10,Tryz.ntmps10;go_wp2_with fail;refine (bS x 14 63 16384 1125899906842624 w h0 h1 (by omega) (by omega) (by omega) (by omega) rfl rfl).mono ?_;rintro e w' ⟨rfl,nq,rfl⟩;by_cases ht:x/16384%1125899906842624=0
 ·have ht':(x/16384%1125899906842624 == 0)=true:=by simp [ht]
  clear ht;go_wp2_with fail;go_ret;exact ⟨by simp [bW,ht'],nq,rfl⟩
 ·have ht':(x/16384%1125899906842624 == 0)=false:=by simpa using ht
  clear ht;go_wp2_with (go_at_call 50;refine (aZ 50 1125899906842624 _ (by omega) rfl).mono ?_;rintro e w' ⟨rfl,rfl⟩);go_ret;exact ⟨by simp [bW,ht'],nq,rfl⟩
set_option maxHeartbeats 1600000 in
theorem fM (pte level:Int) (w:World) (h0:0≤pte) (h1:pte≤18446744073709551615) (hl: -9223372036854775808≤level) (hl':level≤9223372036854775807):
 Calls Tryz.prog 46 #[.int .u64 pte,.int .i64 level] w fun e w'=>e=.returned (.int .i64 (bC pte level))∧∃n,w'=w.drewN n:=by
 go_enter Tryz.func46,Tryz.ntmps46;go_wp2_with fail;refine (bU pte 1 2 w h0 h1 (by omega) (by omega) rfl).mono ?_;rintro e w' ⟨rfl,n1,rfl⟩;go_wp2_with fail;refine (bU pte 2 4 _ h0 h1 (by omega) (by omega) rfl).mono ?_;rintro e w' ⟨rfl,n2,rfl⟩;go_wp2_with fail;refine (bU pte 3 8 _ h0 h1 (by omega) (by omega) rfl).mono ?_;rintro e w' ⟨rfl,n3,rfl⟩;go_wp2_with fail;refine (bU pte 4 16 _ h0 h1 (by omega) (by omega) rfl).mono ?_;rintro e w' ⟨rfl,n4,rfl⟩;go_wp2_with fail;refine (bU pte 6 64 _ h0 h1 (by omega) (by omega) rfl).mono ?_;rintro e w' ⟨rfl,n5,rfl⟩;go_wp2_with fail;refine (bU pte 7 128 _ h0 h1 (by omega) (by omega) rfl).mono ?_;rintro e w' ⟨rfl,n6,rfl⟩;by_cases hlev:0≤level∧level≤2
 ·obtain ⟨hl0,hl2⟩:=hlev;cases hV:bK pte 1
  ·go_wp2_with (first
    | (go_at_call 70;refine (bU pte 0 1 _ h0 h1 (by omega) (by omega) rfl).mono ?_;rintro e w' ⟨rfl,n7,rfl⟩;rw [hV]))
   go_ret;exact ⟨cA (by simp [bC,hV]),_,rfl⟩
  ·by_cases hres:0<pte/18014398509481984%1024
   ·go_wp2_with (first
     | (go_at_call 70;refine (bU pte 0 1 _ h0 h1 (by omega) (by omega) rfl).mono ?_;rintro e w' ⟨rfl,n7,rfl⟩;rw [hV])
     | (go_at_call 49;refine (bS pte 54 63 18014398509481984 1024 _ h0 h1 (by omega) (by omega) (by omega) (by omega) rfl rfl).mono ?_;rintro e w' ⟨rfl,n8,rfl⟩))
    go_ret;exact ⟨cA (by simp [bC,hres]),_,rfl⟩
   ·have hres':decide (0<pte/18014398509481984%1024)=false:=by simpa using hres
    cases hr:bK pte 2 <;> cases hw:bK pte 4
    ·cases hx:bK pte 8
     ·cases hu:bK pte 16 <;> cases ha:bK pte 64 <;> cases hd:bK pte 128;all_goals
       rcases (show level=0∨level=1∨level=2 by omega) with rfl | rfl | rfl;all_goals
        go_wp2_with (first
         | (go_at_call 70;refine (bU pte 0 1 _ h0 h1 (by omega) (by omega) rfl).mono ?_;rintro e w' ⟨rfl,n7,rfl⟩;rw [hV])
         | (go_at_call 49;refine (bS pte 54 63 18014398509481984 1024 _ h0 h1 (by omega) (by omega) (by omega) (by omega) rfl rfl).mono ?_;rintro e w' ⟨rfl,n8,rfl⟩))
        go_ret;exact ⟨cA (by simp [bC,hV,hr,hw,hx,hu,ha,hd,hres]),_,rfl⟩
     ·
      obtain ⟨t,ht⟩:∃t,dK pte=t:=⟨_,rfl⟩;have hpp:0≤t:=by rw [←ht];exact Int.emod_nonneg _ (by omega)
      have HPP:Hid (dK pte=t):=ht;clear ht;rcases (show level=0∨level=1∨level=2 by omega) with rfl | rfl | rfl
      ·go_wp2_with (first
        | (go_at_call 70;refine (bU pte 0 1 _ h0 h1 (by omega) (by omega) rfl).mono ?_;rintro e w' ⟨rfl,n7,rfl⟩;rw [hV])
        | (go_at_call 49;refine (bS pte 54 63 18014398509481984 1024 _ h0 h1 (by omega) (by omega) (by omega) (by omega) rfl rfl).mono ?_;rintro e w' ⟨rfl,n8,rfl⟩)
        | (go_at_call 45;refine (dQ pte _ h0 h1).mono ?_;rintro e w' ⟨rfl,n9,rfl⟩;rw [HPP.out])
        | (go_at_call 50;refine (aZ _ 1 _ (by omega) rfl).mono ?_;rintro e w' ⟨rfl,rfl⟩))
       go_ret;exact ⟨cA (by simp [bC,hV,hr,hw,hx,hres,iC,Int.emod_one]),_,rfl⟩
      ·by_cases hm:0<t%8
       ·go_wp2_with (first
         | (go_at_call 70;refine (bU pte 0 1 _ h0 h1 (by omega) (by omega) rfl).mono ?_;rintro e w' ⟨rfl,n7,rfl⟩;rw [hV])
         | (go_at_call 49;refine (bS pte 54 63 18014398509481984 1024 _ h0 h1 (by omega) (by omega) (by omega) (by omega) rfl rfl).mono ?_;rintro e w' ⟨rfl,n8,rfl⟩)
         | (go_at_call 45;refine (dQ pte _ h0 h1).mono ?_;rintro e w' ⟨rfl,n9,rfl⟩;rw [HPP.out])
         | (go_at_call 50;refine (aZ _ 8 _ (by omega) rfl).mono ?_;rintro e w' ⟨rfl,rfl⟩))
        go_ret;exact ⟨cA (by simp [bC,hV,hr,hw,hx,show ¬0<pte/18014398509481984%1024 by omega,iC,HPP.out,hm]),_,rfl⟩
       ·go_wp2_with (first
         | (go_at_call 70;refine (bU pte 0 1 _ h0 h1 (by omega) (by omega) rfl).mono ?_;rintro e w' ⟨rfl,n7,rfl⟩;rw [hV])
         | (go_at_call 49;refine (bS pte 54 63 18014398509481984 1024 _ h0 h1 (by omega) (by omega) (by omega) (by omega) rfl rfl).mono ?_;rintro e w' ⟨rfl,n8,rfl⟩)
         | (go_at_call 45;refine (dQ pte _ h0 h1).mono ?_;rintro e w' ⟨rfl,n9,rfl⟩;rw [HPP.out])
         | (go_at_call 50;refine (aZ _ 8 _ (by omega) rfl).mono ?_;rintro e w' ⟨rfl,rfl⟩))
        go_ret;exact ⟨cA (by simp [bC,hV,hr,hw,hx,show ¬0<pte/18014398509481984%1024 by omega,show ¬0<t%8 by omega,iC,HPP.out]),_,rfl⟩
      ·by_cases hm:0<t%64
       ·go_wp2_with (first
         | (go_at_call 70;refine (bU pte 0 1 _ h0 h1 (by omega) (by omega) rfl).mono ?_;rintro e w' ⟨rfl,n7,rfl⟩;rw [hV])
         | (go_at_call 49;refine (bS pte 54 63 18014398509481984 1024 _ h0 h1 (by omega) (by omega) (by omega) (by omega) rfl rfl).mono ?_;rintro e w' ⟨rfl,n8,rfl⟩)
         | (go_at_call 45;refine (dQ pte _ h0 h1).mono ?_;rintro e w' ⟨rfl,n9,rfl⟩;rw [HPP.out])
         | (go_at_call 50;refine (aZ _ 64 _ (by omega) rfl).mono ?_;rintro e w' ⟨rfl,rfl⟩))
        go_ret;exact ⟨cA (by simp [bC,hV,hr,hw,hx,show ¬0<pte/18014398509481984%1024 by omega,iC,HPP.out,hm]),_,rfl⟩
       ·go_wp2_with (first
         | (go_at_call 70;refine (bU pte 0 1 _ h0 h1 (by omega) (by omega) rfl).mono ?_;rintro e w' ⟨rfl,n7,rfl⟩;rw [hV])
         | (go_at_call 49;refine (bS pte 54 63 18014398509481984 1024 _ h0 h1 (by omega) (by omega) (by omega) (by omega) rfl rfl).mono ?_;rintro e w' ⟨rfl,n8,rfl⟩)
         | (go_at_call 45;refine (dQ pte _ h0 h1).mono ?_;rintro e w' ⟨rfl,n9,rfl⟩;rw [HPP.out])
         | (go_at_call 50;refine (aZ _ 64 _ (by omega) rfl).mono ?_;rintro e w' ⟨rfl,rfl⟩))
        go_ret;exact ⟨cA (by simp [bC,hV,hr,hw,hx,show ¬0<pte/18014398509481984%1024 by omega,show ¬0<t%64 by omega,iC,HPP.out]),_,rfl⟩
    ·
     go_wp2_with (first
      | (go_at_call 70;refine (bU pte 0 1 _ h0 h1 (by omega) (by omega) rfl).mono ?_;rintro e w' ⟨rfl,n7,rfl⟩;rw [hV])
      | (go_at_call 49;refine (bS pte 54 63 18014398509481984 1024 _ h0 h1 (by omega) (by omega) (by omega) (by omega) rfl rfl).mono ?_;rintro e w' ⟨rfl,n8,rfl⟩))
     go_ret;exact ⟨cA (by simp [bC,hr,hw]),_,rfl⟩
    ·
     obtain ⟨t,ht⟩:∃t,dK pte=t:=⟨_,rfl⟩;have hpp:0≤t:=by rw [←ht];exact Int.emod_nonneg _ (by omega)
     have HPP:Hid (dK pte=t):=ht;clear ht;rcases (show level=0∨level=1∨level=2 by omega) with rfl | rfl | rfl
     ·go_wp2_with (first
       | (go_at_call 70;refine (bU pte 0 1 _ h0 h1 (by omega) (by omega) rfl).mono ?_;rintro e w' ⟨rfl,n7,rfl⟩;rw [hV])
       | (go_at_call 49;refine (bS pte 54 63 18014398509481984 1024 _ h0 h1 (by omega) (by omega) (by omega) (by omega) rfl rfl).mono ?_;rintro e w' ⟨rfl,n8,rfl⟩)
       | (go_at_call 45;refine (dQ pte _ h0 h1).mono ?_;rintro e w' ⟨rfl,n9,rfl⟩;rw [HPP.out])
       | (go_at_call 50;refine (aZ _ 1 _ (by omega) rfl).mono ?_;rintro e w' ⟨rfl,rfl⟩))
      go_ret;exact ⟨cA (by simp [bC,hV,hr,hw,hres,iC,Int.emod_one]),_,rfl⟩
     ·by_cases hm:0<t%8
      ·go_wp2_with (first
        | (go_at_call 70;refine (bU pte 0 1 _ h0 h1 (by omega) (by omega) rfl).mono ?_;rintro e w' ⟨rfl,n7,rfl⟩;rw [hV])
        | (go_at_call 49;refine (bS pte 54 63 18014398509481984 1024 _ h0 h1 (by omega) (by omega) (by omega) (by omega) rfl rfl).mono ?_;rintro e w' ⟨rfl,n8,rfl⟩)
        | (go_at_call 45;refine (dQ pte _ h0 h1).mono ?_;rintro e w' ⟨rfl,n9,rfl⟩;rw [HPP.out])
        | (go_at_call 50;refine (aZ _ 8 _ (by omega) rfl).mono ?_;rintro e w' ⟨rfl,rfl⟩))
       go_ret;exact ⟨cA (by simp [bC,hV,hr,hw,show ¬0<pte/18014398509481984%1024 by omega,iC,HPP.out,hm]),_,rfl⟩
      ·go_wp2_with (first
        | (go_at_call 70;refine (bU pte 0 1 _ h0 h1 (by omega) (by omega) rfl).mono ?_;rintro e w' ⟨rfl,n7,rfl⟩;rw [hV])
        | (go_at_call 49;refine (bS pte 54 63 18014398509481984 1024 _ h0 h1 (by omega) (by omega) (by omega) (by omega) rfl rfl).mono ?_;rintro e w' ⟨rfl,n8,rfl⟩)
        | (go_at_call 45;refine (dQ pte _ h0 h1).mono ?_;rintro e w' ⟨rfl,n9,rfl⟩;rw [HPP.out])
        | (go_at_call 50;refine (aZ _ 8 _ (by omega) rfl).mono ?_;rintro e w' ⟨rfl,rfl⟩))
       go_ret;exact ⟨cA (by simp [bC,hV,hr,hw,show ¬0<pte/18014398509481984%1024 by omega,show ¬0<t%8 by omega,iC,HPP.out]),_,rfl⟩
     ·by_cases hm:0<t%64
      ·go_wp2_with (first
        | (go_at_call 70;refine (bU pte 0 1 _ h0 h1 (by omega) (by omega) rfl).mono ?_;rintro e w' ⟨rfl,n7,rfl⟩;rw [hV])
        | (go_at_call 49;refine (bS pte 54 63 18014398509481984 1024 _ h0 h1 (by omega) (by omega) (by omega) (by omega) rfl rfl).mono ?_;rintro e w' ⟨rfl,n8,rfl⟩)
        | (go_at_call 45;refine (dQ pte _ h0 h1).mono ?_;rintro e w' ⟨rfl,n9,rfl⟩;rw [HPP.out])
        | (go_at_call 50;refine (aZ _ 64 _ (by omega) rfl).mono ?_;rintro e w' ⟨rfl,rfl⟩))
       go_ret;exact ⟨cA (by simp [bC,hV,hr,hw,show ¬0<pte/18014398509481984%1024 by omega,iC,HPP.out,hm]),_,rfl⟩
      ·go_wp2_with (first
        | (go_at_call 70;refine (bU pte 0 1 _ h0 h1 (by omega) (by omega) rfl).mono ?_;rintro e w' ⟨rfl,n7,rfl⟩;rw [hV])
        | (go_at_call 49;refine (bS pte 54 63 18014398509481984 1024 _ h0 h1 (by omega) (by omega) (by omega) (by omega) rfl rfl).mono ?_;rintro e w' ⟨rfl,n8,rfl⟩)
        | (go_at_call 45;refine (dQ pte _ h0 h1).mono ?_;rintro e w' ⟨rfl,n9,rfl⟩;rw [HPP.out])
        | (go_at_call 50;refine (aZ _ 64 _ (by omega) rfl).mono ?_;rintro e w' ⟨rfl,rfl⟩))
       go_ret;exact ⟨cA (by simp [bC,hV,hr,hw,show ¬0<pte/18014398509481984%1024 by omega,show ¬0<t%64 by omega,iC,HPP.out]),_,rfl⟩
    ·
     obtain ⟨t,ht⟩:∃t,dK pte=t:=⟨_,rfl⟩;have hpp:0≤t:=by rw [←ht];exact Int.emod_nonneg _ (by omega)
     have HPP:Hid (dK pte=t):=ht;clear ht;rcases (show level=0∨level=1∨level=2 by omega) with rfl | rfl | rfl
     ·go_wp2_with (first
       | (go_at_call 70;refine (bU pte 0 1 _ h0 h1 (by omega) (by omega) rfl).mono ?_;rintro e w' ⟨rfl,n7,rfl⟩;rw [hV])
       | (go_at_call 49;refine (bS pte 54 63 18014398509481984 1024 _ h0 h1 (by omega) (by omega) (by omega) (by omega) rfl rfl).mono ?_;rintro e w' ⟨rfl,n8,rfl⟩)
       | (go_at_call 45;refine (dQ pte _ h0 h1).mono ?_;rintro e w' ⟨rfl,n9,rfl⟩;rw [HPP.out])
       | (go_at_call 50;refine (aZ _ 1 _ (by omega) rfl).mono ?_;rintro e w' ⟨rfl,rfl⟩))
      go_ret;exact ⟨cA (by simp [bC,hV,hr,hw,hres,iC,Int.emod_one]),_,rfl⟩
     ·by_cases hm:0<t%8
      ·go_wp2_with (first
        | (go_at_call 70;refine (bU pte 0 1 _ h0 h1 (by omega) (by omega) rfl).mono ?_;rintro e w' ⟨rfl,n7,rfl⟩;rw [hV])
        | (go_at_call 49;refine (bS pte 54 63 18014398509481984 1024 _ h0 h1 (by omega) (by omega) (by omega) (by omega) rfl rfl).mono ?_;rintro e w' ⟨rfl,n8,rfl⟩)
        | (go_at_call 45;refine (dQ pte _ h0 h1).mono ?_;rintro e w' ⟨rfl,n9,rfl⟩;rw [HPP.out])
        | (go_at_call 50;refine (aZ _ 8 _ (by omega) rfl).mono ?_;rintro e w' ⟨rfl,rfl⟩))
       go_ret;exact ⟨cA (by simp [bC,hV,hr,hw,show ¬0<pte/18014398509481984%1024 by omega,iC,HPP.out,hm]),_,rfl⟩
      ·go_wp2_with (first
        | (go_at_call 70;refine (bU pte 0 1 _ h0 h1 (by omega) (by omega) rfl).mono ?_;rintro e w' ⟨rfl,n7,rfl⟩;rw [hV])
        | (go_at_call 49;refine (bS pte 54 63 18014398509481984 1024 _ h0 h1 (by omega) (by omega) (by omega) (by omega) rfl rfl).mono ?_;rintro e w' ⟨rfl,n8,rfl⟩)
        | (go_at_call 45;refine (dQ pte _ h0 h1).mono ?_;rintro e w' ⟨rfl,n9,rfl⟩;rw [HPP.out])
        | (go_at_call 50;refine (aZ _ 8 _ (by omega) rfl).mono ?_;rintro e w' ⟨rfl,rfl⟩))
       go_ret;exact ⟨cA (by simp [bC,hV,hr,hw,show ¬0<pte/18014398509481984%1024 by omega,show ¬0<t%8 by omega,iC,HPP.out]),_,rfl⟩
     ·by_cases hm:0<t%64
      ·go_wp2_with (first
        | (go_at_call 70;refine (bU pte 0 1 _ h0 h1 (by omega) (by omega) rfl).mono ?_;rintro e w' ⟨rfl,n7,rfl⟩;rw [hV])
        | (go_at_call 49;refine (bS pte 54 63 18014398509481984 1024 _ h0 h1 (by omega) (by omega) (by omega) (by omega) rfl rfl).mono ?_;rintro e w' ⟨rfl,n8,rfl⟩)
        | (go_at_call 45;refine (dQ pte _ h0 h1).mono ?_;rintro e w' ⟨rfl,n9,rfl⟩;rw [HPP.out])
        | (go_at_call 50;refine (aZ _ 64 _ (by omega) rfl).mono ?_;rintro e w' ⟨rfl,rfl⟩))
       go_ret;exact ⟨cA (by simp [bC,hV,hr,hw,show ¬0<pte/18014398509481984%1024 by omega,iC,HPP.out,hm]),_,rfl⟩
      ·go_wp2_with (first
        | (go_at_call 70;refine (bU pte 0 1 _ h0 h1 (by omega) (by omega) rfl).mono ?_;rintro e w' ⟨rfl,n7,rfl⟩;rw [hV])
        | (go_at_call 49;refine (bS pte 54 63 18014398509481984 1024 _ h0 h1 (by omega) (by omega) (by omega) (by omega) rfl rfl).mono ?_;rintro e w' ⟨rfl,n8,rfl⟩)
        | (go_at_call 45;refine (dQ pte _ h0 h1).mono ?_;rintro e w' ⟨rfl,n9,rfl⟩;rw [HPP.out])
        | (go_at_call 50;refine (aZ _ 64 _ (by omega) rfl).mono ?_;rintro e w' ⟨rfl,rfl⟩))
       go_ret;exact ⟨cA (by simp [bC,hV,hr,hw,show ¬0<pte/18014398509481984%1024 by omega,show ¬0<t%64 by omega,iC,HPP.out]),_,rfl⟩
 ·by_cases hneg:level<0
  ·go_wp2_with fail;go_ret;exact ⟨cA (by simp [bC,hneg]),_,rfl⟩
  ·have hgt:2<level:=by omega
   go_wp2_with fail;go_ret;exact ⟨cA (by simp [bC,hgt]),_,rfl⟩
end Go.Proofs.YtaoaifmkhbgaiaaGreat

namespace Go.Proofs.YtaoaifmkhbgaiaaGreat
open Go.RowKit
set_option linter.unusedVariables false
def iW (f:Nat→Int) (user:Bool) (k:Nat):Int × Nat:=
 let a0:Int:=if user then 223 else 207
 let (b,k1):=mS f 5 k
 let a1:Int:=if b then bits .or .u64 a0 32 else a0
 let (c,k2):=mS f 3 k1
 let (d,k3):=eY f 8 k2
 if c then (bits .xor .u64 a1 (IntKind.u64.wrap (2^d.toNat)),k3) else (a1,k2)
theorem za (user b:Bool) (d:Int) (h0:0≤d) (h1:d<8):
 (0≤(if b then bits .or .u64 (if user then 223 else 207) 32 else (if user then 223 else 207):Int)∧(if b then bits .or .u64 (if user then 223 else 207) 32 else (if user then 223 else 207):Int)≤255)∧
 (0≤bits .xor .u64 (if b then bits .or .u64 (if user then 223 else 207) 32 else (if user then 223 else 207)) (IntKind.u64.wrap (2^d.toNat))∧bits .xor .u64 (if b then bits .or .u64 (if user then 223 else 207) 32 else (if user then 223 else 207)) (IntKind.u64.wrap (2^d.toNat))≤255):=by
 have hd:d=0∨d=1∨d=2∨d=3∨d=4∨d=5∨d=6∨d=7:=by omega
 rcases hd with rfl | rfl | rfl | rfl | rfl | rfl | rfl | rfl <;> cases user <;> cases b <;> decide
theorem yg {f:Nat→Int} {user:Bool} {k:Nat}:0≤(iW f user k).1∧(iW f user k).1≤255:=by
 rcases e1:mS f 5 k with ⟨b,k1⟩;rcases e2:mS f 3 k1 with ⟨c,k2⟩;rcases e3:eY f 8 k2 with ⟨d,k3⟩;have h8:=tq (f:=f) (n:=8) (k:=k2) (by omega);rw [e3] at h8;have hv:=za user b d h8.1 h8.2;simp only [iW,e1,e2,e3];cases c
 ·exact hv.1
 ·exact hv.2
set_option maxHeartbeats 800000 in
theorem iQ (p:Nat) (f:Nat→Int) (k:Nat) (user:Bool) (w:World) (h:CurN w p f k):
 Calls Tryz.prog 73 #[.pointer (some ⟨p,0,none⟩),.bool user] w fun e w'=>∃x k',iW f user k=(x,k')∧(0≤x∧x≤255)∧e=.returned (.int .u64 x)∧DrewN w p f k' w':=by
 have HBd:Hid (∀x k',iW f user k=(x,k')→iW f user k=(x,k')∧(0≤x∧x≤255)):=fun x k' e=>⟨e,by have:=yg (f:=f) (user:=user) (k:=k);rw [e] at this;exact this⟩;obtain ⟨a0,ha0⟩:∃a0:Int,(if user then 223 else 207)=a0:=⟨_,rfl⟩;have HA0:Hid _:=ha0;clear ha0;go_enter Tryz.func73,Tryz.ntmps73;go_upto_if 7 with fail;go_cut [5] (fun s wx=>s=.int .u64 a0∧wx=w)
 case first=>
  cases user
  ·go_wp2_with fail;go_meet
   case rel=>exact ⟨by rw [←HA0.out];rfl,rfl⟩
  ·go_wp2_with fail;go_meet
   case rel=>exact ⟨by rw [←HA0.out];rfl,rfl⟩
 case rest=>
 obtain ⟨rfl,rfl⟩:=hcut;go_wp2_with fail;refine (dp p f k 5 _ h (by omega) (by omega)).mono ?_;rintro e v1 ⟨b,k1,e1,rfl,d1⟩;have E1:Hid _:=e1;clear e1;obtain ⟨a1,ha1⟩:∃a1:Int,(if b then bits .or .u64 a0 32 else a0)=a1:=⟨_,rfl⟩;have HA1:Hid _:=ha1;clear ha1;go_upto_if 11 with fail;go_cut [5] (fun s wx=>s=.int .u64 a1∧wx=v1)
 case first=>
  cases b
  ·go_wp2_with fail;go_meet
   case rel=>exact ⟨by rw [←HA1.out];rfl,rfl⟩
  ·go_wp2_with fail;go_meet
   case rel=>exact ⟨by rw [←HA1.out];rfl,rfl⟩
 case rest=>
 obtain ⟨rfl,rfl⟩:=hcut;go_wp2_with fail;refine (dp p f k1 3 _ d1.1 (by omega) (by omega)).mono ?_;rintro e v2 ⟨c,k2,e2,rfl,d2⟩;have E2:Hid _:=e2;have d12:=d1.trans d2;clear e2 d1 d2;obtain ⟨⟨d,k3⟩,e3⟩:∃X,eY f 8 k2=X:=⟨_,rfl⟩;have E3:Hid _:=e3;clear e3;cases c
 ·go_wp2_with fail;go_ret;obtain ⟨q1,q2⟩:=HBd.out _ _ (by simp only [iW,HA0.out,E1.out,HA1.out,E2.out,E3.out];rfl);exact ⟨_,_,q1,q2,rfl,d12⟩
 ·go_wp2_with fail;refine (aX p f k2 8 _ d12.1 (by omega) (by omega)).mono ?_;rintro e v3 ⟨d',k3',e4,hd,rfl,d3⟩;rw [E3.out] at e4;obtain ⟨rfl,rfl⟩:d=d'∧k3=k3':=by simpa using e4
  have d13:=d12.trans d3;clear d12 d3 e4;have hsh:0≤d∧d<64:=by omega
  go_wp2_with fail;go_ret;obtain ⟨q1,q2⟩:=HBd.out _ _ (by simp only [iW,HA0.out,E1.out,HA1.out,E2.out,E3.out];rfl);exact ⟨_,_,q1,q2,rfl,d13⟩
def wB (f:Nat→Int) (k:Nat):Int × Nat:=
 let (a,k1):=eY f 10 k
 let (n,k2):=eY f 64 k1
 if a=0 then u4 f k2
 else if a<3 then
  let (x,k3):=u4 f k2
  (bits .and .u64 x 18014398509481983,k3)
 else if a<5 then (n*1024+1,k2)
 else if a=5 then
  let (x,k3):=iW f false k2
  (n*8192+x,k3)
 else if a=6 then
  let (x,k3):=iW f true k2
  (n*65536+x,k3)
 else
  let (u,k3):=mS f 2 k2
  let (x,k4):=iW f u k3
  (n*1024+x,k4)
theorem a6 (op:BinOp) (x y:Int):0≤bits op .u64 x y∧bits op .u64 x y≤18446744073709551615:=by
 unfold bits;exact aR _
set_option maxHeartbeats 800000 in
theorem zW (p:Nat) (f:Nat→Int) (k:Nat) (w:World) (h:CurN w p f k):
 Calls Tryz.prog 116 #[.pointer (some ⟨p,0,none⟩)] w fun e w'=>∃x k',wB f k=(x,k')∧(0≤x∧x≤18446744073709551615)∧e=.returned (.int .u64 x)∧DrewN w p f k' w':=by
 go_enter Tryz.func116,Tryz.ntmps116;go_wp2_with fail;refine (aX p f k 10 w h (by omega) (by omega)).mono ?_;rintro e v1 ⟨a,k1,e1,ha,rfl,d1⟩;have E1:Hid _:=e1;clear e1;go_wp2_with fail;refine (aX p f k1 64 _ d1.1 (by omega) (by omega)).mono ?_;rintro e v2 ⟨n,k2,e2,hn,rfl,d2⟩;have E2:Hid _:=e2;have d12:=d1.trans d2;clear e2 d1 d2;by_cases c0:a=0
 ·subst c0;go_wp2_with fail;refine (oI p f k2 _ d12.1).mono ?_;rintro e v3 ⟨x,k3,e3,hx,rfl,d3⟩;have E3:Hid _:=e3;have d13:=d12.trans d3;clear e3 d12 d3;go_wp2_with fail;go_ret;exact ⟨x,k3,by simp [wB,E1.out,E2.out,E3.out],hx,rfl,d13⟩
 have c0':(a == 0)=false:=by simpa using c0
 by_cases c1:a<3
 ·go_wp2_with fail;refine (oI p f k2 _ d12.1).mono ?_;rintro e v3 ⟨x,k3,e3,hx,rfl,d3⟩;have E3:Hid _:=e3;have d13:=d12.trans d3;clear e3 d12 d3;go_wp2_with fail;go_ret;exact ⟨_,k3,by simp only [wB,E1.out,E2.out,E3.out];rw [if_neg (by omega),if_pos (by omega)],a6 _ _ _,rfl,d13⟩
 by_cases c2:a<5
 ·go_wp2_with fail;go_ret;exact ⟨n*1024+1,k2,by simp only [wB,E1.out,E2.out];rw [if_neg (by omega),if_neg (by omega),if_pos (by omega)],by omega,rfl,d12⟩
 by_cases c3:a=5
 ·subst c3;go_wp2_with fail;refine (iQ p f k2 false _ d12.1).mono ?_;rintro e v3 ⟨x,k3,e3,hx,rfl,d3⟩;have E3:Hid _:=e3;have d13:=d12.trans d3;clear e3 d12 d3;go_wp2_with fail;go_ret;exact ⟨n*8192+x,k3,by simp [wB,E1.out,E2.out,E3.out],by omega,rfl,d13⟩
 have c3':(a == 5)=false:=by simpa using c3
 by_cases c4:a=6
 ·subst c4;go_wp2_with fail;refine (iQ p f k2 true _ d12.1).mono ?_;rintro e v3 ⟨x,k3,e3,hx,rfl,d3⟩;have E3:Hid _:=e3;have d13:=d12.trans d3;clear e3 d12 d3;go_wp2_with fail;go_ret;exact ⟨n*65536+x,k3,by simp [wB,E1.out,E2.out,E3.out],by omega,rfl,d13⟩
 have c4':(a == 6)=false:=by simpa using c4
 go_wp2_with fail;refine (dp p f k2 2 _ d12.1 (by omega) (by omega)).mono ?_;rintro e v3 ⟨u,k3,e3,rfl,d3⟩;have E3:Hid _:=e3;have d13:=d12.trans d3;clear e3 d12 d3;go_wp2_with fail;refine (iQ p f k3 u _ d13.1).mono ?_;rintro e v4 ⟨x,k4,e4,hx,rfl,d4⟩;have E4:Hid _:=e4;have d14:=d13.trans d4;clear e4 d13 d4;go_wp2_with fail;go_ret;exact ⟨n*1024+x,k4,by simp only [wB,E1.out,E2.out,E3.out,E4.out];rw [if_neg (by omega),if_neg (by omega),if_neg (by omega),if_neg (by omega),if_neg (by omega)],by omega,rfl,d14⟩
def vaX (f:Nat→Int) (k:Nat):Int × Nat:=
 let (a,k1):=eY f 10 k
 let (x,k2):=eY f 16384 k1
 if a=0 then u4 f k2
 else if a=1 then (x+16384,k2)
 else if a=2 then (IntKind.u64.wrap (-x),k2)
 else (x,k2)
set_option maxHeartbeats 800000 in
theorem wC (p:Nat) (f:Nat→Int) (k:Nat) (w:World) (h:CurN w p f k):
 Calls Tryz.prog 72 #[.pointer (some ⟨p,0,none⟩)] w fun e w'=>∃x k',vaX f k=(x,k')∧(0≤x∧x≤18446744073709551615)∧e=.returned (.int .u64 x)∧DrewN w p f k' w':=by
 go_enter Tryz.func72,Tryz.ntmps72;go_wp2_with fail;refine (aX p f k 10 w h (by omega) (by omega)).mono ?_;rintro e v1 ⟨a,k1,e1,ha,rfl,d1⟩;have E1:Hid _:=e1;clear e1;go_wp2_with fail;refine (aX p f k1 16384 _ d1.1 (by omega) (by omega)).mono ?_;rintro e v2 ⟨n,k2,e2,hn,rfl,d2⟩;have E2:Hid _:=e2;have d12:=d1.trans d2;clear e2 d1 d2;by_cases c0:a=0
 ·subst c0;go_wp2_with fail;refine (oI p f k2 _ d12.1).mono ?_;rintro e v3 ⟨x,k3,e3,hx,rfl,d3⟩;have E3:Hid _:=e3;have d13:=d12.trans d3;clear e3 d12 d3;go_wp2_with fail;go_ret;exact ⟨x,k3,by simp [vaX,E1.out,E2.out,E3.out],hx,rfl,d13⟩
 have c0':(a == 0)=false:=by simpa using c0
 by_cases c1:a=1
 ·subst c1;go_wp2_with fail;go_ret;exact ⟨n+16384,k2,by simp [vaX,E1.out,E2.out],by omega,rfl,d12⟩
 have c1':(a == 1)=false:=by simpa using c1
 by_cases c2:a=2
 ·subst c2;go_wp2_with fail;go_ret;exact ⟨IntKind.u64.wrap (-n),k2,by simp [vaX,E1.out,E2.out],aR _,rfl,d12⟩
 have c2':(a == 2)=false:=by simpa using c2
 go_wp2_with fail;go_ret;exact ⟨n,k2,by simp only [vaX,E1.out,E2.out];rw [if_neg (by omega),if_neg (by omega),if_neg (by omega)],by omega,rfl,d12⟩
end Go.Proofs.YtaoaifmkhbgaiaaGreat

namespace Go.Proofs.YtaoaifmkhbgaiaaGreat
open Go.RowKit
set_option linter.unusedVariables false
def AI (f:Nat→Int) (page:Int) (k:Nat):Int × Nat:=
 let (a,k1):=mS f 12 k
 let (b,k2):=mS f 40 k1
 let (c,k3):=mS f 40 k2
 (page*1024+1+(if a then 32 else 0)-(if b then 1 else 0)+(if c then 64 else 0),k3)
set_option maxHeartbeats 800000 in
theorem zZ (p:Nat) (f:Nat→Int) (k:Nat) (page:Int) (w:World) (h:CurN w p f k) (h0:0≤page) (h1:page≤1000):
 Calls Tryz.prog 120 #[.pointer (some ⟨p,0,none⟩),.int .i64 page] w fun e w'=>∃x k',AI f page k=(x,k')∧(0≤x∧x≤2000000)∧e=.returned (.int .u64 x)∧DrewN w p f k' w':=by
 go_enter Tryz.func120,Tryz.ntmps120;go_wp2_with fail;refine (dp p f k 12 _ h (by omega) (by omega)).mono ?_;rintro e v1 ⟨a,k1,e1,rfl,d1⟩;have E1:Hid _:=e1;clear e1;obtain ⟨x1,hx1⟩:∃x1:Int,page*1024+1+(if a then 32 else 0)=x1:=⟨_,rfl⟩;have HX1:Hid _:=hx1;have b1:1≤x1∧x1≤1100000:=by rw [←hx1];split <;> omega
 clear hx1;go_upto_if 11 with fail;go_cut [5] (fun s wx=>s=.int .u64 x1∧wx=v1)
 case first=>
  cases a
  ·go_wp2_with fail;go_meet
   case rel=>exact ⟨by rw [←HX1.out];simp,rfl⟩
  ·go_wp2_with fail;go_meet
   case rel=>exact ⟨by rw [←HX1.out];simp,rfl⟩
 case rest=>
 obtain ⟨rfl,rfl⟩:=hcut;go_wp2_with fail;refine (dp p f k1 40 _ d1.1 (by omega) (by omega)).mono ?_;rintro e v2 ⟨b,k2,e2,rfl,d2⟩;have E2:Hid _:=e2;have d12:=d1.trans d2;clear e2 d1 d2;obtain ⟨x2,hx2⟩:∃x2:Int,x1-(if b then 1 else 0)=x2:=⟨_,rfl⟩;have HX2:Hid _:=hx2;have b2:0≤x2∧x2≤1100000:=by rw [←hx2];split <;> omega
 clear hx2;go_upto_if 15 with fail;go_cut [5] (fun s wx=>s=.int .u64 x2∧wx=v2)
 case first=>
  cases b
  ·go_wp2_with fail;go_meet
   case rel=>exact ⟨by rw [←HX2.out];simp,rfl⟩
  ·go_wp2_with fail;go_meet
   case rel=>exact ⟨by rw [←HX2.out];rfl,rfl⟩
 case rest=>
 obtain ⟨rfl,rfl⟩:=hcut;go_wp2_with fail;refine (dp p f k2 40 _ d12.1 (by omega) (by omega)).mono ?_;rintro e v3 ⟨c,k3,e3,rfl,d3⟩;have E3:Hid _:=e3;have d13:=d12.trans d3;clear e3 d12 d3;cases c
 ·go_wp2_with fail;go_ret;exact ⟨x2,k3,by simp only [AI,E1.out,E2.out,E3.out,HX1.out,HX2.out];simp,by omega,rfl,d13⟩
 ·go_wp2_with fail;go_ret;exact ⟨x2+64,k3,by simp only [AI,E1.out,E2.out,E3.out,HX1.out,HX2.out];simp,by omega,rfl,d13⟩
def iu (asid root:Int):Int:=9223372036854775808+asid*17592186044416+root
theorem mn (asid root:Int) (w:World) (h0:0≤asid) (h1:asid≤1000) (h2:0≤root) (h3:root≤1000):
 Calls Tryz.prog 31 #[.int .i64 asid,.int .i64 root] w fun e w'=>e=.returned (.int .u64 (iu asid root))∧w'=w:=by
 have P1:Hid (∀u,Calls Tryz.prog 50 #[.int .i64 60] u fun e w'=>e=.returned (.int .u64 1152921504606846976)∧w'=u):=fun u=>aZ 60 1152921504606846976 u (by omega) (by decide);have P2:Hid (∀u,Calls Tryz.prog 50 #[.int .i64 44] u fun e w'=>e=.returned (.int .u64 17592186044416)∧w'=u):=fun u=>aZ 44 17592186044416 u (by omega) (by decide);go_enter Tryz.func31,Tryz.ntmps31;go_wp2_with fail;refine (P1.out w).mono ?_;rintro e _ ⟨rfl,rfl⟩;go_wp2_with fail;refine (P2.out _).mono ?_;rintro e _ ⟨rfl,rfl⟩;go_wp2_with fail;go_ret;exact ⟨rfl,rfl⟩
def wH (op a b c imm:Int):List Int:=[op,a+8*b,c,bits .and .i64 imm 255]
theorem qX (op a b c imm:Int) (w:World) (h1:0≤op∧op≤255) (h2:0≤a∧a≤7) (h3:0≤b∧b≤7) (h4:0≤c∧c≤255):
 Calls Tryz.prog 117 #[.int .i64 op,.int .i64 a,.int .i64 b,.int .i64 c,.int .i64 imm] w fun e w'=>∃g,e=.returned (.slice (some ⟨g,0,none⟩) 4 4)∧OwnB 5 w' w.heap.size g 4 4 (wH op a b c imm)∧Below w.heap.size w w':=by
 obtain ⟨m,hm⟩:∃m,bits .and .i64 imm 255=m:=⟨_,rfl⟩;have bm:0≤m∧m≤255:=by rw [←hm];exact kc imm 255 (by omega) (by omega)
 have o:=OwnB.new 5 w [op,a+8*b,c,m] 4 rfl (by decide);have n:=(Below.refl w.heap.size w).alloc (Nat.le_refl _) (Obj.cells #[.int .u8 op,.int .u8 (a+8*b),.int .u8 c,.int .u8 m] 5);have HM:Hid (wH op a b c imm=[op,a+8*b,c,m]):=by show _=_;rw [wH,hm]
 rw [HM.out];clear HM;go_enter Tryz.func117,Tryz.ntmps117;go_wp2_with fail;go_ret;exact ⟨_,rfl,o,n⟩
def ow (a:Int) (zs:List Int):List Int:=[a%256,a/256,(zs.length:Int)]++zs
set_option maxHeartbeats 800000 in
theorem sU (a:Int) (b off n cap:Nat) (zs:List Int) (w:World) (h:Byt w (some ⟨b,off,none⟩) n zs) (hn:n≤255) (h0:0≤a) (h1:a≤65535):
 Calls Tryz.prog 118 #[.int .i64 a,.slice (some ⟨b,off,none⟩) n cap] w fun e w'=>∃g c,e=.returned (.slice (some ⟨g,0,none⟩) (3+n) c)∧OwnB 5 w' w.heap.size g (3+n) c (ow a zs)∧Below w.heap.size w w':=by
 obtain ⟨x,hx⟩:∃x,a%256=x:=⟨_,rfl⟩;obtain ⟨y,hy⟩:∃y,a/256=y:=⟨_,rfl⟩;have bx:0≤x∧x≤255:=by omega
 have yb:0≤y∧y≤255:=by omega
 have o:=OwnB.new 5 w [x,y,(n:Int)] 3 rfl (by decide);have m:=(Below.refl w.heap.size w).alloc (Nat.le_refl _) (Obj.cells #[.int .u8 x,.int .u8 y,.int .u8 n] 5);have HB:Hid _:=h.keep m;have HX:Hid (ow a zs=[x,y,(n:Int)]++zs):=by show _=_;rw [ow,hx,hy,h.1]
 rw [HX.out];clear h HX;go_enter Tryz.func118,Tryz.ntmps118;go_wp2_with (at_builtin;refine eJ _ rfl (.tmp 14) (.tmp 15) 22 rfl 5 Tryz.underlying22 Tryz.infoB w.heap.size w.heap.size 3 3 [x,y,(n:Int)] rfl o b off n cap zs rfl HB.out (by omega) w.heap.size w m (Nat.le_refl _) ?_;intro g4 cp4 v4 o4 n4;clear o m);go_ret;exact ⟨g4,cp4,rfl,o4,n4⟩
def yj (page index pte:Int):List Int:=ow (64*page+8*index) (eA pte 8)
theorem sF (page index pte:Int) (w:World) (h1:0≤page∧page≤63) (h2:0≤index∧index≤7) (h3:0≤pte∧pte≤18446744073709551615):
 Calls Tryz.prog 119 #[.int .i64 page,.int .i64 index,.int .u64 pte] w fun e w'=>∃g c,e=.returned (.slice (some ⟨g,0,none⟩) 11 c)∧OwnB 5 w' w.heap.size g 11 c (yj page index pte)∧Below w.heap.size w w':=by
 have HB:Hid (∀i:Nat,0≤(eA pte 8)[i]?.getD 0∧(eA pte 8)[i]?.getD 0≤255):=dv (jq 8 pte);have C1:Hid (∀u,Calls Tryz.prog 85 #[.int .u64 pte,.int .i64 8] u fun e w'=>∃g cap,e=.returned (.slice (some ⟨g,0,none⟩) 8 cap)∧OwnB 5 w' u.heap.size g 8 cap (eA pte 8)∧Below u.heap.size u w'):=fun u=>jw 8 pte u (by omega) h3.1 h3.2;have C2:Hid (∀u b cap,Byt u (some ⟨b,0,none⟩) 8 (eA pte 8)→Calls Tryz.prog 118 #[.int .i64 (64*page+8*index),.slice (some ⟨b,0,none⟩) 8 cap] u fun e w'=>∃g c,e=.returned (.slice (some ⟨g,0,none⟩) 11 c)∧OwnB 5 w' u.heap.size g 11 c (yj page index pte)∧Below u.heap.size u w'):=fun u b cap hb=>sU (64*page+8*index) b 0 8 cap (eA pte 8) u hb (by omega) (by omega) (by omega);go_enter Tryz.func119,Tryz.ntmps119;go_wp2_with fail;refine (C1.out w).mono ?_;rintro e v1 ⟨g,cap,rfl,o1,n1⟩;go_wp2_with fail;refine (C2.out v1 g cap (o1.byt HB.out)).mono ?_;rintro e v2 ⟨g2,c2,rfl,o2,n2⟩;have o3:=o2.low n1.size;have n12:=Below.step n1 n2 (Nat.le_refl _);clear o1 o2 n1 n2;go_wp2_with fail;go_ret;exact ⟨g2,c2,rfl,o3,n12⟩
end Go.Proofs.YtaoaifmkhbgaiaaGreat
