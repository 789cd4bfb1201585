import Derived.Test.YtgnnmgfgfihljaaGreatPk05
import Derived.Deep.DeepCutAuto
namespace Go.Proofs.YtgnnmgfgfihljaaGreat
open Go.RowKit
set_option linter.unusedVariables false
set_option maxHeartbeats 6400000
set_option maxRecDepth 20000
section
attribute [local go_sem ↓] Go.wp_at_zero Go.wp_at_succ
theorem th (v:Bool) (l t a:Int) (g:Bool) (p:Int) (w:World):
 Calls Tryz.prog 143 #[.agg #[.bool v,.int .i64 l,.int .u64 t,.int .u64 a,.bool g,.int .u64 p],.agg #[.bool v,.int .i64 l,.int .u64 t,.int .u64 a,.bool g,.int .u64 p]] w fun e w'=>e=.returned (.bool true)∧Below w.heap.size w w':=by
 cases v <;> cases g;all_goals
  go_enter Tryz.func143,Tryz.ntmps143;go_wp2_with fail;go_ret;exact ⟨rfl,((Below.refl _ _).alloc nle _).alloc (by simp) _⟩
theorem rC (a b:Option Addr) (n ca cb:Nat) (es:List EntM) (w:World) (h:RowC w a n 6 (az es)) (h':RowC w b n 6 (az es)) (hn:es.length=n) (hl:n<=1048576):
 Calls Tryz.prog 109 #[.slice a n ca,.slice b n cb] w fun e w'=>e=.returned (.bool true)∧Below w.heap.size w w':=by
 have HR:Hid (RowC w a n 6 (az es)):=h;have HR':Hid (RowC w b n 6 (az es)):=h';clear h h';go_enter Tryz.func109,Tryz.ntmps109;go_wp2_with fail;go_loopw [5] (fun i wr=>∃(k:Nat),k<=n∧i=.int .i64 k∧Below w.heap.size w wr) (fun i _=>n-(intOf i).toNat)
 case atStart=>exact ⟨0,Nat.zero_le _,rfl,Below.refl _ _⟩
 case round=>
  obtain ⟨k,hk,rfl,hb⟩:=hrel;by_cases hlt:k<n
  ·obtain ⟨x,hx⟩:∃x:EntM,es[k]?=some x:=⟨_,List.getElem?_eq_getElem (by omega)⟩;have R1:=RowC.keep HR.out hb;have R2:=RowC.keep HR'.out hb;obtain ⟨b1,o1,rfl,lb1⟩:∃b1 o1,a=some ⟨b1,o1,none⟩∧b1<wr.heap.size:=by
    rcases R1.2 with h | ⟨b1,o1,h,h2,_⟩
    ·omega
    ·exact ⟨b1,o1,h,h2⟩
   obtain ⟨b2,o2,rfl,lb2⟩:∃b2 o2,b=some ⟨b2,o2,none⟩∧b2<wr.heap.size:=by
    rcases R2.2 with h | ⟨b2,o2,h,h2,_⟩
    ·omega
    ·exact ⟨b2,o2,h,h2⟩
   obtain ⟨vv,lv,tg,asd,gl,pt⟩:=x;have C1:=fun j u hj hu=>aA (dy R1 hn k _ hx j u hj hu) lb1;have C2:=fun j u hj hu=>aA (dy R2 hn k _ hx j u hj hu) lb2;have g0:∀u:Lies wr,u.w.cell? ⟨b1,o1+k*6,none⟩=some (.bool vv):=C1 0 _ (by omega) rfl;have g1:∀u:Lies wr,u.w.cell? ⟨b1,o1+k*6+1,none⟩=some (.int .i64 lv):=C1 1 _ (by omega) rfl;have g2:∀u:Lies wr,u.w.cell? ⟨b1,o1+k*6+2,none⟩=some (.int .u64 tg):=C1 2 _ (by omega) rfl;have g3:∀u:Lies wr,u.w.cell? ⟨b1,o1+k*6+3,none⟩=some (.int .u64 asd):=C1 3 _ (by omega) rfl;have g4:∀u:Lies wr,u.w.cell? ⟨b1,o1+k*6+4,none⟩=some (.bool gl):=C1 4 _ (by omega) rfl;have g5:∀u:Lies wr,u.w.cell? ⟨b1,o1+k*6+5,none⟩=some (.int .u64 pt):=C1 5 _ (by omega) rfl;have f0:∀u:Lies wr,u.w.cell? ⟨b2,o2+k*6,none⟩=some (.bool vv):=C2 0 _ (by omega) rfl;have f1:∀u:Lies wr,u.w.cell? ⟨b2,o2+k*6+1,none⟩=some (.int .i64 lv):=C2 1 _ (by omega) rfl;have f2:∀u:Lies wr,u.w.cell? ⟨b2,o2+k*6+2,none⟩=some (.int .u64 tg):=C2 2 _ (by omega) rfl;have f3:∀u:Lies wr,u.w.cell? ⟨b2,o2+k*6+3,none⟩=some (.int .u64 asd):=C2 3 _ (by omega) rfl;have f4:∀u:Lies wr,u.w.cell? ⟨b2,o2+k*6+4,none⟩=some (.bool gl):=C2 4 _ (by omega) rfl;have f5:∀u:Lies wr,u.w.cell? ⟨b2,o2+k*6+5,none⟩=some (.int .u64 pt):=C2 5 _ (by omega) rfl;have ne:=cM wr;clear C1 C2 R1 R2 hx;go_wp2_with fail;refine bM (by kernel_rfl) (by kernel_rfl) ?_;repeat (go_big_quiet_step ((go_at_call 143;exact bV _ (th _ _ _ _ _ _ _))))
   refine wpQuiet_nil ?_;rintro _ ⟨u,rfl⟩;have hb2:=bst hb u.h;generalize u.w=v2 at hb2 |-;clear g0 g1 g2 g3 g4 g5 f0 f1 f2 f3 f4 f5 hb;go_wp2_with fail;go_roundw
   case rel=>exact ⟨k+1,by omega,by go_num,hb2⟩
   case measure=>simp [intOf];omega
  ·clear HR HR';go_wp2_with fail;go_ret;exact ⟨rfl,hb⟩
theorem wI (sets ways:Int) (a b:Option Addr) (n ca cb:Nat) (es:List EntM) (w:World) (h:RowC w a n 6 (az es)) (h':RowC w b n 6 (az es)) (hn:es.length=n) (hl:n<=1048576):
 Calls Tryz.prog 65 #[.agg #[.int .i64 sets,.int .i64 ways,.slice a n ca],.agg #[.int .i64 sets,.int .i64 ways,.slice b n cb]] w fun e w'=>e=.returned (.bool true)∧Below w.heap.size w w':=by
 have n1:=((Below.refl w.heap.size w).alloc nle (Obj.cells #[.int .i64 sets,.int .i64 ways,.slice a n ca] 35)).alloc (by simp) (Obj.cells #[.int .i64 sets,.int .i64 ways,.slice b n cb] 35);have HR:=hid (RowC.keep h n1);have HR':=hid (RowC.keep h' n1);clear h h';go_enter Tryz.func65,Tryz.ntmps65;go_wp2_with fail;refine (rC a b n ca cb es _ HR.out HR'.out hn hl).mono ?_;rintro e v2 ⟨rfl,n2⟩;have n12:=bst n1 n2;clear n1 n2 HR HR';go_wp2_with fail;go_ret;exact ⟨rfl,n12⟩
end
section
attribute [local go_sem ↓] Go.wp_at_zero Go.wp_at_succ
def mkE (k0:Int) (t:Nat):Value:=match t%6 with
 | 0=>.bool ((k0+t)%3 == 0)
 | 1=>.int .i64 (k0+t)
 | 4=>.bool ((k0+t)%3 == 0)
 | _=>.int .u64 (k0+t)
def fy (k0:Int) (m:Nat):List Value:=(List.range m).map (mkE k0)
theorem me (k0:Int) (m t:Nat) (h:t<m):(fy k0 m)[t]?=some (mkE k0 t):=by
 simp [fy,h]
theorem Ch (k0:Int) (j:Nat):mkE k0 (j*6)=(.bool ((k0+j*6)%3 == 0)):=by
 unfold mkE;rw [show (j*6)%6=0 by omega];simp only
 push_cast
 congr 1 <;> (first | (congr 2;omega) | omega)
theorem Ci (k0:Int) (j:Nat):mkE k0 (j*6+1)=(.int .i64 (k0+j*6+1)):=by
 unfold mkE;rw [show (j*6+1)%6=1 by omega];simp only
 push_cast
 congr 1 <;> (first | (congr 2;omega) | omega)
theorem Cj (k0:Int) (j:Nat):mkE k0 (j*6+2)=(.int .u64 (k0+j*6+1+1)):=by
 unfold mkE;rw [show (j*6+2)%6=2 by omega];simp only
 push_cast
 congr 1 <;> (first | (congr 2;omega) | omega)
theorem Ck (k0:Int) (j:Nat):mkE k0 (j*6+3)=(.int .u64 (k0+j*6+1+1+1)):=by
 unfold mkE;rw [show (j*6+3)%6=3 by omega];simp only
 push_cast
 congr 1 <;> (first | (congr 2;omega) | omega)
theorem Cl (k0:Int) (j:Nat):mkE k0 (j*6+4)=(.bool ((k0+j*6+1+1+1+1)%3 == 0)):=by
 unfold mkE;rw [show (j*6+4)%6=4 by omega];simp only
 push_cast
 congr 1 <;> (first | (congr 2;omega) | omega)
theorem Cm (k0:Int) (j:Nat):mkE k0 (j*6+5)=(.int .u64 (k0+j*6+1+1+1+1+1)):=by
 unfold mkE;rw [show (j*6+5)%6=5 by omega];simp only
 push_cast
 congr 1 <;> (first | (congr 2;omega) | omega)
theorem Af (k0:Int) (j m:Nat) (ys:List Value) (hy:ys.length=m) (hi:j*6+5<m) (h:∀t,t<j*6->ys[t]?=some (mkE k0 t)):
 ∀t,t<(j+1)*6->((((((ys.set (j*6) (.bool ((k0+j*6)%3 == 0))).set (j*6+1) (.int .i64 (k0+j*6+1))).set (j*6+2) (.int .u64 (k0+j*6+1+1))).set (j*6+3) (.int .u64 (k0+j*6+1+1+1))).set (j*6+4) (.bool ((k0+j*6+1+1+1+1)%3 == 0))).set (j*6+5) (.int .u64 (k0+j*6+1+1+1+1+1)))[t]?=some (mkE k0 t):=by
 intro t ht;by_cases h0:t<j*6
 ·rw [List.getElem?_set_ne (by omega),List.getElem?_set_ne (by omega),List.getElem?_set_ne (by omega),List.getElem?_set_ne (by omega),List.getElem?_set_ne (by omega),List.getElem?_set_ne (by omega)];exact h t h0
 ·rcases (show t=j*6∨t=j*6+1∨t=j*6+2∨t=j*6+3∨t=j*6+4∨t=j*6+5 by omega) with rfl | rfl | rfl | rfl | rfl | rfl
  ·rw [List.getElem?_set_ne (by omega),List.getElem?_set_ne (by omega),List.getElem?_set_ne (by omega),List.getElem?_set_ne (by omega),List.getElem?_set_ne (by omega),List.getElem?_set_self (by omega),Ch]
  ·rw [List.getElem?_set_ne (by omega),List.getElem?_set_ne (by omega),List.getElem?_set_ne (by omega),List.getElem?_set_ne (by omega),List.getElem?_set_self (by simp;omega),Ci]
  ·rw [List.getElem?_set_ne (by omega),List.getElem?_set_ne (by omega),List.getElem?_set_ne (by omega),List.getElem?_set_self (by simp;omega),Cj]
  ·rw [List.getElem?_set_ne (by omega),List.getElem?_set_ne (by omega),List.getElem?_set_self (by simp;omega),Ck]
  ·rw [List.getElem?_set_ne (by omega),List.getElem?_set_self (by simp;omega),Cl]
  ·rw [List.getElem?_set_self (by simp;omega),Cm]
theorem qZ (base g n cap:Nat) (cs:List Value) (k0:Int) (w:World) (h:w.ownsRow base 153 6 (.slice (some ⟨g,0,none⟩) n cap) n cs) (hl:n<=1048576) (hk0:0<=k0) (hk1:k0<=1073741824):
 Calls Tryz.prog 110 #[.slice (some ⟨g,0,none⟩) n cap,.int .i64 k0] w fun e w'=>
  e=.returned (.int .i64 (k0+n*6))∧w'.ownsRow base 153 6 (.slice (some ⟨g,0,none⟩) n cap) n (fy k0 (n*6))∧w.grownBy w' (some g):=by
 have HI:Hid _:=h;clear h;go_enter Tryz.func110,Tryz.ntmps110;go_wp2_with fail;go_loopw [1,5] (fun kk i wr=>∃(j:Nat) (ys:List Value),j<=n∧kk=.int .i64 (k0+j*6)∧i=.int .i64 j∧(∀t,t<j*6->ys[t]?=some (mkE k0 t))∧wr.ownsRow base 153 6 (.slice (some ⟨g,0,none⟩) n cap) n ys∧w.grownBy wr (some g)) (fun _ i _=>n-(intOf i).toNat)
 case atStart=>exact ⟨0,cs,Nat.zero_le _,by simp,rfl,fun t ht=>absurd ht (by omega),HI.out,au _ _⟩
 case round=>
  clear HI;obtain ⟨j,ys,hj,rfl,rfl,hyz,hb,hn⟩:=hrel;have hy:=hb.1;by_cases hlt:j<n
  ·have y0:=aw hb (j*6) _ (List.getElem?_eq_getElem (by omega));have y1:=aw hb (j*6+1) _ (List.getElem?_eq_getElem (by omega));have y2:=aw hb (j*6+2) _ (List.getElem?_eq_getElem (by omega));have y3:=aw hb (j*6+3) _ (List.getElem?_eq_getElem (by omega));have y4:=aw hb (j*6+4) _ (List.getElem?_eq_getElem (by omega));have y5:=aw hb (j*6+5) _ (List.getElem?_eq_getElem (by omega));generalize ys[j*6]'_=z0 at y0;generalize ys[j*6+1]'_=z1 at y1;generalize ys[j*6+2]'_=z2 at y2;generalize ys[j*6+3]'_=z3 at y3;generalize ys[j*6+4]'_=z4 at y4;generalize ys[j*6+5]'_=z5 at y5;have r0:=aD hb (j*6);have r1:=aD hb (j*6+1);have r2:=aD hb (j*6+2);have r3:=aD hb (j*6+3);have r4:=aD hb (j*6+4);have r5:=aD hb (j*6+5);have HZ:=hid hyz;have HB:=hid hb;clear hyz hb;go_wp2_with fail;go_roundw
   case rel=>exact ⟨j+1,_,by omega,by go_num,by go_num,Af k0 j (n*6) ys hy (by omega) HZ.out,(ax (ax (ax (ax (ax (ax HB.out _ _) _ _) _ _) _ _) _ _) _ _),(ak (ak (ak (ak (ak (ak hn _ _) _ _) _ _) _ _) _ _) _ _)⟩
   case measure=>simp [intOf];omega
  ·have hyy:ys=fy k0 (n*6):=by
    apply List.ext_getElem?;intro t;by_cases ht:t<n*6
    ·rw [me k0 _ t ht];exact hyz t (by omega)
    ·rw [List.getElem?_eq_none (by omega),List.getElem?_eq_none (by simp [fy];omega)]
   subst hyy;have hjl:j=n:=by omega
   subst hjl;have HB:Hid _:=hb;clear hyz hb hy;go_wp2_with fail;go_ret;exact ⟨rfl,HB.out,hn⟩
theorem rd (base g n cap:Nat) (k0:Int) (w:World) (h:w.ownsRow base 153 6 (.slice (some ⟨g,0,none⟩) n cap) n (fy k0 (n*6))) (hl:n<=1048576) (hk0:0<=k0) (hk1:k0<=1073741824):
 Calls Tryz.prog 144 #[.slice (some ⟨g,0,none⟩) n cap,.int .i64 k0] w fun e w'=>
  e=.returned (.int .i64 (k0+n*6))∧Below w.heap.size w w':=by
 have hg:=(bC h).2.2;simp only at hg;go_enter Tryz.func144,Tryz.ntmps144;go_wp2_with fail;go_loopw [1,5] (fun kk i wr=>∃(j:Nat),j<=n∧kk=.int .i64 (k0+j*6)∧i=.int .i64 j∧Below w.heap.size w wr) (fun _ i _=>n-(intOf i).toNat)
 case atStart=>exact ⟨0,Nat.zero_le _,by simp,rfl,Below.refl _ _⟩
 case round=>
  obtain ⟨j,hj,rfl,rfl,hn⟩:=hrel;by_cases hlt:j<n
  ·have g0:=Below.cell2 hn (aw h (j*6) _ (me k0 _ (j*6) (by omega))) hg;rw [Ch] at g0;have g1:=Below.cell2 hn (aw h (j*6+1) _ (me k0 _ (j*6+1) (by omega))) hg;rw [Ci] at g1;have g2:=Below.cell2 hn (aw h (j*6+2) _ (me k0 _ (j*6+2) (by omega))) hg;rw [Cj] at g2;have g3:=Below.cell2 hn (aw h (j*6+3) _ (me k0 _ (j*6+3) (by omega))) hg;rw [Ck] at g3;have g4:=Below.cell2 hn (aw h (j*6+4) _ (me k0 _ (j*6+4) (by omega))) hg;rw [Cl] at g4;have g5:=Below.cell2 hn (aw h (j*6+5) _ (me k0 _ (j*6+5) (by omega))) hg;rw [Cm] at g5;clear h;go_wp2_with fail;go_roundw
   case rel=>exact ⟨j+1,by omega,by go_num,by go_num,hn⟩
   case measure=>simp [intOf];omega
  ·have hjl:j=n:=by omega
   subst hjl;clear h;go_wp2_with fail;go_ret;exact ⟨rfl,hn⟩
theorem re (a:Option Addr) (cap:Nat) (k0:Int) (w:World):
 Calls Tryz.prog 110 #[.slice a 0 cap,.int .i64 k0] w fun e w'=>e=.returned (.int .i64 k0)∧w'=w:=by
 go_enter Tryz.func110,Tryz.ntmps110;go_wp2_with fail
 go_loop [1,5] (fun kk i=>kk=.int .i64 k0∧i=.int .i64 0) (fun _ i=>0)
 case atStart=>exact ⟨rfl,rfl⟩
 case round=>
  obtain ⟨rfl,rfl⟩:=hrel;go_wp2_with fail;go_ret;exact ⟨rfl,rfl⟩
theorem rf (a:Option Addr) (cap:Nat) (k0:Int) (w:World):
 Calls Tryz.prog 144 #[.slice a 0 cap,.int .i64 k0] w fun e w'=>e=.returned (.int .i64 k0)∧w'=w:=by
 go_enter Tryz.func144,Tryz.ntmps144;go_wp2_with fail
 go_loop [1,5] (fun kk i=>kk=.int .i64 k0∧i=.int .i64 0) (fun _ i=>0)
 case atStart=>exact ⟨rfl,rfl⟩
 case round=>
  obtain ⟨rfl,rfl⟩:=hrel;go_wp2_with fail;go_ret;exact ⟨rfl,rfl⟩
theorem vy (sets ways:Int) (a:Option Addr) (cap:Nat) (k0:Int) (w:World):
 Calls Tryz.prog 66 #[.agg #[.int .i64 sets,.int .i64 ways,.slice a 0 cap],.int .i64 k0] w fun e w'=>e=.returned (.int .i64 k0)∧Below w.heap.size w w':=by
 have b1:=(Below.refl w.heap.size w).alloc nle (Obj.cells #[.int .i64 sets,.int .i64 ways,.slice a 0 cap] 35);go_enter Tryz.func66,Tryz.ntmps66;go_wp2_with (go_at_call 110;refine (re a cap k0 _).mono ?_;rintro e w' ⟨rfl,rfl⟩);go_ret;exact ⟨rfl,b1⟩
theorem vH (sets ways:Int) (base g n cap:Nat) (cs:List Value) (k0:Int) (w:World) (h:w.ownsRow base 153 6 (.slice (some ⟨g,0,none⟩) n cap) n cs) (hl:n<=1048576) (hk0:0<=k0) (hk1:k0<=1073741824):
 Calls Tryz.prog 66 #[.agg #[.int .i64 sets,.int .i64 ways,.slice (some ⟨g,0,none⟩) n cap],.int .i64 k0] w fun e w'=>
  e=.returned (.int .i64 (k0+n*6))∧w'.ownsRow base 153 6 (.slice (some ⟨g,0,none⟩) n cap) n (fy k0 (n*6))∧w.grownBy w' (some g):=by
 have m1:=World.grownBy_alloc w (Obj.cells #[.int .i64 sets,.int .i64 ways,.slice (some ⟨g,0,none⟩) n cap] 35) (some g);have h1:Hid ((w.alloc (Obj.cells #[.int .i64 sets,.int .i64 ways,.slice (some ⟨g,0,none⟩) n cap] 35)).ownsRow base 153 6 (.slice (some ⟨g,0,none⟩) n cap) n cs):=ag h ((Below.refl w.heap.size w).alloc nle _);clear h;go_enter Tryz.func66,Tryz.ntmps66;go_wp2_with fail;refine (qZ base g n cap cs k0 _ h1.out hl hk0 hk1).mono ?_;rintro e v2 ⟨rfl,c2,m2⟩;have C2:Hid _:=c2;have m12:=eJ m1 m2;clear m1 m2 h1 c2;go_wp2_with fail;go_ret;exact ⟨rfl,C2.out,m12⟩
theorem vJ (sets ways:Int) (a:Option Addr) (cap:Nat) (k0:Int) (w:World) (hk0:0<=k0):
 Calls Tryz.prog 111 #[.agg #[.int .i64 sets,.int .i64 ways,.slice a 0 cap],.int .i64 k0] w fun e w'=>e=.returned (.int .i64 k0)∧Below w.heap.size w w':=by
 have b1:=(Below.refl w.heap.size w).alloc nle (Obj.cells #[.int .i64 sets,.int .i64 ways,.slice a 0 cap] 35);have hk:decide (k0<0)=false:=by simp;omega
 go_enter Tryz.func111,Tryz.ntmps111;go_wp2_with (go_at_call 144;refine (rf a cap k0 _).mono ?_;rintro e w' ⟨rfl,rfl⟩);go_ret;exact ⟨rfl,b1⟩
theorem vK (sets ways:Int) (base g n cap:Nat) (k0:Int) (w:World) (h:w.ownsRow base 153 6 (.slice (some ⟨g,0,none⟩) n cap) n (fy k0 (n*6))) (hl:n<=1048576) (hk0:0<=k0) (hk1:k0<=1073741824):
 Calls Tryz.prog 111 #[.agg #[.int .i64 sets,.int .i64 ways,.slice (some ⟨g,0,none⟩) n cap],.int .i64 k0] w fun e w'=>e=.returned (.int .i64 (k0+n*6))∧Below w.heap.size w w':=by
 have b1:=(Below.refl w.heap.size w).alloc nle (Obj.cells #[.int .i64 sets,.int .i64 ways,.slice (some ⟨g,0,none⟩) n cap] 35);have h1:=hid (ag h b1);have hk:decide (k0+n*6<0)=false:=by simp;omega
 clear h;go_enter Tryz.func111,Tryz.ntmps111;go_wp2_with fail;refine (rd base g n cap k0 _ h1.out hl hk0 hk1).mono ?_;rintro e v2 ⟨rfl,n2⟩;have b2:=bst b1 n2;clear b1 n2 h1;go_wp2_with fail;go_ret;exact ⟨rfl,b2⟩
end
section
attribute [local go_sem ↓] Go.wp_at_zero Go.wp_at_succ
theorem nI {v:World} {p:Nat} {T:TypeId} {a b c d e f:Value} (h:v.heap[p]?=some (.cells #[a,b,c,d,e,f] T (0,0))):
 v.cell? ⟨p,0,none⟩=some a∧v.cell? ⟨p,1,none⟩=some b∧v.cell? ⟨p,2,none⟩=some c∧v.cell? ⟨p,3,none⟩=some d∧v.cell? ⟨p,4,none⟩=some e∧v.cell? ⟨p,5,none⟩=some f:=by
 simp [World.cell?,h]
theorem TlbOwn.drew {base:Nat} {w:World} {v:Value} {t:TlbM} (h:TlbOwn base w v t):TlbOwn base w.drew v t:=h
theorem lS (es:List EntM) (first:Nat):∀(left w k:Nat),k<left->(∀j,j<k->(es[first+(w+j)]?.getD cO).valid=true)->(es[first+(w+k)]?.getD cO).valid=false->ke es first w left=some (w+k)
 | 0,w,k,h,_,_=>by omega
 | left+1,w,0,h,h1,h2=>by
  rw [ke,if_pos (by simpa using h2)];rfl
 | left+1,w,k+1,h,h1,h2=>by
  rw [ke,if_neg (by have:=h1 0 (by omega);simp at this;rw [this];simp)];rw [lS es first left (w+1) k (by omega) (fun j hj=>by rw [show w+1+j=w+(j+1) by omega];exact h1 (j+1) (by omega)) (by rw [show w+1+k=w+(k+1) by omega];exact h2)];congr 1;omega
theorem lT (es:List EntM) (first:Nat):∀(left w:Nat),(∀j,j<left->(es[first+(w+j)]?.getD cO).valid=true)->ke es first w left=none
 | 0,w,h=>rfl
 | left+1,w,h=>by
  rw [ke,if_neg (by have:=h 0 (by omega);simp at this;rw [this];simp)];exact lT es first left (w+1) (fun j hj=>by rw [show w+1+j=w+(j+1) by omega];exact h (j+1) (by omega))
theorem jU (v:Value) (t:TlbM) (x:EntM) (pick:Int) (w:World) (h:TlbAt w v t) (hx:dS x):
 Calls Tryz.prog 156 #[v,kW x,.int .i64 pick] w fun e w'=>(∃y,e=.returned y∧TlbOwn w.heap.size w' y (cV t x pick))∧Below w.heap.size w w':=by
 have HT:=hid h;have HOK:=hid (TlbAt.ok h);obtain ⟨a,cap,rfl,hr,_,_,_,hl,hlc,hcm,hnil,hsp⟩:=h;obtain ⟨sets,ways,es⟩:=t;obtain ⟨vv,lv,tg,asd,gl,pt⟩:=x;obtain ⟨n,hn⟩:∃n,es.length=n:=⟨_,rfl⟩;simp only at hr hl hlc hnil HT |-;have HN:=hid hn;rw [hn] at hr hl hlc hnil HT |-;obtain ⟨X,hX⟩:∃X,cV ⟨sets,ways,es⟩ ⟨vv,lv,tg,asd,gl,pt⟩ pick=X:=⟨_,rfl⟩;have HX:=hid hX;rw [hX];have HR0:=hid hr;obtain ⟨q1,hq1⟩:∃q,aL ⟨sets,ways,es⟩ true=q:=⟨_,rfl⟩;obtain ⟨q2,hq2⟩:∃q,aL ⟨sets,ways,es⟩ false=q:=⟨_,rfl⟩;obtain ⟨q3,hq3⟩:∃q,aW ⟨vv,lv,tg,asd,gl,pt⟩ true=q:=⟨_,rfl⟩;obtain ⟨q4,hq4⟩:∃q,aW ⟨vv,lv,tg,asd,gl,pt⟩ false=q:=⟨_,rfl⟩;have HFi:Hid (jm ⟨sets,ways,es⟩ ⟨vv,lv,tg,asd,gl,pt⟩=((q1 && q3) || (q2 && q4))):=by show _=_;rw [jm,hq1,hq2,hq3,hq4]
 have HQ:Hid (aL ⟨sets,ways,es⟩ true=q1∧aL ⟨sets,ways,es⟩ false=q2):=⟨hq1,hq2⟩;have HG:Hid (∀p w,Calls Tryz.prog 115 #[.agg #[.bool vv,.int .i64 lv,.int .u64 tg,.int .u64 asd,.bool gl,.int .u64 pt],.bool p] w fun e w'=>e=.returned (.bool (cond p q3 q4))∧Below w.heap.size w w'):=fun p w=>by
  have:=jx ⟨vv,lv,tg,asd,gl,pt⟩ p w hx;cases p
  ·rw [hq4] at this;exact this
  ·rw [hq3] at this;exact this
 have HV:Hid (∀p w,TlbAt w (.agg #[.int .i64 sets,.int .i64 ways,.slice a n cap]) ⟨sets,ways,es⟩->Calls Tryz.prog 82 #[.agg #[.int .i64 sets,.int .i64 ways,.slice a n cap],.bool p] w fun e w'=>e=.returned (.bool (cond p q1 q2))∧Below w.heap.size w w'):=fun p w h=>by
  have:=eM _ _ p w h;cases p
  ·rw [hq2] at this;exact this
  ·rw [hq1] at this;exact this
 unfold kW;simp only;have n1:=(((Below.refl w.heap.size w).alloc nle (Obj.cells #[.int .i64 sets,.int .i64 ways,.slice a n cap] 35)).alloc (by simp) (Obj.cells #[.bool vv,.int .i64 lv,.int .u64 tg,.int .u64 asd,.bool gl,.int .u64 pt] 153)).alloc (by simp;omega) (Obj.cells #[.int .i64 0,.int .i64 0,.slice none 0 0] 35);have HT1:=hid (HT.out.keep n1);have H1:Hid ((((w.alloc (Obj.cells #[.int .i64 sets,.int .i64 ways,.slice a n cap] 35)).alloc (Obj.cells #[.bool vv,.int .i64 lv,.int .u64 tg,.int .u64 asd,.bool gl,.int .u64 pt] 153)).alloc (Obj.cells #[.int .i64 0,.int .i64 0,.slice none 0 0] 35)).heap[w.heap.size]?=some (.cells #[.int .i64 sets,.int .i64 ways,.slice a n cap] 35 (0,0))):=by
  show _=_;rw [heap_alloc_old _ _ (by simp;omega),heap_alloc_old _ _ (by simp)];exact heap_alloc_new w _
 have H2:Hid ((((w.alloc (Obj.cells #[.int .i64 sets,.int .i64 ways,.slice a n cap] 35)).alloc (Obj.cells #[.bool vv,.int .i64 lv,.int .u64 tg,.int .u64 asd,.bool gl,.int .u64 pt] 153)).alloc (Obj.cells #[.int .i64 0,.int .i64 0,.slice none 0 0] 35)).heap[w.heap.size+1]?=some (.cells #[.bool vv,.int .i64 lv,.int .u64 tg,.int .u64 asd,.bool gl,.int .u64 pt] 153 (0,0))):=by
  show _=_;rw [heap_alloc_old _ _ (by simp)];have:=heap_alloc_new (w.alloc (Obj.cells #[.int .i64 sets,.int .i64 ways,.slice a n cap] 35)) (Obj.cells #[.bool vv,.int .i64 lv,.int .u64 tg,.int .u64 asd,.bool gl,.int .u64 pt] 153);simp only [World.size_alloc] at this;exact this
 have H3:Hid ((((w.alloc (Obj.cells #[.int .i64 sets,.int .i64 ways,.slice a n cap] 35)).alloc (Obj.cells #[.bool vv,.int .i64 lv,.int .u64 tg,.int .u64 asd,.bool gl,.int .u64 pt] 153)).alloc (Obj.cells #[.int .i64 0,.int .i64 0,.slice none 0 0] 35)).heap[w.heap.size+1+1]?=some (.cells #[.int .i64 0,.int .i64 0,.slice none 0 0] 35 (0,0))):=by
  have:=heap_alloc_new ((w.alloc (Obj.cells #[.int .i64 sets,.int .i64 ways,.slice a n cap] 35)).alloc (Obj.cells #[.bool vv,.int .i64 lv,.int .u64 tg,.int .u64 asd,.bool gl,.int .u64 pt] 153)) (Obj.cells #[.int .i64 0,.int .i64 0,.slice none 0 0] 35);simp only [World.size_alloc] at this;exact this
 have l1:w.heap.size+1+1<(((w.alloc (Obj.cells #[.int .i64 sets,.int .i64 ways,.slice a n cap] 35)).alloc (Obj.cells #[.bool vv,.int .i64 lv,.int .u64 tg,.int .u64 asd,.bool gl,.int .u64 pt] 153)).alloc (Obj.cells #[.int .i64 0,.int .i64 0,.slice none 0 0] 35)).heap.size:=by simp
 clear hr hnil hsp HT hn hX hq1 hq2 hq3 hq4;go_enter Tryz.func156,Tryz.ntmps156;go_wp2_with fail;generalize (((w.alloc (Obj.cells #[.int .i64 sets,.int .i64 ways,.slice a n cap] 35)).alloc (Obj.cells #[.bool vv,.int .i64 lv,.int .u64 tg,.int .u64 asd,.bool gl,.int .u64 pt] 153)).alloc (Obj.cells #[.int .i64 0,.int .i64 0,.slice none 0 0] 35))=v1 at n1 HT1 H1 H2 H3 l1 |-;refine (gc _ ⟨sets,ways,es⟩ v1 HT1.out).mono ?_;rintro e v2 ⟨⟨x,rfl,g,cp,rfl,o2⟩,n2⟩;simp only at o2 |-;rw [HN.out] at o2 |-;have O2:=hid o2;have hg:=bC o2;have A2:=bst n1 n2;have HT2:=hid (HT1.out.keep n2);have K1:=ab H1 n2;have K2:=ab H2 n2;have K3:=ab H3 n2;have l2:=n2.size;obtain ⟨_,hg1,hg2⟩:=hg;simp only at hg1 hg2;clear o2 n1 n2 HT1 H1 H2 H3;go_upto_region 2 with fail;have n3:=(Below.refl v2.heap.size v2).alloc nle (Obj.cells #[.int .i64 sets,.int .i64 ways,.slice (some ⟨g,0,none⟩) n cp] 35);have H4:Hid ((v2.alloc (Obj.cells #[.int .i64 sets,.int .i64 ways,.slice (some ⟨g,0,none⟩) n cp] 35)).heap[v2.heap.size]?=some (.cells #[.int .i64 sets,.int .i64 ways,.slice (some ⟨g,0,none⟩) n cp] 35 (0,0))):=heap_alloc_new v2 _;have l3:v2.heap.size<(v2.alloc (Obj.cells #[.int .i64 sets,.int .i64 ways,.slice (some ⟨g,0,none⟩) n cp] 35)).heap.size:=by simp
 generalize v2.alloc (Obj.cells #[.int .i64 sets,.int .i64 ways,.slice (some ⟨g,0,none⟩) n cp] 35)=v3 at n3 H4 l3 |-;have A3:=bst A2 n3;have HT3:Hid (∀v,Below v3.heap.size v3 v->TlbAt v (.agg #[.int .i64 sets,.int .i64 ways,.slice a n cap]) ⟨sets,ways,es⟩):=fun v hv=>(HT2.out.keep n3).keep hv;have O3:Hid (v3.ownsRow v1.heap.size 153 6 (.slice (some ⟨g,0,none⟩) n cp) n (az es)):=ag O2.out n3;have P1:=ab K1 n3;have P2:=ab K2 n3;have P3:=ab K3 n3;clear n3 HT2 O2 K1 K2 K3 A2;have HC:Hid (∀v,Below v3.heap.size v3 v->(v.cell? ⟨w.heap.size,0,none⟩=some (.int .i64 sets)∧v.cell? ⟨w.heap.size,1,none⟩=some (.int .i64 ways)∧v.cell? ⟨w.heap.size,2,none⟩=some (.slice a n cap))∧
  v.cell? ⟨w.heap.size+1,0,none⟩=some (.bool vv)∧v.cell? ⟨w.heap.size+1,1,none⟩=some (.int .i64 lv)∧v.cell? ⟨w.heap.size+1,2,none⟩=some (.int .u64 tg)∧v.cell? ⟨w.heap.size+1,3,none⟩=some (.int .u64 asd)∧v.cell? ⟨w.heap.size+1,4,none⟩=some (.bool gl)∧v.cell? ⟨w.heap.size+1,5,none⟩=some (.int .u64 pt)):=
  fun v hv=>⟨(ay (ae P1.out hv (by omega))).1,nI (ae P2.out hv (by omega))⟩
 have bl:Below v3.heap.size v3 v3:=Below.refl _ _;obtain ⟨FB,hFB⟩:∃FB,((q1 && q3) || (q2 && q4))=FB:=⟨_,rfl⟩;go_cut [8] (fun s8 wx=>s8=.bool FB∧Below v3.heap.size v3 wx)
 case first=>
  obtain ⟨⟨c0,c1,c2⟩,f0,f1,f2,f3,f4,f5⟩:=HC.out v3 bl;cases q1
  ·cases q2 <;> cases q4;all_goals
    go_wp2_with (first
    | (go_at_call 82;refine (HV.out _ _ (HT3.out _ bl)).mono ?_;rintro e vz ⟨rfl,nz⟩;dsimp only [cond];replace bl:=bst bl nz;clear c0 c1 c2 f0 f1 f2 f3 f4 f5;have cc:=HC.out _ bl;obtain ⟨⟨c0,c1,c2⟩,f0,f1,f2,f3,f4,f5⟩:=cc)
    | (go_at_call 115;refine (HG.out _ _).mono ?_;rintro e vz ⟨rfl,nz⟩;dsimp only [cond];replace bl:=bst bl nz;clear c0 c1 c2 f0 f1 f2 f3 f4 f5;have cc:=HC.out _ bl;obtain ⟨⟨c0,c1,c2⟩,f0,f1,f2,f3,f4,f5⟩:=cc))
    go_meet;exact ⟨by rw [<-hFB];rfl,bl⟩
  ·cases q3
   ·cases q2 <;> cases q4;all_goals
     go_wp2_with (first
     | (go_at_call 82;refine (HV.out _ _ (HT3.out _ bl)).mono ?_;rintro e vz ⟨rfl,nz⟩;dsimp only [cond];replace bl:=bst bl nz;clear c0 c1 c2 f0 f1 f2 f3 f4 f5;have cc:=HC.out _ bl;obtain ⟨⟨c0,c1,c2⟩,f0,f1,f2,f3,f4,f5⟩:=cc)
     | (go_at_call 115;refine (HG.out _ _).mono ?_;rintro e vz ⟨rfl,nz⟩;dsimp only [cond];replace bl:=bst bl nz;clear c0 c1 c2 f0 f1 f2 f3 f4 f5;have cc:=HC.out _ bl;obtain ⟨⟨c0,c1,c2⟩,f0,f1,f2,f3,f4,f5⟩:=cc))
     go_meet;exact ⟨by rw [<-hFB];rfl,bl⟩
   ·go_wp2_with (first
    | (go_at_call 82;refine (HV.out _ _ (HT3.out _ bl)).mono ?_;rintro e vz ⟨rfl,nz⟩;dsimp only [cond];replace bl:=bst bl nz;clear c0 c1 c2 f0 f1 f2 f3 f4 f5;have cc:=HC.out _ bl;obtain ⟨⟨c0,c1,c2⟩,f0,f1,f2,f3,f4,f5⟩:=cc)
    | (go_at_call 115;refine (HG.out _ _).mono ?_;rintro e vz ⟨rfl,nz⟩;dsimp only [cond];replace bl:=bst bl nz;clear c0 c1 c2 f0 f1 f2 f3 f4 f5;have cc:=HC.out _ bl;obtain ⟨⟨c0,c1,c2⟩,f0,f1,f2,f3,f4,f5⟩:=cc))
    go_meet;exact ⟨by rw [<-hFB];rfl,bl⟩
 case rest=>
  obtain ⟨rfl,m⟩:=hcut;generalize wc=v4 at m |-;have A4:=bst A3 m;have O4:Hid (v4.ownsRow v1.heap.size 153 6 (.slice (some ⟨g,0,none⟩) n cp) n (az es)):=ag O3.out m;have R1:=ab P1 m;have R2:=ab P2 m;have R3:=ab P3 m;have R4:=ab H4 m;have l4:v3.heap.size<=v4.heap.size:=m.size;have HFB:Hid (jm ⟨sets,ways,es⟩ ⟨vv,lv,tg,asd,gl,pt⟩=FB):=HFi.out.trans hFB;clear HFi hFB HC HT3 HG HV P1 P2 P3 H4 O3 A3 m bl;obtain ⟨⟨p0,p1,p2⟩,_,_,_⟩:=ay R4.out;obtain ⟨⟨d0,d1,d2⟩,e0,e1,e2⟩:=ay R3.out;by_cases hok:FB=true∧0<=pick∧pick<=255
  ·obtain ⟨rfl,hp0,hp1⟩:=hok;obtain ⟨pp,hvp,hgp⟩:∃pp,aL ⟨sets,ways,es⟩ pp=true∧aW ⟨vv,lv,tg,asd,gl,pt⟩ pp=true:=by
    have:=HFB.out;simp only [jm,Bool.or_eq_true,Bool.and_eq_true] at this;rcases this with ⟨h1,h2⟩ | ⟨h1,h2⟩
    ·exact ⟨true,h1,h2⟩
    ·exact ⟨false,h1,h2⟩
   obtain ⟨hs,hw,hw',hnw⟩:=eL hvp;simp only at hs hw hw' hnw;rw [HN.out] at hnw;have htg:tg<512:=uJ hgp;have htg0:0<=tg:=hx.2.1.1;have HXe:Hid (X=⟨sets,ways,es.set (eA ⟨sets,ways,es⟩ ⟨vv,lv,tg,asd,gl,pt⟩+iq ⟨sets,ways,es⟩ ⟨vv,lv,tg,asd,gl,pt⟩ pick) ⟨vv,lv,tg,asd,gl,pt⟩⟩):=by
    show _=_;rw [<-HX.out];unfold cV;rw [if_pos ⟨HFB.out,hp0,hp1⟩]
   obtain ⟨⟨c0,c1,c2⟩,_,_,_⟩:=ay R1.out;obtain ⟨f0,f1,f2,f3,f4,f5⟩:=nI R2.out;have hf1:=qR (t:=⟨sets,ways,es⟩) (e:=⟨vv,lv,tg,asd,gl,pt⟩) htg0 hs hw;simp only at hf1;have HIx:=fun pk=>BD (t:=⟨sets,ways,es⟩) (e:=⟨vv,lv,tg,asd,gl,pt⟩) (pick:=pk) hvp htg0;obtain ⟨fi,hfi⟩:∃fi,eA ⟨sets,ways,es⟩ ⟨vv,lv,tg,asd,gl,pt⟩=fi:=⟨_,rfl⟩;have HFi:Hid (eA ⟨sets,ways,es⟩ ⟨vv,lv,tg,asd,gl,pt⟩=fi):=hfi;rw [hfi] at hf1;have hfb:(fi:Int)+ways<=n:=by
    have h3:tg%sets<sets:=Int.emod_lt_of_pos _ (by omega);have h5:(tg%sets+1)*ways<=sets*ways:=Int.mul_le_mul_of_nonneg_right (by omega) (by omega);rw [Int.add_mul] at h5;omega
   have HF1:Hid ((fi:Int)=tg%sets*ways):=hf1;have HWr:Hid (wrap64 (tg%sets*ways)=(fi:Int)):=by
    show _=_;rw [<-hf1];unfold wrap64;omega
   clear hfi HIx hf1;go_upto_region 5 with fail;go_cut [9] (fun s9 wx=>s9=.int .i64 fi∧∃q,wx=v4.drewN q)
   case first=>
    rcases hs with rfl | rfl | rfl | rfl;all_goals
     go_quiet (fail);go_wp2_with fail;go_meet;exact ⟨by first | rw [HWr.out] | (rw [HF1.out] <;> simp),nq,rfl⟩
   case rest=>
    obtain ⟨rfl,qd,rfl⟩:=hcut;have A5:Below w.heap.size w (v4.drewN qd):=below_drewN A4 qd;have O5:Hid ((v4.drewN qd).ownsRow v1.heap.size 153 6 (.slice (some ⟨g,0,none⟩) n cp) n (az es)):=O4;have S1:Hid ((v4.drewN qd).heap[w.heap.size]?=_):=R1;have S2:Hid ((v4.drewN qd).heap[w.heap.size+1]?=_):=R2;have S3:Hid ((v4.drewN qd).heap[w.heap.size+1+1]?=_):=R3;have S4:Hid ((v4.drewN qd).heap[v2.heap.size]?=_):=R4;have l5:v3.heap.size<=(v4.drewN qd).heap.size:=l4;generalize v4.drewN qd=v5 at A5 O5 S1 S2 S3 S4 l5 |-;clear O4 R1 R2 R3 R4 l4 A4 c0 c1 c2 f0 f1 f2 f3 f4 f5 p0 p1 p2 d0 d1 d2 e0 e1 e2;go_wp2_with fail;go_loopw [10] (fun i wr=>∃k:Nat,(k:Int)<=ways∧i=.int .i64 k∧(∀j,j<k->(es[fi+j]?.getD cO).valid=true)∧Below v5.heap.size v5 wr) (fun i _=>ways.toNat-(intOf i).toNat)
    case atStart=>exact ⟨0,by omega,rfl,fun j hj=>absurd hj (by omega),Below.refl _ _⟩
    case round=>
     obtain ⟨k,hk,rfl,hall,hb⟩:=hrel;have HAll:Hid (∀j,j<k->(es[fi+j]?.getD cO).valid=true):=hall;have HO:Hid (wr.ownsRow v1.heap.size 153 6 (.slice (some ⟨g,0,none⟩) n cp) n (az es)):=ag O5.out hb;have A6:=bst A5 hb;have lr:v3.heap.size<=wr.heap.size:=Nat.le_trans l5 hb.size;obtain ⟨⟨c0,c1,c2⟩,_,_,_⟩:=ay (ae S1.out hb (by omega));obtain ⟨f0,f1,f2,f3,f4,f5⟩:=nI (ae S2.out hb (by omega));obtain ⟨⟨d0,d1,d2⟩,e0,e1,e2⟩:=ay (ae S3.out hb (by omega));obtain ⟨⟨p0,p1,p2⟩,_,_,_⟩:=ay (ae S4.out hb (by omega));clear hall;by_cases hlt:(k:Int)<ways
     ·obtain ⟨x,hx'⟩:∃x,es[fi+k]?=some x:=⟨_,List.getElem?_eq_getElem (by rw [HN.out];omega)⟩;obtain ⟨b,off,rfl,hbb⟩:∃b off,a=some ⟨b,off,none⟩∧b<w.heap.size:=by
       rcases HR0.out.2 with h | ⟨b,off,h,h2,_⟩
       ·omega
       ·exact ⟨b,off,h,h2⟩
      have CE:∀j u,j<6->(gk x)[j]?=some u->wr.cell? ⟨b,off+((fi+k)*6+j),none⟩=some u:=fun j u hj hu=>
       Below.cell2 A6 (dy HR0.out HN.out (fi+k) x hx' j u hj hu) hbb
      obtain ⟨xv,x1,x2,x3,x4,x5⟩:=x;have g0:wr.cell? ⟨b,off+(fi+k)*6,none⟩=some (.bool xv):=CE 0 _ (by omega) rfl;have g1:wr.cell? ⟨b,off+(fi+k)*6+1,none⟩=some (.int .i64 x1):=CE 1 _ (by omega) rfl;have g2:wr.cell? ⟨b,off+(fi+k)*6+2,none⟩=some (.int .u64 x2):=CE 2 _ (by omega) rfl;have g3:wr.cell? ⟨b,off+(fi+k)*6+3,none⟩=some (.int .u64 x3):=CE 3 _ (by omega) rfl;have g4:wr.cell? ⟨b,off+(fi+k)*6+4,none⟩=some (.bool x4):=CE 4 _ (by omega) rfl;have g5:wr.cell? ⟨b,off+(fi+k)*6+5,none⟩=some (.int .u64 x5):=CE 5 _ (by omega) rfl;have HXv:Hid ((es[fi+k]?.getD cO).valid=xv):=by show _=_;rw [hx'];rfl
      clear CE hx';cases xv
      ·have HXf:Hid (X=⟨sets,ways,es.set (fi+k) ⟨vv,lv,tg,asd,gl,pt⟩⟩):=by
        show _=_;rw [HXe.out,HFi.out];have:iq ⟨sets,ways,es⟩ ⟨vv,lv,tg,asd,gl,pt⟩ pick=k:=by
         unfold iq;simp only;rw [HFi.out,lS es fi ways.toNat 0 k (by omega) (fun j hj=>by rw [Nat.zero_add];exact HAll.out j hj) (by rw [Nat.zero_add];exact HXv.out)];simp
        rw [this]
       have hcl:(az es).length=n*6:=by rw [eo,HN.out]
       have y0:=aw HO.out ((fi+k)*6) _ (List.getElem?_eq_getElem (by omega));have y1:=aw HO.out ((fi+k)*6+1) _ (List.getElem?_eq_getElem (by omega));have y2:=aw HO.out ((fi+k)*6+2) _ (List.getElem?_eq_getElem (by omega));have y3:=aw HO.out ((fi+k)*6+3) _ (List.getElem?_eq_getElem (by omega));have y4:=aw HO.out ((fi+k)*6+4) _ (List.getElem?_eq_getElem (by omega));have y5:=aw HO.out ((fi+k)*6+5) _ (List.getElem?_eq_getElem (by omega));generalize (az es)[(fi+k)*6]'_=z0 at y0;generalize (az es)[(fi+k)*6+1]'_=z1 at y1;generalize (az es)[(fi+k)*6+2]'_=z2 at y2;generalize (az es)[(fi+k)*6+3]'_=z3 at y3;generalize (az es)[(fi+k)*6+4]'_=z4 at y4;generalize (az es)[(fi+k)*6+5]'_=z5 at y5;have r0:=aD HO.out ((fi+k)*6);have r1:=aD HO.out ((fi+k)*6+1);have r2:=aD HO.out ((fi+k)*6+2);have r3:=aD HO.out ((fi+k)*6+3);have r4:=aD HO.out ((fi+k)*6+4);have r5:=aD HO.out ((fi+k)*6+5);clear hcl;go_wp2_with fail;refine bodyPost_ret (v:=.agg #[.int .i64 sets,.int .i64 ways,.slice (some ⟨g,0,none⟩) n cp]) (by simp [results,Tryz.results156,go_sem,d0,d1,d2]) rfl ⟨⟨_,rfl,?_⟩,fu (A6.grown (ak (ak (ak (ak (ak (ak (au wr (some g)) _ _) _ _) _ _) _ _) _ _) _ _) (by have:=A6.size;omega) (fun q hq=>by cases hq;omega)) (by omega) _ _ _⟩;rw [HXf.out];refine ⟨g,cp,by simp only [List.length_set];rw [HN.out],?_⟩;simp only [List.length_set];rw [HN.out,gZ es (fi+k) _ (by rw [HN.out];omega)];exact aK (bX (ax (ax (ax (ax (ax (ax HO.out _ _) _ _) _ _) _ _) _ _) _ _) (gb3 _ (w.heap.size+1+1) _ _ _) (by omega)) (by omega)
      ·go_wp2_with fail;go_roundw
       case rel=>exact ⟨k+1,by omega,by go_num,fun j hj=>by
        by_cases e:j=k
        ·subst e;exact HXv.out
        ·exact HAll.out j (by omega),hb⟩
       case measure=>simp [intOf];omega
     ·have hkw:(k:Int)=ways:=by omega
      obtain ⟨pk,hpk⟩:=Int.eq_ofNat_of_zero_le (Int.emod_nonneg pick (show ways≠0 by omega));have hpk':(pk:Int)<ways:=by rw [<-hpk];exact Int.emod_lt_of_pos _ (by omega)
      have HXf:Hid (X=⟨sets,ways,es.set (fi+pk) ⟨vv,lv,tg,asd,gl,pt⟩⟩):=by
       show _=_;rw [HXe.out,HFi.out];have:iq ⟨sets,ways,es⟩ ⟨vv,lv,tg,asd,gl,pt⟩ pick=pk:=by
        unfold iq;simp only;rw [HFi.out,lT es fi ways.toNat 0 (fun j hj=>by rw [Nat.zero_add];exact HAll.out j (by omega)),hpk];simp
       rw [this]
      have hcl:(az es).length=n*6:=by rw [eo,HN.out]
      have y0:=aw HO.out ((fi+pk)*6) _ (List.getElem?_eq_getElem (by omega));have y1:=aw HO.out ((fi+pk)*6+1) _ (List.getElem?_eq_getElem (by omega));have y2:=aw HO.out ((fi+pk)*6+2) _ (List.getElem?_eq_getElem (by omega));have y3:=aw HO.out ((fi+pk)*6+3) _ (List.getElem?_eq_getElem (by omega));have y4:=aw HO.out ((fi+pk)*6+4) _ (List.getElem?_eq_getElem (by omega));have y5:=aw HO.out ((fi+pk)*6+5) _ (List.getElem?_eq_getElem (by omega));generalize (az es)[(fi+pk)*6]'_=z0 at y0;generalize (az es)[(fi+pk)*6+1]'_=z1 at y1;generalize (az es)[(fi+pk)*6+2]'_=z2 at y2;generalize (az es)[(fi+pk)*6+3]'_=z3 at y3;generalize (az es)[(fi+pk)*6+4]'_=z4 at y4;generalize (az es)[(fi+pk)*6+5]'_=z5 at y5;have r0:=aD HO.out ((fi+pk)*6);have r1:=aD HO.out ((fi+pk)*6+1);have r2:=aD HO.out ((fi+pk)*6+2);have r3:=aD HO.out ((fi+pk)*6+3);have r4:=aD HO.out ((fi+pk)*6+4);have r5:=aD HO.out ((fi+pk)*6+5);clear hcl;have hrem:pick.tmod ways=(pk:Int):=by rw [Int.tmod_eq_emod_of_nonneg hp0];exact hpk
      have hwz:ways≠0:=by omega
      clear hpk;have i1:g≠w.heap.size:=by omega
      have i2:w.heap.size≠g:=by omega
      have i3:g≠w.heap.size+1:=by omega
      have i4:w.heap.size+1≠g:=by omega
      have i5:g≠v2.heap.size:=by omega
      have i6:v2.heap.size≠g:=by omega
      go_wp2_with fail;have t1:IntKind.i64.wrap ((fi:Int)+(pk:Int))=(fi:Int)+pk:=by
       rw [IntKind.wrap_i64];omega
      have t2:(0:Int)<=(fi:Int)+pk:=by omega
      have t3:(fi:Int)+pk<n:=by omega
      go_region_held (fun w'=>w'.cell? ⟨v2.heap.size,2,none⟩=some (.slice (some ⟨g,0,none⟩) n cp)∧w'.cell? ⟨w.heap.size,1,none⟩=some (.int .i64 ways)∧w'.cell? ⟨w.heap.size+1,0,none⟩=some (.bool vv)∧w'.cell? ⟨w.heap.size+1,1,none⟩=some (.int .i64 lv)∧w'.cell? ⟨w.heap.size+1,2,none⟩=some (.int .u64 tg)∧w'.cell? ⟨w.heap.size+1,3,none⟩=some (.int .u64 asd)∧w'.cell? ⟨w.heap.size+1,4,none⟩=some (.bool gl)∧w'.cell? ⟨w.heap.size+1,5,none⟩=some (.int .u64 pt)) (go_keep) (fail);go_wp2_with fail;refine bodyPost_ret (v:=.agg #[.int .i64 sets,.int .i64 ways,.slice (some ⟨g,0,none⟩) n cp]) (by simp [results,Tryz.results156,go_sem,d0,d1,d2]) rfl ⟨⟨_,rfl,?_⟩,(fu (A6.grown (ak (ak (ak (ak (ak (ak (au wr (some g)) _ _) _ _) _ _) _ _) _ _) _ _) (by have:=A6.size;omega) (fun q hq=>by cases hq;omega)) (by omega) _ _ _).drew⟩;rw [HXf.out];refine ⟨g,cp,by simp only [List.length_set];rw [HN.out],?_⟩;simp only [List.length_set];rw [HN.out,gZ es (fi+pk) _ (by rw [HN.out];omega)];exact aK (ka (bX (ax (ax (ax (ax (ax (ax HO.out _ _) _ _) _ _) _ _) _ _) _ _) (gb3 _ (w.heap.size+1+1) _ _ _) (by omega))) (by omega)
  ·have hXt:X=⟨sets,ways,es⟩:=by
    rw [<-HX.out];unfold cV;rw [if_neg (by rw [HFB.out];exact hok)]
   have fin:∀v5,v5=v4->TlbOwn w.heap.size (((v5.setCell ⟨w.heap.size+1+1,0,none⟩ (.int .i64 sets)).setCell ⟨w.heap.size+1+1,1,none⟩ (.int .i64 ways)).setCell ⟨w.heap.size+1+1,2,none⟩ (.slice (some ⟨g,0,none⟩) n cp)) (.agg #[.int .i64 sets,.int .i64 ways,.slice (some ⟨g,0,none⟩) n cp]) X:=by
    rintro _ rfl;rw [hXt];refine ⟨g,cp,by rw [HN.out],?_⟩;simp only;rw [HN.out];exact aK (bX O4.out (gb3 _ (w.heap.size+1+1) _ _ _) (by omega)) (by omega)
   have HFin:Hid _:=fin;clear fin hXt;cases FB
   ·go_wp2_with fail;exact bodyPost_ret (v:=.agg #[.int .i64 sets,.int .i64 ways,.slice (some ⟨g,0,none⟩) n cp]) (by simp [results,Tryz.results156,go_sem,d0,d1,d2]) rfl ⟨⟨_,rfl,(by first | exact HFin.out _ rfl | exact TlbOwn.drew (HFin.out _ rfl))⟩,(by first | exact fu A4 (by omega) _ _ _ | exact (fu A4 (by omega) _ _ _).drew)⟩
   ·by_cases hpn:pick<0
    ·go_wp2_with fail;exact bodyPost_ret (v:=.agg #[.int .i64 sets,.int .i64 ways,.slice (some ⟨g,0,none⟩) n cp]) (by simp [results,Tryz.results156,go_sem,d0,d1,d2]) rfl ⟨⟨_,rfl,(by first | exact HFin.out _ rfl | exact TlbOwn.drew (HFin.out _ rfl))⟩,(by first | exact fu A4 (by omega) _ _ _ | exact (fu A4 (by omega) _ _ _).drew)⟩
    ·have hpg:255<pick:=by
      have:=hok;simp at this;omega
     go_wp2_with fail;exact bodyPost_ret (v:=.agg #[.int .i64 sets,.int .i64 ways,.slice (some ⟨g,0,none⟩) n cp]) (by simp [results,Tryz.results156,go_sem,d0,d1,d2]) rfl ⟨⟨_,rfl,(by first | exact HFin.out _ rfl | exact TlbOwn.drew (HFin.out _ rfl))⟩,(by first | exact fu A4 (by omega) _ _ _ | exact (fu A4 (by omega) _ _ _).drew)⟩
end
end Go.Proofs.YtgnnmgfgfihljaaGreat
