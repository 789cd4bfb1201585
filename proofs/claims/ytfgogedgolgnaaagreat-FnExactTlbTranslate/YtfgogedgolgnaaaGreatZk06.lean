import Derived.Test.YtfgogedgolgnaaaGreatZk05
import Derived.Deep.DeepCutAuto
namespace Go.Proofs.YtfgogedgolgnaaaGreat
open Go.RowKit
set_option linter.unusedVariables false
set_option maxHeartbeats 6400000
set_option maxRecDepth 20000
section
attribute [local go_sem ↓] Go.wp_at_zero Go.wp_at_succ
def mkE (k0:Int) (t:Nat):Value:=match t%6 with
 | 0=>.bool ((k0+t)%3 == 0)
 | 1=>.int .i64 (k0+t)
 | 4=>.bool ((k0+t)%3 == 0)
 | _=>.int .u64 (k0+t)
def df (k0:Int) (m:Nat):List Value:=(List.range m).map (mkE k0)
theorem eH (k0:Int) (m t:Nat) (h:t<m):(df k0 m)[t]?=some (mkE k0 t):=by
 simp [df,h]
theorem mG (k0:Int) (j:Nat):mkE k0 (j*6)=(.bool ((k0+j*6)%3 == 0)):=by
 unfold mkE;rw [show (j*6)%6=0 by omega];simp only
 push_cast
 congr 1 <;> (first | (congr 2;omega) | omega)
theorem mH (k0:Int) (j:Nat):mkE k0 (j*6+1)=(.int .i64 (k0+j*6+1)):=by
 unfold mkE;rw [show (j*6+1)%6=1 by omega];simp only
 push_cast
 congr 1 <;> (first | (congr 2;omega) | omega)
theorem mI (k0:Int) (j:Nat):mkE k0 (j*6+2)=(.int .u64 (k0+j*6+1+1)):=by
 unfold mkE;rw [show (j*6+2)%6=2 by omega];simp only
 push_cast
 congr 1 <;> (first | (congr 2;omega) | omega)
theorem mJ (k0:Int) (j:Nat):mkE k0 (j*6+3)=(.int .u64 (k0+j*6+1+1+1)):=by
 unfold mkE;rw [show (j*6+3)%6=3 by omega];simp only
 push_cast
 congr 1 <;> (first | (congr 2;omega) | omega)
theorem mK (k0:Int) (j:Nat):mkE k0 (j*6+4)=(.bool ((k0+j*6+1+1+1+1)%3 == 0)):=by
 unfold mkE;rw [show (j*6+4)%6=4 by omega];simp only
 push_cast
 congr 1 <;> (first | (congr 2;omega) | omega)
theorem mL (k0:Int) (j:Nat):mkE k0 (j*6+5)=(.int .u64 (k0+j*6+1+1+1+1+1)):=by
 unfold mkE;rw [show (j*6+5)%6=5 by omega];simp only
 push_cast
 congr 1 <;> (first | (congr 2;omega) | omega)
theorem lj (k0:Int) (j m:Nat) (ys:List Value) (hy:ys.length=m) (hi:j*6+5<m) (h:∀t,t<j*6->ys[t]?=some (mkE k0 t)):
 ∀t,t<(j+1)*6->((((((ys.set (j*6) (.bool ((k0+j*6)%3 == 0))).set (j*6+1) (.int .i64 (k0+j*6+1))).set (j*6+2) (.int .u64 (k0+j*6+1+1))).set (j*6+3) (.int .u64 (k0+j*6+1+1+1))).set (j*6+4) (.bool ((k0+j*6+1+1+1+1)%3 == 0))).set (j*6+5) (.int .u64 (k0+j*6+1+1+1+1+1)))[t]?=some (mkE k0 t):=by
 intro t ht;by_cases h0:t<j*6
 ·rw [List.getElem?_set_ne (by omega),List.getElem?_set_ne (by omega),List.getElem?_set_ne (by omega),List.getElem?_set_ne (by omega),List.getElem?_set_ne (by omega),List.getElem?_set_ne (by omega)];exact h t h0
 ·rcases (show t=j*6∨t=j*6+1∨t=j*6+2∨t=j*6+3∨t=j*6+4∨t=j*6+5 by omega) with rfl | rfl | rfl | rfl | rfl | rfl
  ·rw [List.getElem?_set_ne (by omega),List.getElem?_set_ne (by omega),List.getElem?_set_ne (by omega),List.getElem?_set_ne (by omega),List.getElem?_set_ne (by omega),List.getElem?_set_self (by omega),mG]
  ·rw [List.getElem?_set_ne (by omega),List.getElem?_set_ne (by omega),List.getElem?_set_ne (by omega),List.getElem?_set_ne (by omega),List.getElem?_set_self (by simp;omega),mH]
  ·rw [List.getElem?_set_ne (by omega),List.getElem?_set_ne (by omega),List.getElem?_set_ne (by omega),List.getElem?_set_self (by simp;omega),mI]
  ·rw [List.getElem?_set_ne (by omega),List.getElem?_set_ne (by omega),List.getElem?_set_self (by simp;omega),mJ]
  ·rw [List.getElem?_set_ne (by omega),List.getElem?_set_self (by simp;omega),mK]
  ·rw [List.getElem?_set_self (by simp;omega),mL]
theorem gj (base g n cap:Nat) (cs:List Value) (k0:Int) (w:World) (h:w.ownsRow base 74 6 (.slice (some ⟨g,0,none⟩) n cap) n cs) (hl:n<=1048576) (hk0:0<=k0) (hk1:k0<=1073741824):
 Calls Tryz.prog 74 #[.slice (some ⟨g,0,none⟩) n cap,.int .i64 k0] w fun e w'=>
  e=.returned (.int .i64 (k0+n*6))∧w'.ownsRow base 74 6 (.slice (some ⟨g,0,none⟩) n cap) n (df k0 (n*6))∧w.grownBy w' (some g):=by
 have HI:Hid _:=h;clear h;go_enter Tryz.func74,Tryz.ntmps74;go_wp2_with fail;go_loopw [1,5] (fun kk i wr=>∃(j:Nat) (ys:List Value),j<=n∧kk=.int .i64 (k0+j*6)∧i=.int .i64 j∧(∀t,t<j*6->ys[t]?=some (mkE k0 t))∧wr.ownsRow base 74 6 (.slice (some ⟨g,0,none⟩) n cap) n ys∧w.grownBy wr (some g)) (fun _ i _=>n-(intOf i).toNat)
 case atStart=>exact ⟨0,cs,Nat.zero_le _,by simp,rfl,fun t ht=>absurd ht (by omega),HI.out,aO _ _⟩
 case round=>
  clear HI;obtain ⟨j,ys,hj,rfl,rfl,hyz,hb,hn⟩:=hrel;have hy:=hb.1;by_cases hlt:j<n
  ·have y0:=an hb (j*6) _ (List.getElem?_eq_getElem (by omega));have y1:=an hb (j*6+1) _ (List.getElem?_eq_getElem (by omega));have y2:=an hb (j*6+2) _ (List.getElem?_eq_getElem (by omega));have y3:=an hb (j*6+3) _ (List.getElem?_eq_getElem (by omega));have y4:=an hb (j*6+4) _ (List.getElem?_eq_getElem (by omega));have y5:=an hb (j*6+5) _ (List.getElem?_eq_getElem (by omega));generalize ys[j*6]'_=z0 at y0;generalize ys[j*6+1]'_=z1 at y1;generalize ys[j*6+2]'_=z2 at y2;generalize ys[j*6+3]'_=z3 at y3;generalize ys[j*6+4]'_=z4 at y4;generalize ys[j*6+5]'_=z5 at y5;have r0:=ar hb (j*6);have r1:=ar hb (j*6+1);have r2:=ar hb (j*6+2);have r3:=ar hb (j*6+3);have r4:=ar hb (j*6+4);have r5:=ar hb (j*6+5);have HZ:Hid (∀t,t<j*6->ys[t]?=some (mkE k0 t)):=hyz;have HB:Hid (wr.ownsRow base 74 6 (.slice (some ⟨g,0,none⟩) n cap) n ys):=hb;clear hyz hb;go_wp2_with fail;go_roundw
   case rel=>exact ⟨j+1,_,by omega,by go_num,by go_num,lj k0 j (n*6) ys hy (by omega) HZ.out,(ak (ak (ak (ak (ak (ak HB.out _ _) _ _) _ _) _ _) _ _) _ _),(aj (aj (aj (aj (aj (aj hn _ _) _ _) _ _) _ _) _ _) _ _)⟩
   case measure=>simp [intOf];omega
  ·have hyy:ys=df k0 (n*6):=by
    apply List.ext_getElem?;intro t;by_cases ht:t<n*6
    ·rw [eH k0 _ t ht];exact hyz t (by omega)
    ·rw [List.getElem?_eq_none (by omega),List.getElem?_eq_none (by simp [df];omega)]
   subst hyy;have hjl:j=n:=by omega
   subst hjl;have HB:Hid _:=hb;clear hyz hb hy;go_wp2_with fail;go_ret;exact ⟨rfl,HB.out,hn⟩
theorem gm (base g n cap:Nat) (k0:Int) (w:World) (h:w.ownsRow base 74 6 (.slice (some ⟨g,0,none⟩) n cap) n (df k0 (n*6))) (hl:n<=1048576) (hk0:0<=k0) (hk1:k0<=1073741824):
 Calls Tryz.prog 96 #[.slice (some ⟨g,0,none⟩) n cap,.int .i64 k0] w fun e w'=>
  e=.returned (.int .i64 (k0+n*6))∧Below w.heap.size w w':=by
 have hg:=(aE h).2.2;simp only at hg;go_enter Tryz.func96,Tryz.ntmps96;go_wp2_with fail;go_loopw [1,5] (fun kk i wr=>∃(j:Nat),j<=n∧kk=.int .i64 (k0+j*6)∧i=.int .i64 j∧Below w.heap.size w wr) (fun _ i _=>n-(intOf i).toNat)
 case atStart=>exact ⟨0,Nat.zero_le _,by simp,rfl,Below.refl _ _⟩
 case round=>
  obtain ⟨j,hj,rfl,rfl,hn⟩:=hrel;by_cases hlt:j<n
  ·have g0:=Below.cell2 hn (an h (j*6) _ (eH k0 _ (j*6) (by omega))) hg;rw [mG] at g0;have g1:=Below.cell2 hn (an h (j*6+1) _ (eH k0 _ (j*6+1) (by omega))) hg;rw [mH] at g1;have g2:=Below.cell2 hn (an h (j*6+2) _ (eH k0 _ (j*6+2) (by omega))) hg;rw [mI] at g2;have g3:=Below.cell2 hn (an h (j*6+3) _ (eH k0 _ (j*6+3) (by omega))) hg;rw [mJ] at g3;have g4:=Below.cell2 hn (an h (j*6+4) _ (eH k0 _ (j*6+4) (by omega))) hg;rw [mK] at g4;have g5:=Below.cell2 hn (an h (j*6+5) _ (eH k0 _ (j*6+5) (by omega))) hg;rw [mL] at g5;clear h;go_wp2_with fail;go_roundw
   case rel=>exact ⟨j+1,by omega,by go_num,by go_num,hn⟩
   case measure=>simp [intOf];omega
  ·have hjl:j=n:=by omega
   subst hjl;clear h;go_wp2_with fail;go_ret;exact ⟨rfl,hn⟩
theorem gn (a:Option Addr) (cap:Nat) (k0:Int) (w:World):
 Calls Tryz.prog 74 #[.slice a 0 cap,.int .i64 k0] w fun e w'=>e=.returned (.int .i64 k0)∧w'=w:=by
 go_enter Tryz.func74,Tryz.ntmps74;go_wp2_with fail
 go_loop [1,5] (fun kk i=>kk=.int .i64 k0∧i=.int .i64 0) (fun _ i=>0)
 case atStart=>exact ⟨rfl,rfl⟩
 case round=>
  obtain ⟨rfl,rfl⟩:=hrel;go_wp2_with fail;go_ret;exact ⟨rfl,rfl⟩
theorem go (a:Option Addr) (cap:Nat) (k0:Int) (w:World):
 Calls Tryz.prog 96 #[.slice a 0 cap,.int .i64 k0] w fun e w'=>e=.returned (.int .i64 k0)∧w'=w:=by
 go_enter Tryz.func96,Tryz.ntmps96;go_wp2_with fail
 go_loop [1,5] (fun kk i=>kk=.int .i64 k0∧i=.int .i64 0) (fun _ i=>0)
 case atStart=>exact ⟨rfl,rfl⟩
 case round=>
  obtain ⟨rfl,rfl⟩:=hrel;go_wp2_with fail;go_ret;exact ⟨rfl,rfl⟩
theorem jx (sets ways:Int) (a:Option Addr) (cap:Nat) (k0:Int) (w:World):
 Calls Tryz.prog 41 #[.agg #[.int .i64 sets,.int .i64 ways,.slice a 0 cap],.int .i64 k0] w fun e w'=>e=.returned (.int .i64 k0)∧Below w.heap.size w w':=by
 have b1:=(Below.refl w.heap.size w).alloc (Nat.le_refl _) (Obj.cells #[.int .i64 sets,.int .i64 ways,.slice a 0 cap] 34);go_enter Tryz.func41,Tryz.ntmps41;go_wp2_with (go_at_call 74;refine (gn a cap k0 _).mono ?_;rintro e w' ⟨rfl,rfl⟩);go_ret;exact ⟨rfl,b1⟩
theorem jy (sets ways:Int) (base g n cap:Nat) (cs:List Value) (k0:Int) (w:World) (h:w.ownsRow base 74 6 (.slice (some ⟨g,0,none⟩) n cap) n cs) (hl:n<=1048576) (hk0:0<=k0) (hk1:k0<=1073741824):
 Calls Tryz.prog 41 #[.agg #[.int .i64 sets,.int .i64 ways,.slice (some ⟨g,0,none⟩) n cap],.int .i64 k0] w fun e w'=>
  e=.returned (.int .i64 (k0+n*6))∧w'.ownsRow base 74 6 (.slice (some ⟨g,0,none⟩) n cap) n (df k0 (n*6))∧w.grownBy w' (some g):=by
 have m1:=World.grownBy_alloc w (Obj.cells #[.int .i64 sets,.int .i64 ways,.slice (some ⟨g,0,none⟩) n cap] 34) (some g);have h1:Hid ((w.alloc (Obj.cells #[.int .i64 sets,.int .i64 ways,.slice (some ⟨g,0,none⟩) n cap] 34)).ownsRow base 74 6 (.slice (some ⟨g,0,none⟩) n cap) n cs):=ae h ((Below.refl w.heap.size w).alloc (Nat.le_refl _) _);clear h;go_enter Tryz.func41,Tryz.ntmps41;go_wp2_with fail;refine (gj base g n cap cs k0 _ h1.out hl hk0 hk1).mono ?_;rintro e v2 ⟨rfl,c2,m2⟩;have C2:Hid _:=c2;have m12:=bR m1 m2;clear m1 m2 h1 c2;go_wp2_with fail;go_ret;exact ⟨rfl,C2.out,m12⟩
theorem jz (sets ways:Int) (a:Option Addr) (cap:Nat) (k0:Int) (w:World) (hk0:0<=k0):
 Calls Tryz.prog 75 #[.agg #[.int .i64 sets,.int .i64 ways,.slice a 0 cap],.int .i64 k0] w fun e w'=>e=.returned (.int .i64 k0)∧Below w.heap.size w w':=by
 have b1:=(Below.refl w.heap.size w).alloc (Nat.le_refl _) (Obj.cells #[.int .i64 sets,.int .i64 ways,.slice a 0 cap] 34);have hk:decide (k0<0)=false:=by simp;omega
 go_enter Tryz.func75,Tryz.ntmps75;go_wp2_with (go_at_call 96;refine (go a cap k0 _).mono ?_;rintro e w' ⟨rfl,rfl⟩);go_ret;exact ⟨rfl,b1⟩
theorem jA (sets ways:Int) (base g n cap:Nat) (k0:Int) (w:World) (h:w.ownsRow base 74 6 (.slice (some ⟨g,0,none⟩) n cap) n (df k0 (n*6))) (hl:n<=1048576) (hk0:0<=k0) (hk1:k0<=1073741824):
 Calls Tryz.prog 75 #[.agg #[.int .i64 sets,.int .i64 ways,.slice (some ⟨g,0,none⟩) n cap],.int .i64 k0] w fun e w'=>e=.returned (.int .i64 (k0+n*6))∧Below w.heap.size w w':=by
 have b1:=(Below.refl w.heap.size w).alloc (Nat.le_refl _) (Obj.cells #[.int .i64 sets,.int .i64 ways,.slice (some ⟨g,0,none⟩) n cap] 34);have h1:Hid ((w.alloc (Obj.cells #[.int .i64 sets,.int .i64 ways,.slice (some ⟨g,0,none⟩) n cap] 34)).ownsRow base 74 6 (.slice (some ⟨g,0,none⟩) n cap) n (df k0 (n*6))):=ae h b1;have hk:decide (k0+n*6<0)=false:=by simp;omega
 clear h;go_enter Tryz.func75,Tryz.ntmps75;go_wp2_with fail;refine (gm base g n cap k0 _ h1.out hl hk0 hk1).mono ?_;rintro e v2 ⟨rfl,n2⟩;have b2:=Below.step b1 n2 (Nat.le_refl _);clear b1 n2 h1;go_wp2_with fail;go_ret;exact ⟨rfl,b2⟩
end
section
attribute [local go_sem ↓] Go.wp_at_zero Go.wp_at_succ
theorem fo {v:World} {p:Nat} {T:TypeId} {a b c d e f:Value} (h:v.heap[p]?=some (.cells #[a,b,c,d,e,f] T (0,0))):
 v.cell? ⟨p,0,none⟩=some a∧v.cell? ⟨p,1,none⟩=some b∧v.cell? ⟨p,2,none⟩=some c∧v.cell? ⟨p,3,none⟩=some d∧v.cell? ⟨p,4,none⟩=some e∧v.cell? ⟨p,5,none⟩=some f:=by
 simp [World.cell?,h]
theorem TlbOwn.drew {base:Nat} {w:World} {v:Value} {t:TlbM} (h:TlbOwn base w v t):TlbOwn base w.drew v t:=h
theorem dF (es:List EntM) (first:Nat):∀(left w k:Nat),k<left->(∀j,j<k->(es[first+(w+j)]?.getD aZ).valid=true)->(es[first+(w+k)]?.getD aZ).valid=false->dY es first w left=some (w+k)
 | 0,w,k,h,_,_=>by omega
 | left+1,w,0,h,h1,h2=>by
  rw [dY,if_pos (by simpa using h2)];rfl
 | left+1,w,k+1,h,h1,h2=>by
  rw [dY,if_neg (by have:=h1 0 (by omega);simp at this;rw [this];simp)];rw [dF es first left (w+1) k (by omega) (fun j hj=>by rw [show w+1+j=w+(j+1) by omega];exact h1 (j+1) (by omega)) (by rw [show w+1+k=w+(k+1) by omega];exact h2)];congr 1;omega
theorem dG (es:List EntM) (first:Nat):∀(left w:Nat),(∀j,j<left->(es[first+(w+j)]?.getD aZ).valid=true)->dY es first w left=none
 | 0,w,h=>rfl
 | left+1,w,h=>by
  rw [dY,if_neg (by have:=h 0 (by omega);simp at this;rw [this];simp)];exact dG es first left (w+1) (fun j hj=>by rw [show w+1+j=w+(j+1) by omega];exact h (j+1) (by omega))
theorem cE (v:Value) (t:TlbM) (x:EntM) (pick:Int) (w:World) (h:TlbAt w v t) (hx:bf x):
 Calls Tryz.prog 30 #[v,cV x,.int .i64 pick] w fun e w'=>(∃y,e=.returned y∧TlbOwn w.heap.size w' y (be t x pick))∧Below w.heap.size w w':=by
 have HT:Hid (TlbAt w v t):=h;have HOK:Hid (cy t):=TlbAt.ok h;obtain ⟨a,cap,rfl,hr,_,_,_,hl,hlc,hcm,hnil,hsp⟩:=h;obtain ⟨sets,ways,es⟩:=t;obtain ⟨vv,lv,tg,asd,gl,pt⟩:=x;obtain ⟨n,hn⟩:∃n,es.length=n:=⟨_,rfl⟩;simp only at hr hl hlc hnil HT |-;have HN:Hid (es.length=n):=hn;rw [hn] at hr hl hlc hnil HT |-;obtain ⟨X,hX⟩:∃X,be ⟨sets,ways,es⟩ ⟨vv,lv,tg,asd,gl,pt⟩ pick=X:=⟨_,rfl⟩;have HX:Hid (be ⟨sets,ways,es⟩ ⟨vv,lv,tg,asd,gl,pt⟩ pick=X):=hX;rw [hX];have HR0:Hid (RowC w a n 6 (al es)):=hr;obtain ⟨q1,hq1⟩:∃q,aA ⟨sets,ways,es⟩ true=q:=⟨_,rfl⟩;obtain ⟨q2,hq2⟩:∃q,aA ⟨sets,ways,es⟩ false=q:=⟨_,rfl⟩;obtain ⟨q3,hq3⟩:∃q,ay ⟨vv,lv,tg,asd,gl,pt⟩ true=q:=⟨_,rfl⟩;obtain ⟨q4,hq4⟩:∃q,ay ⟨vv,lv,tg,asd,gl,pt⟩ false=q:=⟨_,rfl⟩;have HFi:Hid (dK ⟨sets,ways,es⟩ ⟨vv,lv,tg,asd,gl,pt⟩=((q1 && q3) || (q2 && q4))):=by show _=_;rw [dK,hq1,hq2,hq3,hq4]
 have HQ:Hid (aA ⟨sets,ways,es⟩ true=q1∧aA ⟨sets,ways,es⟩ false=q2):=⟨hq1,hq2⟩;have HG:Hid (∀p w,Calls Tryz.prog 56 #[.agg #[.bool vv,.int .i64 lv,.int .u64 tg,.int .u64 asd,.bool gl,.int .u64 pt],.bool p] w fun e w'=>e=.returned (.bool (cond p q3 q4))∧Below w.heap.size w w'):=fun p w=>by
  have:=ce ⟨vv,lv,tg,asd,gl,pt⟩ p w hx;cases p
  ·rw [hq4] at this;exact this
  ·rw [hq3] at this;exact this
 have HV:Hid (∀p w,TlbAt w (.agg #[.int .i64 sets,.int .i64 ways,.slice a n cap]) ⟨sets,ways,es⟩->Calls Tryz.prog 44 #[.agg #[.int .i64 sets,.int .i64 ways,.slice a n cap],.bool p] w fun e w'=>e=.returned (.bool (cond p q1 q2))∧Below w.heap.size w w'):=fun p w h=>by
  have:=cf _ _ p w h;cases p
  ·rw [hq2] at this;exact this
  ·rw [hq1] at this;exact this
 unfold cV;simp only;have n1:=(((Below.refl w.heap.size w).alloc (Nat.le_refl _) (Obj.cells #[.int .i64 sets,.int .i64 ways,.slice a n cap] 34)).alloc (by simp) (Obj.cells #[.bool vv,.int .i64 lv,.int .u64 tg,.int .u64 asd,.bool gl,.int .u64 pt] 74)).alloc (by simp;omega) (Obj.cells #[.int .i64 0,.int .i64 0,.slice none 0 0] 34);have HT1:Hid (TlbAt (((w.alloc (Obj.cells #[.int .i64 sets,.int .i64 ways,.slice a n cap] 34)).alloc (Obj.cells #[.bool vv,.int .i64 lv,.int .u64 tg,.int .u64 asd,.bool gl,.int .u64 pt] 74)).alloc (Obj.cells #[.int .i64 0,.int .i64 0,.slice none 0 0] 34)) (.agg #[.int .i64 sets,.int .i64 ways,.slice a n cap]) ⟨sets,ways,es⟩):=HT.out.keep n1;have H1:Hid ((((w.alloc (Obj.cells #[.int .i64 sets,.int .i64 ways,.slice a n cap] 34)).alloc (Obj.cells #[.bool vv,.int .i64 lv,.int .u64 tg,.int .u64 asd,.bool gl,.int .u64 pt] 74)).alloc (Obj.cells #[.int .i64 0,.int .i64 0,.slice none 0 0] 34)).heap[w.heap.size]?=some (.cells #[.int .i64 sets,.int .i64 ways,.slice a n cap] 34 (0,0))):=by
  show _=_;rw [heap_alloc_old _ _ (by simp;omega),heap_alloc_old _ _ (by simp)];exact heap_alloc_new w _
 have H2:Hid ((((w.alloc (Obj.cells #[.int .i64 sets,.int .i64 ways,.slice a n cap] 34)).alloc (Obj.cells #[.bool vv,.int .i64 lv,.int .u64 tg,.int .u64 asd,.bool gl,.int .u64 pt] 74)).alloc (Obj.cells #[.int .i64 0,.int .i64 0,.slice none 0 0] 34)).heap[w.heap.size+1]?=some (.cells #[.bool vv,.int .i64 lv,.int .u64 tg,.int .u64 asd,.bool gl,.int .u64 pt] 74 (0,0))):=by
  show _=_;rw [heap_alloc_old _ _ (by simp)];have:=heap_alloc_new (w.alloc (Obj.cells #[.int .i64 sets,.int .i64 ways,.slice a n cap] 34)) (Obj.cells #[.bool vv,.int .i64 lv,.int .u64 tg,.int .u64 asd,.bool gl,.int .u64 pt] 74);simp only [World.size_alloc] at this;exact this
 have H3:Hid ((((w.alloc (Obj.cells #[.int .i64 sets,.int .i64 ways,.slice a n cap] 34)).alloc (Obj.cells #[.bool vv,.int .i64 lv,.int .u64 tg,.int .u64 asd,.bool gl,.int .u64 pt] 74)).alloc (Obj.cells #[.int .i64 0,.int .i64 0,.slice none 0 0] 34)).heap[w.heap.size+1+1]?=some (.cells #[.int .i64 0,.int .i64 0,.slice none 0 0] 34 (0,0))):=by
  have:=heap_alloc_new ((w.alloc (Obj.cells #[.int .i64 sets,.int .i64 ways,.slice a n cap] 34)).alloc (Obj.cells #[.bool vv,.int .i64 lv,.int .u64 tg,.int .u64 asd,.bool gl,.int .u64 pt] 74)) (Obj.cells #[.int .i64 0,.int .i64 0,.slice none 0 0] 34);simp only [World.size_alloc] at this;exact this
 have l1:w.heap.size+1+1<(((w.alloc (Obj.cells #[.int .i64 sets,.int .i64 ways,.slice a n cap] 34)).alloc (Obj.cells #[.bool vv,.int .i64 lv,.int .u64 tg,.int .u64 asd,.bool gl,.int .u64 pt] 74)).alloc (Obj.cells #[.int .i64 0,.int .i64 0,.slice none 0 0] 34)).heap.size:=by simp
 clear hr hnil hsp HT hn hX hq1 hq2 hq3 hq4;go_enter Tryz.func30,Tryz.ntmps30;go_wp2_with fail;generalize (((w.alloc (Obj.cells #[.int .i64 sets,.int .i64 ways,.slice a n cap] 34)).alloc (Obj.cells #[.bool vv,.int .i64 lv,.int .u64 tg,.int .u64 asd,.bool gl,.int .u64 pt] 74)).alloc (Obj.cells #[.int .i64 0,.int .i64 0,.slice none 0 0] 34))=v1 at n1 HT1 H1 H2 H3 l1 |-;refine (dA _ ⟨sets,ways,es⟩ v1 HT1.out).mono ?_;rintro e v2 ⟨⟨x,rfl,g,cp,rfl,o2⟩,n2⟩;simp only at o2 |-;rw [HN.out] at o2 |-;have O2:Hid (v2.ownsRow v1.heap.size 74 6 (.slice (some ⟨g,0,none⟩) n cp) n (al es)):=o2;have hg:=aE o2;have A2:=Below.step n1 n2 (Nat.le_refl _);have HT2:Hid (TlbAt v2 (.agg #[.int .i64 sets,.int .i64 ways,.slice a n cap]) ⟨sets,ways,es⟩):=HT1.out.keep n2;have K1:=aa H1 n2;have K2:=aa H2 n2;have K3:=aa H3 n2;have l2:v1.heap.size<=v2.heap.size:=n2.size;obtain ⟨_,hg1,hg2⟩:=hg;simp only at hg1 hg2;clear o2 n1 n2 HT1 H1 H2 H3;go_upto_region 2 with fail;have n3:=(Below.refl v2.heap.size v2).alloc (Nat.le_refl _) (Obj.cells #[.int .i64 sets,.int .i64 ways,.slice (some ⟨g,0,none⟩) n cp] 34);have H4:Hid ((v2.alloc (Obj.cells #[.int .i64 sets,.int .i64 ways,.slice (some ⟨g,0,none⟩) n cp] 34)).heap[v2.heap.size]?=some (.cells #[.int .i64 sets,.int .i64 ways,.slice (some ⟨g,0,none⟩) n cp] 34 (0,0))):=heap_alloc_new v2 _;have l3:v2.heap.size<(v2.alloc (Obj.cells #[.int .i64 sets,.int .i64 ways,.slice (some ⟨g,0,none⟩) n cp] 34)).heap.size:=by simp
 generalize v2.alloc (Obj.cells #[.int .i64 sets,.int .i64 ways,.slice (some ⟨g,0,none⟩) n cp] 34)=v3 at n3 H4 l3 |-;have A3:=Below.step A2 n3 (Nat.le_refl _);have HT3:Hid (∀v,Below v3.heap.size v3 v->TlbAt v (.agg #[.int .i64 sets,.int .i64 ways,.slice a n cap]) ⟨sets,ways,es⟩):=fun v hv=>(HT2.out.keep n3).keep hv;have O3:Hid (v3.ownsRow v1.heap.size 74 6 (.slice (some ⟨g,0,none⟩) n cp) n (al es)):=ae O2.out n3;have P1:=aa K1 n3;have P2:=aa K2 n3;have P3:=aa K3 n3;clear n3 HT2 O2 K1 K2 K3 A2;have HC:Hid (∀v,Below v3.heap.size v3 v->(v.cell? ⟨w.heap.size,0,none⟩=some (.int .i64 sets)∧v.cell? ⟨w.heap.size,1,none⟩=some (.int .i64 ways)∧v.cell? ⟨w.heap.size,2,none⟩=some (.slice a n cap))∧
  v.cell? ⟨w.heap.size+1,0,none⟩=some (.bool vv)∧v.cell? ⟨w.heap.size+1,1,none⟩=some (.int .i64 lv)∧v.cell? ⟨w.heap.size+1,2,none⟩=some (.int .u64 tg)∧v.cell? ⟨w.heap.size+1,3,none⟩=some (.int .u64 asd)∧v.cell? ⟨w.heap.size+1,4,none⟩=some (.bool gl)∧v.cell? ⟨w.heap.size+1,5,none⟩=some (.int .u64 pt)):=
  fun v hv=>⟨(ai (aC P1.out hv (by omega))).1,fo (aC P2.out hv (by omega))⟩
 have bl:Below v3.heap.size v3 v3:=Below.refl _ _;obtain ⟨FB,hFB⟩:∃FB,((q1 && q3) || (q2 && q4))=FB:=⟨_,rfl⟩;go_cut [8] (fun s8 wx=>s8=.bool FB∧Below v3.heap.size v3 wx)
 case first=>
  obtain ⟨⟨c0,c1,c2⟩,f0,f1,f2,f3,f4,f5⟩:=HC.out v3 bl;cases q1
  ·cases q2 <;> cases q4;all_goals
    go_wp2_with (first
    | (go_at_call 44;refine (HV.out _ _ (HT3.out _ bl)).mono ?_;rintro e vz ⟨rfl,nz⟩;dsimp only [cond];replace bl:=Below.step bl nz (Nat.le_refl _);clear c0 c1 c2 f0 f1 f2 f3 f4 f5;have cc:=HC.out _ bl;obtain ⟨⟨c0,c1,c2⟩,f0,f1,f2,f3,f4,f5⟩:=cc)
    | (go_at_call 56;refine (HG.out _ _).mono ?_;rintro e vz ⟨rfl,nz⟩;dsimp only [cond];replace bl:=Below.step bl nz (Nat.le_refl _);clear c0 c1 c2 f0 f1 f2 f3 f4 f5;have cc:=HC.out _ bl;obtain ⟨⟨c0,c1,c2⟩,f0,f1,f2,f3,f4,f5⟩:=cc))
    go_meet;exact ⟨by rw [<-hFB];rfl,bl⟩
  ·cases q3
   ·cases q2 <;> cases q4;all_goals
     go_wp2_with (first
     | (go_at_call 44;refine (HV.out _ _ (HT3.out _ bl)).mono ?_;rintro e vz ⟨rfl,nz⟩;dsimp only [cond];replace bl:=Below.step bl nz (Nat.le_refl _);clear c0 c1 c2 f0 f1 f2 f3 f4 f5;have cc:=HC.out _ bl;obtain ⟨⟨c0,c1,c2⟩,f0,f1,f2,f3,f4,f5⟩:=cc)
     | (go_at_call 56;refine (HG.out _ _).mono ?_;rintro e vz ⟨rfl,nz⟩;dsimp only [cond];replace bl:=Below.step bl nz (Nat.le_refl _);clear c0 c1 c2 f0 f1 f2 f3 f4 f5;have cc:=HC.out _ bl;obtain ⟨⟨c0,c1,c2⟩,f0,f1,f2,f3,f4,f5⟩:=cc))
     go_meet;exact ⟨by rw [<-hFB];rfl,bl⟩
   ·go_wp2_with (first
    | (go_at_call 44;refine (HV.out _ _ (HT3.out _ bl)).mono ?_;rintro e vz ⟨rfl,nz⟩;dsimp only [cond];replace bl:=Below.step bl nz (Nat.le_refl _);clear c0 c1 c2 f0 f1 f2 f3 f4 f5;have cc:=HC.out _ bl;obtain ⟨⟨c0,c1,c2⟩,f0,f1,f2,f3,f4,f5⟩:=cc)
    | (go_at_call 56;refine (HG.out _ _).mono ?_;rintro e vz ⟨rfl,nz⟩;dsimp only [cond];replace bl:=Below.step bl nz (Nat.le_refl _);clear c0 c1 c2 f0 f1 f2 f3 f4 f5;have cc:=HC.out _ bl;obtain ⟨⟨c0,c1,c2⟩,f0,f1,f2,f3,f4,f5⟩:=cc))
    go_meet;exact ⟨by rw [<-hFB];rfl,bl⟩
 case rest=>
  obtain ⟨rfl,m⟩:=hcut;generalize wc=v4 at m |-;have A4:=Below.step A3 m (Nat.le_refl _);have O4:Hid (v4.ownsRow v1.heap.size 74 6 (.slice (some ⟨g,0,none⟩) n cp) n (al es)):=ae O3.out m;have R1:=aa P1 m;have R2:=aa P2 m;have R3:=aa P3 m;have R4:=aa H4 m;have l4:v3.heap.size<=v4.heap.size:=m.size;have HFB:Hid (dK ⟨sets,ways,es⟩ ⟨vv,lv,tg,asd,gl,pt⟩=FB):=HFi.out.trans hFB;clear HFi hFB HC HT3 HG HV P1 P2 P3 H4 O3 A3 m bl;obtain ⟨⟨p0,p1,p2⟩,_,_,_⟩:=ai R4.out;obtain ⟨⟨d0,d1,d2⟩,e0,e1,e2⟩:=ai R3.out;by_cases hok:FB=true∧0<=pick∧pick<=255
  ·obtain ⟨rfl,hp0,hp1⟩:=hok;obtain ⟨pp,hvp,hgp⟩:∃pp,aA ⟨sets,ways,es⟩ pp=true∧ay ⟨vv,lv,tg,asd,gl,pt⟩ pp=true:=by
    have:=HFB.out;simp only [dK,Bool.or_eq_true,Bool.and_eq_true] at this;rcases this with ⟨h1,h2⟩ | ⟨h1,h2⟩
    ·exact ⟨true,h1,h2⟩
    ·exact ⟨false,h1,h2⟩
   obtain ⟨hs,hw,hw',hnw⟩:=cP hvp;simp only at hs hw hw' hnw;rw [HN.out] at hnw;have htg:tg<512:=dV hgp;have htg0:0<=tg:=hx.2.1.1;have HXe:Hid (X=⟨sets,ways,es.set (bD ⟨sets,ways,es⟩ ⟨vv,lv,tg,asd,gl,pt⟩+cG ⟨sets,ways,es⟩ ⟨vv,lv,tg,asd,gl,pt⟩ pick) ⟨vv,lv,tg,asd,gl,pt⟩⟩):=by
    show _=_;rw [<-HX.out];unfold be;rw [if_pos ⟨HFB.out,hp0,hp1⟩]
   obtain ⟨⟨c0,c1,c2⟩,_,_,_⟩:=ai R1.out;obtain ⟨f0,f1,f2,f3,f4,f5⟩:=fo R2.out;have hf1:=gh (t:=⟨sets,ways,es⟩) (e:=⟨vv,lv,tg,asd,gl,pt⟩) htg0 hs hw;simp only at hf1;have HIx:=fun pk=>mp (t:=⟨sets,ways,es⟩) (e:=⟨vv,lv,tg,asd,gl,pt⟩) (pick:=pk) hvp htg0;obtain ⟨fi,hfi⟩:∃fi,bD ⟨sets,ways,es⟩ ⟨vv,lv,tg,asd,gl,pt⟩=fi:=⟨_,rfl⟩;have HFi:Hid (bD ⟨sets,ways,es⟩ ⟨vv,lv,tg,asd,gl,pt⟩=fi):=hfi;rw [hfi] at hf1;have hfb:(fi:Int)+ways<=n:=by
    have h3:tg%sets<sets:=Int.emod_lt_of_pos _ (by omega);have h5:(tg%sets+1)*ways<=sets*ways:=Int.mul_le_mul_of_nonneg_right (by omega) (by omega);rw [Int.add_mul] at h5;omega
   have HF1:Hid ((fi:Int)=tg%sets*ways):=hf1;have HWr:Hid (wrap64 (tg%sets*ways)=(fi:Int)):=by
    show _=_;rw [<-hf1];unfold wrap64;omega
   clear hfi HIx hf1;go_upto_region 5 with fail;go_cut [9] (fun s9 wx=>s9=.int .i64 fi∧∃q,wx=v4.drewN q)
   case first=>
    rcases hs with rfl | rfl | rfl | rfl;all_goals
     go_quiet (fail);go_wp2_with fail;go_meet;exact ⟨by first | rw [HWr.out] | (rw [HF1.out] <;> simp),nq,rfl⟩
   case rest=>
    obtain ⟨rfl,qd,rfl⟩:=hcut;have A5:Below w.heap.size w (v4.drewN qd):=below_drewN A4 qd;have O5:Hid ((v4.drewN qd).ownsRow v1.heap.size 74 6 (.slice (some ⟨g,0,none⟩) n cp) n (al es)):=O4;have S1:Hid ((v4.drewN qd).heap[w.heap.size]?=_):=R1;have S2:Hid ((v4.drewN qd).heap[w.heap.size+1]?=_):=R2;have S3:Hid ((v4.drewN qd).heap[w.heap.size+1+1]?=_):=R3;have S4:Hid ((v4.drewN qd).heap[v2.heap.size]?=_):=R4;have l5:v3.heap.size<=(v4.drewN qd).heap.size:=l4;generalize v4.drewN qd=v5 at A5 O5 S1 S2 S3 S4 l5 |-;clear O4 R1 R2 R3 R4 l4 A4 c0 c1 c2 f0 f1 f2 f3 f4 f5 p0 p1 p2 d0 d1 d2 e0 e1 e2;go_wp2_with fail;go_loopw [10] (fun i wr=>∃k:Nat,(k:Int)<=ways∧i=.int .i64 k∧(∀j,j<k->(es[fi+j]?.getD aZ).valid=true)∧Below v5.heap.size v5 wr) (fun i _=>ways.toNat-(intOf i).toNat)
    case atStart=>exact ⟨0,by omega,rfl,fun j hj=>absurd hj (by omega),Below.refl _ _⟩
    case round=>
     obtain ⟨k,hk,rfl,hall,hb⟩:=hrel;have HAll:Hid (∀j,j<k->(es[fi+j]?.getD aZ).valid=true):=hall;have HO:Hid (wr.ownsRow v1.heap.size 74 6 (.slice (some ⟨g,0,none⟩) n cp) n (al es)):=ae O5.out hb;have A6:=Below.step A5 hb (Nat.le_refl _);have lr:v3.heap.size<=wr.heap.size:=Nat.le_trans l5 hb.size;obtain ⟨⟨c0,c1,c2⟩,_,_,_⟩:=ai (aC S1.out hb (by omega));obtain ⟨f0,f1,f2,f3,f4,f5⟩:=fo (aC S2.out hb (by omega));obtain ⟨⟨d0,d1,d2⟩,e0,e1,e2⟩:=ai (aC S3.out hb (by omega));obtain ⟨⟨p0,p1,p2⟩,_,_,_⟩:=ai (aC S4.out hb (by omega));clear hall;by_cases hlt:(k:Int)<ways
     ·obtain ⟨x,hx'⟩:∃x,es[fi+k]?=some x:=⟨_,List.getElem?_eq_getElem (by rw [HN.out];omega)⟩;obtain ⟨b,off,rfl,hbb⟩:∃b off,a=some ⟨b,off,none⟩∧b<w.heap.size:=by
       rcases HR0.out.2 with h | ⟨b,off,h,h2,_⟩
       ·omega
       ·exact ⟨b,off,h,h2⟩
      have CE:∀j u,j<6->(cJ x)[j]?=some u->wr.cell? ⟨b,off+((fi+k)*6+j),none⟩=some u:=fun j u hj hu=>
       Below.cell2 A6 (aL HR0.out HN.out (fi+k) x hx' j u hj hu) hbb
      obtain ⟨xv,x1,x2,x3,x4,x5⟩:=x;have g0:wr.cell? ⟨b,off+(fi+k)*6,none⟩=some (.bool xv):=CE 0 _ (by omega) rfl;have g1:wr.cell? ⟨b,off+(fi+k)*6+1,none⟩=some (.int .i64 x1):=CE 1 _ (by omega) rfl;have g2:wr.cell? ⟨b,off+(fi+k)*6+2,none⟩=some (.int .u64 x2):=CE 2 _ (by omega) rfl;have g3:wr.cell? ⟨b,off+(fi+k)*6+3,none⟩=some (.int .u64 x3):=CE 3 _ (by omega) rfl;have g4:wr.cell? ⟨b,off+(fi+k)*6+4,none⟩=some (.bool x4):=CE 4 _ (by omega) rfl;have g5:wr.cell? ⟨b,off+(fi+k)*6+5,none⟩=some (.int .u64 x5):=CE 5 _ (by omega) rfl;have HXv:Hid ((es[fi+k]?.getD aZ).valid=xv):=by show _=_;rw [hx'];rfl
      clear CE hx';cases xv
      ·have HXf:Hid (X=⟨sets,ways,es.set (fi+k) ⟨vv,lv,tg,asd,gl,pt⟩⟩):=by
        show _=_;rw [HXe.out,HFi.out];have:cG ⟨sets,ways,es⟩ ⟨vv,lv,tg,asd,gl,pt⟩ pick=k:=by
         unfold cG;simp only;rw [HFi.out,dF es fi ways.toNat 0 k (by omega) (fun j hj=>by rw [Nat.zero_add];exact HAll.out j hj) (by rw [Nat.zero_add];exact HXv.out)];simp
        rw [this]
       have hcl:(al es).length=n*6:=by rw [bQ,HN.out]
       have y0:=an HO.out ((fi+k)*6) _ (List.getElem?_eq_getElem (by omega));have y1:=an HO.out ((fi+k)*6+1) _ (List.getElem?_eq_getElem (by omega));have y2:=an HO.out ((fi+k)*6+2) _ (List.getElem?_eq_getElem (by omega));have y3:=an HO.out ((fi+k)*6+3) _ (List.getElem?_eq_getElem (by omega));have y4:=an HO.out ((fi+k)*6+4) _ (List.getElem?_eq_getElem (by omega));have y5:=an HO.out ((fi+k)*6+5) _ (List.getElem?_eq_getElem (by omega));generalize (al es)[(fi+k)*6]'_=z0 at y0;generalize (al es)[(fi+k)*6+1]'_=z1 at y1;generalize (al es)[(fi+k)*6+2]'_=z2 at y2;generalize (al es)[(fi+k)*6+3]'_=z3 at y3;generalize (al es)[(fi+k)*6+4]'_=z4 at y4;generalize (al es)[(fi+k)*6+5]'_=z5 at y5;have r0:=ar HO.out ((fi+k)*6);have r1:=ar HO.out ((fi+k)*6+1);have r2:=ar HO.out ((fi+k)*6+2);have r3:=ar HO.out ((fi+k)*6+3);have r4:=ar HO.out ((fi+k)*6+4);have r5:=ar HO.out ((fi+k)*6+5);clear hcl;go_wp2_with fail;refine bodyPost_ret (v:=.agg #[.int .i64 sets,.int .i64 ways,.slice (some ⟨g,0,none⟩) n cp]) (by simp [results,Tryz.results30,go_sem,d0,d1,d2]) rfl ⟨⟨_,rfl,?_⟩,cA (A6.grown (aj (aj (aj (aj (aj (aj (aO wr (some g)) _ _) _ _) _ _) _ _) _ _) _ _) (by have:=A6.size;omega) (fun q hq=>by cases hq;omega)) (by omega) _ _ _⟩;rw [HXf.out];refine ⟨g,cp,by simp only [List.length_set];rw [HN.out],?_⟩;simp only [List.length_set];rw [HN.out,dx es (fi+k) _ (by rw [HN.out];omega)];exact ax (bg (ak (ak (ak (ak (ak (ak HO.out _ _) _ _) _ _) _ _) _ _) _ _) (gb3 _ (w.heap.size+1+1) _ _ _) (by omega)) (by omega)
      ·go_wp2_with fail;go_roundw
       case rel=>exact ⟨k+1,by omega,by go_num,fun j hj=>by
        by_cases e:j=k
        ·subst e;exact HXv.out
        ·exact HAll.out j (by omega),hb⟩
       case measure=>simp [intOf];omega
     ·have hkw:(k:Int)=ways:=by omega
      obtain ⟨pk,hpk⟩:=Int.eq_ofNat_of_zero_le (Int.emod_nonneg pick (show ways≠0 by omega));have hpk':(pk:Int)<ways:=by rw [<-hpk];exact Int.emod_lt_of_pos _ (by omega)
      have HXf:Hid (X=⟨sets,ways,es.set (fi+pk) ⟨vv,lv,tg,asd,gl,pt⟩⟩):=by
       show _=_;rw [HXe.out,HFi.out];have:cG ⟨sets,ways,es⟩ ⟨vv,lv,tg,asd,gl,pt⟩ pick=pk:=by
        unfold cG;simp only;rw [HFi.out,dG es fi ways.toNat 0 (fun j hj=>by rw [Nat.zero_add];exact HAll.out j (by omega)),hpk];simp
       rw [this]
      have hcl:(al es).length=n*6:=by rw [bQ,HN.out]
      have y0:=an HO.out ((fi+pk)*6) _ (List.getElem?_eq_getElem (by omega));have y1:=an HO.out ((fi+pk)*6+1) _ (List.getElem?_eq_getElem (by omega));have y2:=an HO.out ((fi+pk)*6+2) _ (List.getElem?_eq_getElem (by omega));have y3:=an HO.out ((fi+pk)*6+3) _ (List.getElem?_eq_getElem (by omega));have y4:=an HO.out ((fi+pk)*6+4) _ (List.getElem?_eq_getElem (by omega));have y5:=an HO.out ((fi+pk)*6+5) _ (List.getElem?_eq_getElem (by omega));generalize (al es)[(fi+pk)*6]'_=z0 at y0;generalize (al es)[(fi+pk)*6+1]'_=z1 at y1;generalize (al es)[(fi+pk)*6+2]'_=z2 at y2;generalize (al es)[(fi+pk)*6+3]'_=z3 at y3;generalize (al es)[(fi+pk)*6+4]'_=z4 at y4;generalize (al es)[(fi+pk)*6+5]'_=z5 at y5;have r0:=ar HO.out ((fi+pk)*6);have r1:=ar HO.out ((fi+pk)*6+1);have r2:=ar HO.out ((fi+pk)*6+2);have r3:=ar HO.out ((fi+pk)*6+3);have r4:=ar HO.out ((fi+pk)*6+4);have r5:=ar HO.out ((fi+pk)*6+5);clear hcl;have hrem:pick.tmod ways=(pk:Int):=by rw [Int.tmod_eq_emod_of_nonneg hp0];exact hpk
      have hwz:ways≠0:=by omega
      clear hpk;have i1:g≠w.heap.size:=by omega
      have i2:w.heap.size≠g:=by omega
      have i3:g≠w.heap.size+1:=by omega
      have i4:w.heap.size+1≠g:=by omega
      have i5:g≠v2.heap.size:=by omega
      have i6:v2.heap.size≠g:=by omega
      go_wp2_with fail;have t1:IntKind.i64.wrap ((fi:Int)+(pk:Int))=(fi:Int)+pk:=by
       rw [IntKind.wrap_i64];omega
      have t2:(0:Int)<=(fi:Int)+pk:=by omega
      have t3:(fi:Int)+pk<n:=by omega
      go_region_held (fun w'=>w'.cell? ⟨v2.heap.size,2,none⟩=some (.slice (some ⟨g,0,none⟩) n cp)∧w'.cell? ⟨w.heap.size,1,none⟩=some (.int .i64 ways)∧w'.cell? ⟨w.heap.size+1,0,none⟩=some (.bool vv)∧w'.cell? ⟨w.heap.size+1,1,none⟩=some (.int .i64 lv)∧w'.cell? ⟨w.heap.size+1,2,none⟩=some (.int .u64 tg)∧w'.cell? ⟨w.heap.size+1,3,none⟩=some (.int .u64 asd)∧w'.cell? ⟨w.heap.size+1,4,none⟩=some (.bool gl)∧w'.cell? ⟨w.heap.size+1,5,none⟩=some (.int .u64 pt)) (go_keep) (fail);go_wp2_with fail;refine bodyPost_ret (v:=.agg #[.int .i64 sets,.int .i64 ways,.slice (some ⟨g,0,none⟩) n cp]) (by simp [results,Tryz.results30,go_sem,d0,d1,d2]) rfl ⟨⟨_,rfl,?_⟩,(cA (A6.grown (aj (aj (aj (aj (aj (aj (aO wr (some g)) _ _) _ _) _ _) _ _) _ _) _ _) (by have:=A6.size;omega) (fun q hq=>by cases hq;omega)) (by omega) _ _ _).drew⟩;rw [HXf.out];refine ⟨g,cp,by simp only [List.length_set];rw [HN.out],?_⟩;simp only [List.length_set];rw [HN.out,dx es (fi+pk) _ (by rw [HN.out];omega)];exact ax (dd (bg (ak (ak (ak (ak (ak (ak HO.out _ _) _ _) _ _) _ _) _ _) _ _) (gb3 _ (w.heap.size+1+1) _ _ _) (by omega))) (by omega)
  ·have hXt:X=⟨sets,ways,es⟩:=by
    rw [<-HX.out];unfold be;rw [if_neg (by rw [HFB.out];exact hok)]
   have fin:∀v5,v5=v4->TlbOwn w.heap.size (((v5.setCell ⟨w.heap.size+1+1,0,none⟩ (.int .i64 sets)).setCell ⟨w.heap.size+1+1,1,none⟩ (.int .i64 ways)).setCell ⟨w.heap.size+1+1,2,none⟩ (.slice (some ⟨g,0,none⟩) n cp)) (.agg #[.int .i64 sets,.int .i64 ways,.slice (some ⟨g,0,none⟩) n cp]) X:=by
    rintro _ rfl;rw [hXt];refine ⟨g,cp,by rw [HN.out],?_⟩;simp only;rw [HN.out];exact ax (bg O4.out (gb3 _ (w.heap.size+1+1) _ _ _) (by omega)) (by omega)
   have HFin:Hid _:=fin;clear fin hXt;cases FB
   ·go_wp2_with fail;exact bodyPost_ret (v:=.agg #[.int .i64 sets,.int .i64 ways,.slice (some ⟨g,0,none⟩) n cp]) (by simp [results,Tryz.results30,go_sem,d0,d1,d2]) rfl ⟨⟨_,rfl,(by first | exact HFin.out _ rfl | exact TlbOwn.drew (HFin.out _ rfl))⟩,(by first | exact cA A4 (by omega) _ _ _ | exact (cA A4 (by omega) _ _ _).drew)⟩
   ·by_cases hpn:pick<0
    ·go_wp2_with fail;exact bodyPost_ret (v:=.agg #[.int .i64 sets,.int .i64 ways,.slice (some ⟨g,0,none⟩) n cp]) (by simp [results,Tryz.results30,go_sem,d0,d1,d2]) rfl ⟨⟨_,rfl,(by first | exact HFin.out _ rfl | exact TlbOwn.drew (HFin.out _ rfl))⟩,(by first | exact cA A4 (by omega) _ _ _ | exact (cA A4 (by omega) _ _ _).drew)⟩
    ·have hpg:255<pick:=by
      have:=hok;simp at this;omega
     go_wp2_with fail;exact bodyPost_ret (v:=.agg #[.int .i64 sets,.int .i64 ways,.slice (some ⟨g,0,none⟩) n cp]) (by simp [results,Tryz.results30,go_sem,d0,d1,d2]) rfl ⟨⟨_,rfl,(by first | exact HFin.out _ rfl | exact TlbOwn.drew (HFin.out _ rfl))⟩,(by first | exact cA A4 (by omega) _ _ _ | exact (cA A4 (by omega) _ _ _).drew)⟩
end
end Go.Proofs.YtfgogedgolgnaaaGreat
