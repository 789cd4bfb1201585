import Derived.Test.YthekickjjaleaaaGreatPack04
import Derived.Test.YthekickjjaleaaaGreatPack03
import Derived.Deep.QuietTactic
import Derived.BigQuiet
namespace Go.Proofs.YthekickjjaleaaaGreat
open Go.RowKit
set_option linter.unusedVariables false
attribute [local go_sem ↓] Go.wp_at_zero Go.wp_at_succ
def dD (mode:Int) (sum mxr:Bool) (satp:Int):Value:=.agg #[.int .i64 mode,.bool sum,.bool mxr,.int .u64 satp]
set_option maxHeartbeats 400000 in
theorem jM (mode:Int) (sum mxr:Bool) (satp:Int) (w:World) (h0:0≤satp) (h1:satp≤18446744073709551615):
 Calls Tryz.prog 63 #[dD mode sum mxr satp] w fun e w'=>e=.returned (.bool (onM mode satp))∧Below w.heap.size w w':=by
 unfold dD;have a1:=eH w #[.int .i64 mode,.bool sum,.bool mxr,.int .u64 satp] 38;go_enter Tryz.func63,Tryz.ntmps63;go_wp2_with fail;generalize w.alloc (Obj.cells #[.int .i64 mode,.bool sum,.bool mxr,.int .u64 satp] 38)=v1 at a1 ⊢;obtain ⟨l1,c1,n1⟩:=a1;have c10:v1.cell? ⟨w.heap.size,0,none⟩=some (.int .i64 mode):=c1 0;clear c1;refine (bB satp 60 63 1152921504606846976 16 v1 h0 h1 (by omega) (by omega) (by omega) (by omega) rfl rfl).mono ?_;rintro e w' ⟨rfl,nq,rfl⟩;cases hs:(satp/1152921504606846976%16 == 8)
 ·go_wp2_with fail;go_ret;exact ⟨aF (by simp [onM,hs]),below_drewN n1 nq⟩
 ·cases hm0:(mode == 0)
  ·go_wp2_with fail;go_ret;exact ⟨aF (by simp [onM,hs,hm0]),below_drewN n1 nq⟩
  ·go_wp2_with fail;go_ret;exact ⟨aF (by simp [onM,hs,hm0]),below_drewN n1 nq⟩
theorem mn (satp:Int) (w:World) (h0:0≤satp) (h1:satp≤18446744073709551615):
 Calls Tryz.prog 75 #[.int .u64 satp] w fun e w'=>e=.returned (.int .u64 (aU satp))∧∃n,w'=w.drewN n:=by
 go_enter Tryz.func75,Tryz.ntmps75;go_wp2_with fail;refine (bB satp 44 59 17592186044416 65536 w h0 h1 (by omega) (by omega) (by omega) (by omega) rfl rfl).mono ?_;rintro e w' ⟨rfl,nq,rfl⟩;go_wp2_with fail;go_ret;exact ⟨rfl,nq,rfl⟩
theorem gv (kind:Int) (w:World):Calls Tryz.prog 74 #[.int .i64 kind] w fun e w'=>e=.returned (.int .i64 (gV kind))∧w'=w:=by
 by_cases k0:kind=0
 ·subst k0;go_enter Tryz.func74,Tryz.ntmps74;go_wp2_with fail;go_ret;exact ⟨rfl,rfl⟩
 by_cases k1:kind=1
 ·subst k1;go_enter Tryz.func74,Tryz.ntmps74;go_wp2_with fail;go_ret;exact ⟨rfl,rfl⟩
 have k0':(kind == 0)=false:=by simpa using k0
 have k1':(kind == 1)=false:=by simpa using k1
 go_enter Tryz.func74,Tryz.ntmps74;go_wp2_with fail;go_ret;exact ⟨bO (by simp [gV,k0,k1]),rfl⟩
theorem iA (kind:Int) (w:World):Calls Tryz.prog 153 #[.int .i64 kind] w fun e w'=>e=.returned (.int .i64 (dJ kind))∧w'=w:=by
 by_cases k0:kind=0
 ·subst k0;go_enter Tryz.func153,Tryz.ntmps153;go_wp2_with fail;go_ret;exact ⟨rfl,rfl⟩
 by_cases k1:kind=1
 ·subst k1;go_enter Tryz.func153,Tryz.ntmps153;go_wp2_with fail;go_ret;exact ⟨rfl,rfl⟩
 have k0':(kind == 0)=false:=by simpa using k0
 have k1':(kind == 1)=false:=by simpa using k1
 go_enter Tryz.func153,Tryz.ntmps153;go_wp2_with fail;go_ret;exact ⟨bO (by simp [dJ,k0,k1]),rfl⟩
def ej (r:Int × Int):Value:=.agg #[.int .i64 r.1,.int .u64 r.2]
theorem jN {w:World} {g:Nat} {T:TypeId} {a b:Value} (h:w.heap[g]?=some (.cells #[a,b] T (0,0))):
 (w.cell? ⟨g,0,none⟩=some a∧w.cell? ⟨g,1,none⟩=some b)∧w.frozen? ⟨g,0,none⟩=false∧w.frozen? ⟨g,1,none⟩=false:=by
 simp [World.cell?,World.frozen?,h]
theorem vl {B:Nat} {a w:World} {g:Nat} (h:Below B a w) (hg:B≤g) (x y:Value):Below B a ((w.setCell ⟨g,0,none⟩ x).setCell ⟨g,1,none⟩ y):=
 (h.setCell (p:=⟨g,0,none⟩) hg x).setCell (p:=⟨g,1,none⟩) hg y
set_option maxHeartbeats 800000 in
theorem ko (pte level mode:Int) (sum mxr:Bool) (satp kind va:Int) (w:World) (h0:0≤pte) (h1:pte≤18446744073709551615) (hv:0≤va) (hv':va≤18446744073709551615) (hl: -9223372036854775808≤level) (hl':level≤9223372036854775807):
 Calls Tryz.prog 76 #[.int .u64 pte,.int .i64 level,dD mode sum mxr satp,.int .i64 kind,.int .u64 va] w fun e w'=>e=.returned (ej (fU pte level mode sum mxr kind va))∧Below w.heap.size w w':=by
 unfold dD fU;cases hg:eE pte kind mode sum mxr
 ·rw [if_neg (by simp)];have HG:Hid (eE pte kind mode sum mxr=false):=hg;clear hg;go_enter Tryz.func76,Tryz.ntmps76;go_wp2_with fail;refine (jr pte kind mode sum mxr _ h0 h1).mono ?_;rintro e w' ⟨rfl,nq,rfl⟩;rw [HG.out];go_wp2_with (go_at_call 74;refine (gv kind _).mono ?_;rintro e w' ⟨rfl,rfl⟩);exact bodyPost_ret (v:=.agg #[.int .i64 (gV kind),.int .u64 0]) (by simp [results,Tryz.results76,go_sem]) rfl ⟨rfl,vl (below_drewN (((Below.refl _ _).alloc (Nat.le_refl _) _).alloc (by simp) _) nq) (Nat.le_succ _) _ _⟩
 ·rw [if_pos rfl];have HG:Hid (eE pte kind mode sum mxr=true):=hg;clear hg;go_enter Tryz.func76,Tryz.ntmps76;go_wp2_with fail;refine (jr pte kind mode sum mxr _ h0 h1).mono ?_;rintro e w' ⟨rfl,nq,rfl⟩;rw [HG.out];go_wp2_with (go_at_call 35;refine (pO pte level va _ h0 h1 hv hv' hl hl').mono ?_;rintro e w' ⟨rfl,nr,rfl⟩);exact bodyPost_ret (v:=.agg #[.int .i64 0,.int .u64 (jW pte level va)]) (by simp [results,Tryz.results76,go_sem]) rfl ⟨rfl,vl (below_drewN (((Below.refl _ _).alloc (Nat.le_refl _) _).alloc (by simp) _) (nq+nr)) (Nat.le_succ _) _ _⟩
set_option maxHeartbeats 800000 in
theorem iQ (r:Int × Int × Int × List eh) (v:Value) (mode:Int) (sum mxr:Bool) (satp kind va:Int) (w:World) (h0:0≤r.2.2.1) (h1:r.2.2.1≤18446744073709551615) (hv:0≤va) (hv':va≤18446744073709551615) (hl:0≤r.2.1) (hl':r.2.1≤2) (ho:v.oneCell'=true):
 Calls Tryz.prog 82 #[.agg #[.int .i64 r.1,.int .i64 r.2.1,.int .u64 r.2.2.1,v],dD mode sum mxr satp,.int .i64 kind,.int .u64 va] w fun e w'=>e=.returned (ej (el r mode sum mxr kind va))∧Below w.heap.size w w':=by
 obtain ⟨c,l,p,rs⟩:=r;simp only at h0 h1 hl hl' ⊢;unfold el;simp only;by_cases c2:c=2
 ·subst c2;rw [if_pos rfl];unfold dD;go_enter Tryz.func82,Tryz.ntmps82;go_wp2_with (go_at_call 74;refine (gv kind _).mono ?_;rintro e w' ⟨rfl,rfl⟩);exact bodyPost_ret (v:=.agg #[.int .i64 (gV kind),.int .u64 0]) (by simp [results,Tryz.results82,go_sem]) rfl ⟨rfl,(((Below.refl _ _).alloc (Nat.le_refl _) _).alloc (by simp) _).alloc (by simp;omega) _⟩
 rw [if_neg c2];have c2':(c == 2)=false:=by simpa using c2
 by_cases c3:c=3
 ·subst c3;rw [if_pos rfl];clear c2 c2';unfold dD;go_enter Tryz.func82,Tryz.ntmps82;go_wp2_with (go_at_call 153;refine (iA kind _).mono ?_;rintro e w' ⟨rfl,rfl⟩);exact bodyPost_ret (v:=.agg #[.int .i64 (dJ kind),.int .u64 0]) (by simp [results,Tryz.results82,go_sem]) rfl ⟨rfl,(((Below.refl _ _).alloc (Nat.le_refl _) _).alloc (by simp) _).alloc (by simp;omega) _⟩
 rw [if_neg c3];have c3':(c == 3)=false:=by simpa using c3
 clear c2 c3;obtain ⟨⟨x1,x2⟩,hX⟩:∃X,fU p l mode sum mxr kind va=X:=⟨_,rfl⟩;rw [hX];have HX:Hid (fU p l mode sum mxr kind va=(x1,x2)):=hX;clear hX;have n1:=(((Below.refl w.heap.size w).alloc (Nat.le_refl _) (Obj.cells #[.int .i64 c,.int .i64 l,.int .u64 p,v] 154)).alloc (by simp) (Obj.cells #[.int .i64 mode,.bool sum,.bool mxr,.int .u64 satp] 38)).alloc (by simp;omega) (Obj.cells #[.int .i64 0,.int .u64 0] 56);have H1:Hid (((((w.alloc (Obj.cells #[.int .i64 c,.int .i64 l,.int .u64 p,v] 154)).alloc (Obj.cells #[.int .i64 mode,.bool sum,.bool mxr,.int .u64 satp] 38)).alloc (Obj.cells #[.int .i64 0,.int .u64 0] 56))).heap[w.heap.size+1+1]?=some (.cells #[.int .i64 0,.int .u64 0] 56 (0,0))):=by
  have:=heap_alloc_new ((w.alloc (Obj.cells #[.int .i64 c,.int .i64 l,.int .u64 p,v] 154)).alloc (Obj.cells #[.int .i64 mode,.bool sum,.bool mxr,.int .u64 satp] 38)) (Obj.cells #[.int .i64 0,.int .u64 0] 56);simp only [World.size_alloc] at this;exact this
 have l1:w.heap.size+1+1<((((w.alloc (Obj.cells #[.int .i64 c,.int .i64 l,.int .u64 p,v] 154)).alloc (Obj.cells #[.int .i64 mode,.bool sum,.bool mxr,.int .u64 satp] 38)).alloc (Obj.cells #[.int .i64 0,.int .u64 0] 56))).heap.size:=by simp
 unfold dD;go_enter Tryz.func82,Tryz.ntmps82;go_wp2_with fail;generalize ((w.alloc (Obj.cells #[.int .i64 c,.int .i64 l,.int .u64 p,v] 154)).alloc (Obj.cells #[.int .i64 mode,.bool sum,.bool mxr,.int .u64 satp] 38)).alloc (Obj.cells #[.int .i64 0,.int .u64 0] 56)=v1 at n1 H1 l1 ⊢;refine (ko p l mode sum mxr satp kind va v1 h0 h1 hv hv' (by omega) (by omega)).mono ?_;rw [HX.out];rintro e v2 ⟨rfl,n2⟩;have n12:=Below.step n1 n2 (Nat.le_refl _);obtain ⟨⟨d0,d1⟩,e0,e1⟩:=jN (ab H1.out n2 l1);unfold ej;simp only;clear n1 n2 H1;go_wp2_with fail;exact bodyPost_ret (v:=.agg #[.int .i64 x1,.int .u64 x2]) (by simp [results,Tryz.results82,go_sem,d0,d1]) rfl ⟨rfl,vl n12 (by omega) _ _⟩
theorem oP (zs:List Int) (va:Int) (h:∀i:Nat,0≤zs[i]?.getD 0∧zs[i]?.getD 0≤255):∀(l:Nat) (n:Int),l≤2→
 0≤(cH zs va l n).2.2.1∧(cH zs va l n).2.2.1≤18446744073709551615∧0≤(cH zs va l n).2.1∧(cH zs va l n).2.1≤2
 | 0,n,hl=>by
  unfold cH;have hb:=lX zs (64*n+8*dq va ((0:Nat):Int)) 8 (by omega) h;split
  ·simp
  ·split
   ·simp
   ·split
    ·exact ⟨hb.1,hb.2,by simp,by simp⟩
    ·simp
 | l+1,n,hl=>by
  unfold cH;have hb:=lX zs (64*n+8*dq va ((l+1:Nat):Int)) 8 (by omega) h;split
  ·exact ⟨by simp,by simp,by show (0:Int)≤((l+1:Nat):Int);omega,by show ((l+1:Nat):Int)≤2;omega⟩
  ·split
   ·exact ⟨by simp,by simp,by show (0:Int)≤((l+1:Nat):Int);omega,by show ((l+1:Nat):Int)≤2;omega⟩
   ·split
    ·exact ⟨hb.1,hb.2,by show (0:Int)≤((l+1:Nat):Int);omega,by show ((l+1:Nat):Int)≤2;omega⟩
    ·exact oP zs va h l _ (by omega)
theorem rS (zs:List Int) (root va:Int) (h:∀i:Nat,0≤zs[i]?.getD 0∧zs[i]?.getD 0≤255):
 0≤(cf zs root va).2.2.1∧(cf zs root va).2.2.1≤18446744073709551615∧0≤(cf zs root va).2.1∧(cf zs root va).2.1≤2:=by
 unfold cf;split
 ·simp
 ·exact oP zs va h 2 _ (by omega)
set_option maxHeartbeats 1600000 in
theorem pP (a:Option Addr) (len cap:Nat) (zs:List Int) (mode:Int) (sum mxr:Bool) (satp kind va:Int) (w:World) (hl:len≤1048576) (hc:len≤cap) (hm:cap≤9223372036854775807) (hs0:0≤satp) (hs1:satp≤18446744073709551615) (hv0:0≤va) (hv1:va≤18446744073709551615) (hB:Byt w a len zs):
 Calls Tryz.prog 28 #[.slice a len cap,dD mode sum mxr satp,.int .i64 kind,.int .u64 va] w fun e w'=>e=.returned (ej (ie zs mode sum mxr satp kind va))∧Below w.heap.size w w':=by
 by_cases hbad:kind<0∨2<kind∨mode<0∨2<mode
 ·have hp:ie zs mode sum mxr satp kind va=(63,0):=by unfold ie;rw [if_pos hbad]
  rw [hp];unfold dD ej;clear hp;rcases (show kind<0∨(0≤kind∧2<kind)∨(0≤kind∧kind≤2∧mode<0)∨(0≤kind∧kind≤2∧0≤mode∧2<mode) by omega) with h | ⟨h,h'⟩ | ⟨h,h',h''⟩ | ⟨h,h',h'',h3⟩;all_goals
   clear hbad;go_enter Tryz.func28,Tryz.ntmps28;go_wp2_with fail;exact bodyPost_ret (v:=.agg #[.int .i64 63,.int .u64 0]) (by simp [results,Tryz.results28,go_sem]) rfl ⟨rfl,((Below.refl _ _).alloc (Nat.le_refl _) _).alloc (by simp) _⟩
 ·have hk0:0≤kind:=by omega
  have hk2:kind≤2:=by omega
  have hm0:0≤mode:=by omega
  have hm2:mode≤2:=by omega
  unfold ie;rw [if_neg hbad];clear hbad;cases hon:onM mode satp
  ·rw [if_pos rfl];have n1:=((Below.refl w.heap.size w).alloc (Nat.le_refl _) (Obj.cells #[.int .i64 mode,.bool sum,.bool mxr,.int .u64 satp] 38)).alloc (by simp) (Obj.cells #[.int .i64 0,.int .u64 0] 56);have H1:Hid (((w.alloc (Obj.cells #[.int .i64 mode,.bool sum,.bool mxr,.int .u64 satp] 38)).alloc (Obj.cells #[.int .i64 0,.int .u64 0] 56)).heap[w.heap.size+1]?=some (.cells #[.int .i64 0,.int .u64 0] 56 (0,0))):=by
    have:=heap_alloc_new (w.alloc (Obj.cells #[.int .i64 mode,.bool sum,.bool mxr,.int .u64 satp] 38)) (Obj.cells #[.int .i64 0,.int .u64 0] 56);simp only [World.size_alloc] at this;exact this
   have H2:Hid (((w.alloc (Obj.cells #[.int .i64 mode,.bool sum,.bool mxr,.int .u64 satp] 38)).alloc (Obj.cells #[.int .i64 0,.int .u64 0] 56)).heap[w.heap.size]?=some (.cells #[.int .i64 mode,.bool sum,.bool mxr,.int .u64 satp] 38 (0,0))):=by
    show _=_;rw [Below.heap_alloc _ _ _ (by simp)];exact heap_alloc_new _ _
   have l1:w.heap.size+1<((w.alloc (Obj.cells #[.int .i64 mode,.bool sum,.bool mxr,.int .u64 satp] 38)).alloc (Obj.cells #[.int .i64 0,.int .u64 0] 56)).heap.size:=by simp
   have HO:Hid (onM mode satp=false):=hon;clear hon;unfold dD;go_enter Tryz.func28,Tryz.ntmps28;go_wp2_with fail;generalize (w.alloc (Obj.cells #[.int .i64 mode,.bool sum,.bool mxr,.int .u64 satp] 38)).alloc (Obj.cells #[.int .i64 0,.int .u64 0] 56)=v1 at n1 H1 H2 l1 ⊢;refine (jM mode sum mxr satp v1 hs0 hs1).mono ?_;rintro e v2 ⟨rfl,n2⟩;rw [HO.out];have n12:=Below.step n1 n2 (Nat.le_refl _);obtain ⟨⟨d0,d1⟩,e0,e1⟩:=jN (ab H1.out n2 l1);have H3:Hid (v2.heap[w.heap.size]?=some (.cells #[.int .i64 mode,.bool sum,.bool mxr,.int .u64 satp] 38 (0,0))):=ab H2.out n2 (by omega);have H4:Hid (v2.heap[w.heap.size+1]?=some (.cells #[.int .i64 0,.int .u64 0] 56 (0,0))):=ab H1.out n2 l1;have l2:w.heap.size+1<v2.heap.size:=Nat.lt_of_lt_of_le l1 n2.size;clear n1 n2 H1 H2 l1;go_wp2_with fail;exact bodyPost_ret (v:=.agg #[.int .i64 0,.int .u64 va]) (by simp [results,Tryz.results28,go_sem,d0,d1]) rfl ⟨rfl,vl n12 (by omega) _ _⟩
  ·rw [if_neg (by simp)];obtain ⟨⟨x1,x2⟩,hX⟩:∃X,el (cf zs satp va) mode sum mxr kind va=X:=⟨_,rfl⟩;rw [hX];have HX:Hid (el (cf zs satp va) mode sum mxr kind va=(x1,x2)):=hX;clear hX;have n1:=((Below.refl w.heap.size w).alloc (Nat.le_refl _) (Obj.cells #[.int .i64 mode,.bool sum,.bool mxr,.int .u64 satp] 38)).alloc (by simp) (Obj.cells #[.int .i64 0,.int .u64 0] 56);have H1:Hid (((w.alloc (Obj.cells #[.int .i64 mode,.bool sum,.bool mxr,.int .u64 satp] 38)).alloc (Obj.cells #[.int .i64 0,.int .u64 0] 56)).heap[w.heap.size+1]?=some (.cells #[.int .i64 0,.int .u64 0] 56 (0,0))):=by
    have:=heap_alloc_new (w.alloc (Obj.cells #[.int .i64 mode,.bool sum,.bool mxr,.int .u64 satp] 38)) (Obj.cells #[.int .i64 0,.int .u64 0] 56);simp only [World.size_alloc] at this;exact this
   have H2:Hid (((w.alloc (Obj.cells #[.int .i64 mode,.bool sum,.bool mxr,.int .u64 satp] 38)).alloc (Obj.cells #[.int .i64 0,.int .u64 0] 56)).heap[w.heap.size]?=some (.cells #[.int .i64 mode,.bool sum,.bool mxr,.int .u64 satp] 38 (0,0))):=by
    show _=_;rw [Below.heap_alloc _ _ _ (by simp)];exact heap_alloc_new _ _
   have l1:w.heap.size+1<((w.alloc (Obj.cells #[.int .i64 mode,.bool sum,.bool mxr,.int .u64 satp] 38)).alloc (Obj.cells #[.int .i64 0,.int .u64 0] 56)).heap.size:=by simp
   have HO:Hid (onM mode satp=true):=hon;clear hon;unfold dD;go_enter Tryz.func28,Tryz.ntmps28;go_wp2_with fail;generalize (w.alloc (Obj.cells #[.int .i64 mode,.bool sum,.bool mxr,.int .u64 satp] 38)).alloc (Obj.cells #[.int .i64 0,.int .u64 0] 56)=v1 at n1 H1 H2 l1 ⊢;refine (jM mode sum mxr satp v1 hs0 hs1).mono ?_;rintro e v2 ⟨rfl,n2⟩;rw [HO.out];have n12:=Below.step n1 n2 (Nat.le_refl _);obtain ⟨⟨d0,d1⟩,e0,e1⟩:=jN (ab H1.out n2 l1);have H3:Hid (v2.heap[w.heap.size]?=some (.cells #[.int .i64 mode,.bool sum,.bool mxr,.int .u64 satp] 38 (0,0))):=ab H2.out n2 (by omega);have H4:Hid (v2.heap[w.heap.size+1]?=some (.cells #[.int .i64 0,.int .u64 0] 56 (0,0))):=ab H1.out n2 l1;have l2:w.heap.size+1<v2.heap.size:=Nat.lt_of_lt_of_le l1 n2.size;clear n1 n2 H1 H2 l1;obtain ⟨⟨q0,q1,q2,q3⟩,_⟩:=ax H3.out;have HBy:Hid (∀v:World,Below v2.heap.size v2 v→Byt v a len zs):=fun v hv=>(hB.keep n12).keep hv;have HC:Hid (∀v:World,Below v2.heap.size v2 v→v.cell? ⟨w.heap.size,0,none⟩=some (.int .i64 mode)∧v.cell? ⟨w.heap.size,1,none⟩=some (.bool sum)∧v.cell? ⟨w.heap.size,2,none⟩=some (.bool mxr)∧v.cell? ⟨w.heap.size,3,none⟩=some (.int .u64 satp)):=
    fun v hv=>(ax (ab H3.out hv (by omega))).1
   have hwb:=rS zs satp va (hB.2.1);clear hB d0 d1 e0 e1;obtain ⟨W,hW⟩:∃W,cf zs satp va=W:=⟨_,rfl⟩;rw [hW] at hwb;have HW:Hid (cf zs satp va=W):=hW;clear hW;go_wp2_with fail;go_region_held3 (fun w'=>w'.cell? ⟨w.heap.size,0,none⟩=some (.int .i64 mode)∧w'.cell? ⟨w.heap.size,1,none⟩=some (.bool sum)∧w'.cell? ⟨w.heap.size,2,none⟩=some (.bool mxr)∧w'.cell? ⟨w.heap.size,3,none⟩=some (.int .u64 satp)) (go_keep)
    (first
     | (go_at_call 77;refine (kY a len cap zs satp va _ hl hc hm hs0 hs1 hv0 hv1 (HBy.out _ (Below.refl _ _).drew)).mono ?_;rw [HW.out];rintro e v3 ⟨⟨a3,c3,rfl,r3,na3,sp3,nc3⟩,n3⟩;have m3:Below v2.heap.size v2 v3:=(Below.refl v2.heap.size v2).drew.trans n3;obtain ⟨g0,g1,g2,g3⟩:=HC.out v3 m3;clear r3 na3 sp3 nc3 n3)
     | (go_at_call 82;refine (iQ W (.slice a3 W.2.2.2.length c3) mode sum mxr satp kind va _ hwb.1 hwb.2.1 hv0 hv1 hwb.2.2.1 hwb.2.2.2 rfl).mono ?_;rw [←HW.out,HX.out];unfold ej;rintro e v4 ⟨rfl,n4⟩;have m4:Below v2.heap.size v2 v4:=Below.step m3 n4 (Nat.le_refl _);obtain ⟨j0,j1,j2,j3⟩:=HC.out v4 m4;obtain ⟨⟨d0,d1⟩,e0,e1⟩:=jN (ab H4.out m4 l2);clear n4))
   go_wp2_with fail;exact bodyPost_ret (v:=.agg #[.int .i64 x1,.int .u64 x2]) (by simp [results,Tryz.results28,go_sem,d0,d1]) rfl ⟨rfl,vl (Below.step n12 m4 (Nat.le_refl _)) (by omega) _ _⟩
end Go.Proofs.YthekickjjaleaaaGreat

namespace Go.Proofs.YthekickjjaleaaaGreat
set_option linter.unusedVariables false
structure EntM where
 valid:Bool
 level:Int
 tag:Int
 asid:Int
 glob:Bool
 pte:Int
def bQ:EntM:=⟨false,0,0,0,false,0⟩
structure TlbM where
 sets:Int
 ways:Int
 es:List EntM
def ev (va level:Int):Int:=if level=0 then va/64%512 else if level=1 then va/512%64 else va/4096%8
def jo (level:Int):Int:=if level=0 then 512 else if level=1 then 64 else 8
def gt (p:Bool):Int:=if p=true then 1 else 2
def aO (e:EntM) (p:Bool):Bool:=
 e.valid && decide (0≤e.level) && decide (e.level≤2) && decide (e.tag<jo e.level) && decide (e.asid≤65535) && (e.glob == bS e.pte 32) && (bC e.pte e.level == gt p)
def da (e:EntM):Prop:=
 (-9223372036854775808≤e.level∧e.level≤9223372036854775807)∧(0≤e.tag∧e.tag≤18446744073709551615)∧(0≤e.asid∧e.asid≤18446744073709551615)∧(0≤e.pte∧e.pte≤18446744073709551615)
end Go.Proofs.YthekickjjaleaaaGreat

namespace Go.Proofs.YthekickjjaleaaaGreat
open Go.RowKit
set_option linter.unusedVariables false
def gX (e:EntM):List Value:=[.bool e.valid,.int .i64 e.level,.int .u64 e.tag,.int .u64 e.asid,.bool e.glob,.int .u64 e.pte]
def gx (e:EntM):Value:=.agg #[.bool e.valid,.int .i64 e.level,.int .u64 e.tag,.int .u64 e.asid,.bool e.glob,.int .u64 e.pte]
theorem oU (va level:Int) (w:World) (h0:0≤va) (h1:va≤18446744073709551615) (hl:0≤level) (hl':level≤2):
 Calls Tryz.prog 133 #[.int .u64 va,.int .i64 level] w fun e w'=>e=.returned (.int .u64 (ev va level))∧∃n,w'=w.drewN n:=by
 rcases (show level=0∨level=1∨level=2 by omega) with rfl | rfl | rfl
 ·go_enter Tryz.func133,Tryz.ntmps133;go_wp2_with fail;refine (bB va 6 14 64 512 w h0 h1 (by omega) (by omega) (by omega) (by omega) rfl rfl).mono ?_;rintro e w' ⟨rfl,nq,rfl⟩;go_wp2_with fail;go_ret;exact ⟨rfl,nq,rfl⟩
 ·go_enter Tryz.func133,Tryz.ntmps133;go_wp2_with fail;refine (bB va 9 14 512 64 w h0 h1 (by omega) (by omega) (by omega) (by omega) rfl rfl).mono ?_;rintro e w' ⟨rfl,nq,rfl⟩;go_wp2_with fail;go_ret;exact ⟨rfl,nq,rfl⟩
 ·go_enter Tryz.func133,Tryz.ntmps133;go_wp2_with fail;refine (bB va 12 14 4096 8 w h0 h1 (by omega) (by omega) (by omega) (by omega) rfl rfl).mono ?_;rintro e w' ⟨rfl,nq,rfl⟩;go_wp2_with fail;go_ret;exact ⟨rfl,nq,rfl⟩
set_option maxHeartbeats 1600000 in
theorem i7 (x:EntM) (p:Bool) (w:World) (hx:da x):
 Calls Tryz.prog 101 #[gx x,.bool p] w fun e w'=>e=.returned (.bool (aO x p))∧Below w.heap.size w w':=by
 obtain ⟨v,lv,tg,asd,gl,pt⟩:=x;obtain ⟨⟨a1,a2⟩,⟨b1,b2⟩,⟨c1,c2⟩,d1,d2⟩:=hx;simp only at a1 a2 b1 b2 c1 c2 d1 d2;unfold gx aO;simp only;have n1:=(Below.refl w.heap.size w).alloc (Nat.le_refl _) (Obj.cells #[.bool v,.int .i64 lv,.int .u64 tg,.int .u64 asd,.bool gl,.int .u64 pt] 83);cases v
 ·cases p;all_goals
   go_enter Tryz.func101,Tryz.ntmps101;go_wp2_with fail;go_quiet (fail);go_wp2_with fail;go_ret;exact ⟨aF (by simp),below_drewN n1 nq⟩
 by_cases h0n:¬(0≤lv)
 ·have h0:¬(0≤lv):=h0n;have h0':decide (0≤lv)=false:=by simpa using h0
  cases p;all_goals
   go_enter Tryz.func101,Tryz.ntmps101;go_wp2_with fail;go_quiet (fail);go_wp2_with fail;go_ret;exact ⟨aF (by simp [h0']),below_drewN n1 nq⟩
 have h0:0≤lv:=Decidable.not_not.1 h0n;clear h0n;by_cases h2n:¬(lv≤2)
 ·have h2:¬(lv≤2):=h2n;have h2':decide (lv≤2)=false:=by simpa using h2
  cases p;all_goals
   go_enter Tryz.func101,Tryz.ntmps101;go_wp2_with fail;go_quiet (fail);go_wp2_with fail;go_ret;exact ⟨aF (by simp [h2']),below_drewN n1 nq⟩
 have h2:lv≤2:=Decidable.not_not.1 h2n;clear h2n;obtain ⟨g5,hg5⟩:∃g5,bS pt 32=g5:=⟨_,rfl⟩;obtain ⟨kd,hkd⟩:∃kd,bC pt lv=kd:=⟨_,rfl⟩;rw [hg5,hkd];have HC5:Hid (∀w:World,Calls Tryz.prog 104 #[.int .u64 pt,.int .i64 5] w fun e w'=>e=.returned (.bool g5)∧∃n,w'=w.drewN n):=fun w=>by
  have:=bF pt 5 32 w d1 d2 (by omega) (by omega) rfl;rw [hg5] at this;exact this
 have HC6:Hid (∀w:World,Calls Tryz.prog 80 #[.int .u64 pt,.int .i64 lv] w fun e w'=>e=.returned (.int .i64 kd)∧∃n,w'=w.drewN n):=fun w=>by
  have:=eN pt lv w d1 d2 a1 a2;rw [hkd] at this;exact this
 clear hg5 hkd;rcases (show lv=0∨lv=1∨lv=2 by omega) with rfl | rfl | rfl
 ·by_cases htn:¬(tg<512)
  ·have ht:¬(tg<512):=htn;have ht':decide (tg<512)=false:=by simpa using ht
   cases p;all_goals
    go_enter Tryz.func101,Tryz.ntmps101;go_wp2_with fail;go_quiet (first
    | (go_at_call 84;exact Calls.quiet_of_same (aV 9 512 _ (by omega) rfl))
    | (go_at_call 104;exact Calls.quiet_of (HC5.out _))
    | (go_at_call 80;exact Calls.quiet_of (HC6.out _)))
    go_wp2_with fail;go_ret;exact ⟨aF (by simp [jo,gt,ht']),below_drewN n1 nq⟩
  have ht:tg<512:=Decidable.not_not.1 htn;clear htn;by_cases han:¬(asd≤65535)
  ·have ha:¬(asd≤65535):=han;have ha':decide (asd≤65535)=false:=by simpa using ha
   cases p;all_goals
    go_enter Tryz.func101,Tryz.ntmps101;go_wp2_with fail;go_quiet (first
    | (go_at_call 84;exact Calls.quiet_of_same (aV 9 512 _ (by omega) rfl))
    | (go_at_call 104;exact Calls.quiet_of (HC5.out _))
    | (go_at_call 80;exact Calls.quiet_of (HC6.out _)))
    go_wp2_with fail;go_ret;exact ⟨aF (by simp [jo,gt,ht,ha']),below_drewN n1 nq⟩
  have ha:asd≤65535:=Decidable.not_not.1 han;clear han;cases p <;> cases gl <;> cases g5;all_goals
   go_enter Tryz.func101,Tryz.ntmps101;go_wp2_with fail;go_quiet (first
    | (go_at_call 84;exact Calls.quiet_of_same (aV 9 512 _ (by omega) rfl))
    | (go_at_call 104;exact Calls.quiet_of (HC5.out _))
    | (go_at_call 80;exact Calls.quiet_of (HC6.out _)))
   go_wp2_with fail;go_ret;exact ⟨aF (by simp [jo,gt,ht,ha]),below_drewN n1 nq⟩
 ·by_cases htn:¬(tg<64)
  ·have ht:¬(tg<64):=htn;have ht':decide (tg<64)=false:=by simpa using ht
   cases p;all_goals
    go_enter Tryz.func101,Tryz.ntmps101;go_wp2_with fail;go_quiet (first
    | (go_at_call 84;exact Calls.quiet_of_same (aV 6 64 _ (by omega) rfl))
    | (go_at_call 104;exact Calls.quiet_of (HC5.out _))
    | (go_at_call 80;exact Calls.quiet_of (HC6.out _)))
    go_wp2_with fail;go_ret;exact ⟨aF (by simp [jo,gt,ht']),below_drewN n1 nq⟩
  have ht:tg<64:=Decidable.not_not.1 htn;clear htn;by_cases han:¬(asd≤65535)
  ·have ha:¬(asd≤65535):=han;have ha':decide (asd≤65535)=false:=by simpa using ha
   cases p;all_goals
    go_enter Tryz.func101,Tryz.ntmps101;go_wp2_with fail;go_quiet (first
    | (go_at_call 84;exact Calls.quiet_of_same (aV 6 64 _ (by omega) rfl))
    | (go_at_call 104;exact Calls.quiet_of (HC5.out _))
    | (go_at_call 80;exact Calls.quiet_of (HC6.out _)))
    go_wp2_with fail;go_ret;exact ⟨aF (by simp [jo,gt,ht,ha']),below_drewN n1 nq⟩
  have ha:asd≤65535:=Decidable.not_not.1 han;clear han;cases p <;> cases gl <;> cases g5;all_goals
   go_enter Tryz.func101,Tryz.ntmps101;go_wp2_with fail;go_quiet (first
    | (go_at_call 84;exact Calls.quiet_of_same (aV 6 64 _ (by omega) rfl))
    | (go_at_call 104;exact Calls.quiet_of (HC5.out _))
    | (go_at_call 80;exact Calls.quiet_of (HC6.out _)))
   go_wp2_with fail;go_ret;exact ⟨aF (by simp [jo,gt,ht,ha]),below_drewN n1 nq⟩
 ·by_cases htn:¬(tg<8)
  ·have ht:¬(tg<8):=htn;have ht':decide (tg<8)=false:=by simpa using ht
   cases p;all_goals
    go_enter Tryz.func101,Tryz.ntmps101;go_wp2_with fail;go_quiet (first
    | (go_at_call 84;exact Calls.quiet_of_same (aV 3 8 _ (by omega) rfl))
    | (go_at_call 104;exact Calls.quiet_of (HC5.out _))
    | (go_at_call 80;exact Calls.quiet_of (HC6.out _)))
    go_wp2_with fail;go_ret;exact ⟨aF (by simp [jo,gt,ht']),below_drewN n1 nq⟩
  have ht:tg<8:=Decidable.not_not.1 htn;clear htn;by_cases han:¬(asd≤65535)
  ·have ha:¬(asd≤65535):=han;have ha':decide (asd≤65535)=false:=by simpa using ha
   cases p;all_goals
    go_enter Tryz.func101,Tryz.ntmps101;go_wp2_with fail;go_quiet (first
    | (go_at_call 84;exact Calls.quiet_of_same (aV 3 8 _ (by omega) rfl))
    | (go_at_call 104;exact Calls.quiet_of (HC5.out _))
    | (go_at_call 80;exact Calls.quiet_of (HC6.out _)))
    go_wp2_with fail;go_ret;exact ⟨aF (by simp [jo,gt,ht,ha']),below_drewN n1 nq⟩
  have ha:asd≤65535:=Decidable.not_not.1 han;clear han;cases p <;> cases gl <;> cases g5;all_goals
   go_enter Tryz.func101,Tryz.ntmps101;go_wp2_with fail;go_quiet (first
    | (go_at_call 84;exact Calls.quiet_of_same (aV 3 8 _ (by omega) rfl))
    | (go_at_call 104;exact Calls.quiet_of (HC5.out _))
    | (go_at_call 80;exact Calls.quiet_of (HC6.out _)))
   go_wp2_with fail;go_ret;exact ⟨aF (by simp [jo,gt,ht,ha]),below_drewN n1 nq⟩
end Go.Proofs.YthekickjjaleaaaGreat

namespace Go.Proofs.YthekickjjaleaaaGreat
open Go.RowKit
set_option linter.unusedVariables false
structure Lies (v:World) where
 w:World
 h:Below v.heap.size v w
theorem dZ (v:World):Nonempty (Lies v):=⟨⟨v,Below.refl _ _⟩⟩
theorem bP {P:Program} {f:FuncId} {args:Array Value} {v:World} (u:Lies v) {x:Value} (h:Calls P f args u.w fun e w'=>e=.returned x∧Below u.w.heap.size u.w w'):
 Calls P f args u.w fun e w''=>e=.returned x∧∃u':Lies v,w''=u'.w:=
 h.mono fun e w' ⟨he,hb⟩=>⟨he,⟨w',Below.step u.h hb (Nat.le_refl _)⟩,rfl⟩
theorem uc {P:Program} {f:FuncId} {args:Array Value} {v:World} (u:Lies v) {x:Value} (h:Calls P f args u.w fun e w'=>e=.returned x∧w'=u.w):
 Calls P f args u.w fun e w''=>e=.returned x∧∃u':Lies v,w''=u'.w:=
 h.mono fun e w' ⟨he,hb⟩=>⟨he,u,hb⟩
theorem pY {P:Program} {f:FuncId} {args:Array Value} {v:World} (u:Lies v) {x:Value} (h:Calls P f args u.w fun e w'=>e=.returned x∧∃n,w'=u.w.drewN n):
 Calls P f args u.w fun e w''=>e=.returned x∧∃u':Lies v,w''=u'.w:=
 h.mono fun e w' ⟨he,n,hb⟩=>⟨he,⟨w',by rw [hb];exact below_drewN u.h n⟩,rfl⟩
theorem aR {v:World} {b o:Nat} {x:Value} (hc:v.cell? ⟨b,o,none⟩=some x) (hb:b<v.heap.size) (u:Lies v):u.w.cell? ⟨b,o,none⟩=some x:=Below.cell2 u.h hc hb
theorem cC {P:Program} {id:Nat} {Q:Exit→Act→World→Prop} {a:Act} {w:World} {l:List Oper} (hm:P.follows .mixedOrders=true) (hB:Region.lexB .any l.toArray=true)
 (h:wpQuiet P l.toArray (fun w'=>∃u:Lies w,w'=u.w) (fun a'=>∀w',(∃u:Lies w,w'=u.w)→Q .normal a' w') l a):(Code.region id l.toArray true).wp P Q a w:=
 wp_region_quiet (C:=fun w'=>∃u:Lies w,w'=u.w) hm hB ⟨⟨w.drew,(Below.refl _ _).drew⟩,rfl⟩ (by simpa using h)
end Go.Proofs.YthekickjjaleaaaGreat
