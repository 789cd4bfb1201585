import Derived.Test.YtfgogedgolgnaaaGreatZk02
namespace Go.Proofs.YtfgogedgolgnaaaGreat
open Go.RowKit
set_option linter.unusedVariables false
set_option maxHeartbeats 6400000
set_option maxRecDepth 20000
theorem ek (zs:List Int) (va:Int):∀(l:Nat) (n:Int),(bb zs va l n).2.2.2.length<=l+1
 | 0,n=>by
  unfold bb;split
  ·simp
  ·split
   ·simp
   ·split <;> simp
 | l+1,n=>by
  unfold bb;split
  ·simp
  ·split
   ·simp
   ·split
    ·simp
    ·have:=ek zs va l (bj (rdV zs (64*n+8*bo va ((l+1:Nat):Int)) 8));simp only [List.length_cons];omega
theorem eF (a:Option Addr) (len cap:Nat) (zs:List Int) (va:Int) (hl:len<=1048576) (hc:len<=cap) (hm:cap<=9223372036854775807) (hv0:0<=va) (hv1:va<=18446744073709551615) (l:Nat):
 ∀(n lv:Int) (w:World),lv=l->l<=2->0<=n->n<17592186044416->Byt w a len zs->
 Calls Tryz.prog 27 #[.slice a len cap,.int .u64 n,.int .i64 lv,.int .u64 va] w fun e w'=>dC w.heap.size w' e (bb zs va l n)∧Below w.heap.size w w':=by
 induction l with
 | zero=>
  intro n lv w e hl2 hn0 hn1 hB;subst e;have hz:=hB.1;have hib:=fH va ((0:Nat):Int);have hrb:=fn zs (64*n+8*bo va ((0:Nat):Int)) 8 (by omega) hB.2.1;unfold bb;rw [hz];cases hg:bw len (64*n+8*bo va ((0:Nat):Int)) 8
  ·rw [if_pos rfl];exact fP a len cap zs va _ n _ _ w hl hc hm hv0 hv1 (by omega) (by omega) hn0 hn1 hB rfl hib rfl hrb hg
  ·rw [if_neg (by simp)];rcases eg (rdV zs (64*n+8*bo va ((0:Nat):Int)) 8) ((0:Nat):Int) with hk | hk | hk
   ·rw [if_pos hk];exact fQ a len cap zs va _ n _ _ w hl hc hm hv0 hv1 (by omega) (by omega) hn0 hn1 hB rfl hib rfl hrb hg hk
   ·exact absurd hk (da _)
   ·rw [if_neg (by rw [hk];decide),if_pos hk];exact fx a len cap zs va _ n _ _ w hl hc hm hv0 hv1 (by omega) (by omega) hn0 hn1 hB rfl hib rfl hrb hg hk
 | succ l ih=>
  intro n lv w e hl2 hn0 hn1 hB;subst e;have hz:=hB.1;have hib:=fH va ((l+1:Nat):Int);have hrb:=fn zs (64*n+8*bo va ((l+1:Nat):Int)) 8 (by omega) hB.2.1;unfold bb;rw [hz];cases hg:bw len (64*n+8*bo va ((l+1:Nat):Int)) 8
  ·rw [if_pos rfl];exact fP a len cap zs va _ n _ _ w hl hc hm hv0 hv1 (by omega) (by omega) hn0 hn1 hB rfl hib rfl hrb hg
  ·rw [if_neg (by simp)];rcases eg (rdV zs (64*n+8*bo va ((l+1:Nat):Int)) 8) ((l+1:Nat):Int) with hk | hk | hk
   ·rw [if_pos hk];exact fQ a len cap zs va _ n _ _ w hl hc hm hv0 hv1 (by omega) (by omega) hn0 hn1 hB rfl hib rfl hrb hg hk
   ·rw [if_neg (by rw [hk];decide),if_neg (by rw [hk];decide)];have hp:=eR (rdV zs (64*n+8*bo va ((l+1:Nat):Int)) 8);exact jt a len cap zs va _ n _ _ w hl hc hm hv0 hv1 (by omega) (by omega) hn0 hn1 hB rfl hib rfl hrb hg hk
     (bb zs va l (bj (rdV zs (64*n+8*bo va ((l+1:Nat):Int)) 8))) (by have:=ek zs va l (bj (rdV zs (64*n+8*bo va ((l+1:Nat):Int)) 8));omega) (by omega)
     (fun w' hB'=>ih _ _ w' (by omega) (by omega) hp.1 hp.2 hB')
   ·rw [if_neg (by rw [hk];decide),if_pos hk];exact fx a len cap zs va _ n _ _ w hl hc hm hv0 hv1 (by omega) (by omega) hn0 hn1 hB rfl hib rfl hrb hg hk
theorem eW (a:Option Addr) (len cap:Nat) (zs:List Int) (root va:Int) (w:World) (hl:len<=1048576) (hc:len<=cap) (hm:cap<=9223372036854775807) (hr0:0<=root) (hr1:root<=18446744073709551615) (hv0:0<=va) (hv1:va<=18446744073709551615) (hB:Byt w a len zs):
 Calls Tryz.prog 26 #[.slice a len cap,.int .u64 root,.int .u64 va] w fun e w'=>dC w.heap.size w' e (aQ zs root va)∧Below w.heap.size w w':=by
 have H8:Hid ((w.alloc (Obj.cells #[Value.int .i64 0,Value.int .i64 0,Value.int .u64 0,Value.slice none 0 0] 66)).heap[w.heap.size]?=some (.cells #[Value.int .i64 0,Value.int .i64 0,Value.int .u64 0,Value.slice none 0 0] 66 (0,0))):=heap_alloc_new _ _;have n1:=(Below.refl w.heap.size w).alloc (Nat.le_refl _) (Obj.cells #[Value.int .i64 0,Value.int .i64 0,Value.int .u64 0,Value.slice none 0 0] 66);have l1:w.heap.size<(w.alloc (Obj.cells #[Value.int .i64 0,Value.int .i64 0,Value.int .u64 0,Value.slice none 0 0] 66)).heap.size:=by simp
 unfold aQ;cases hcn:bH va
 ·rw [if_pos rfl];have HC:Hid (bH va=false):=hcn;clear hcn;go_enter Tryz.func26,Tryz.ntmps26;go_wp2_with fail;generalize w.alloc (Obj.cells #[Value.int .i64 0,Value.int .i64 0,Value.int .u64 0,Value.slice none 0 0] 66)=v1 at H8 n1 l1 |-;refine (bu va v1 hv0 hv1).mono ?_;rintro e w' ⟨rfl,nq,rfl⟩;rw [HC.out];have n2:Below w.heap.size w (v1.drewN nq):=below_drewN n1 nq;have H9:Hid ((v1.drewN nq).heap[w.heap.size]?=some (.cells #[Value.int .i64 0,Value.int .i64 0,Value.int .u64 0,Value.slice none 0 0] 66 (0,0))):=H8;generalize v1.drewN nq=v2 at n2 H9 |-;obtain ⟨⟨d0,d1,d2,d3⟩,e0,e1,e2,e3⟩:=ag H9.out;go_wp2_with fail;refine bodyPost_ret (v:=.agg #[.int .i64 2,.int .i64 2,.int .u64 0,.slice none 0 0]) (by simp [results,Tryz.results26,go_sem,d0,d1,d2,d3]) rfl ⟨⟨none,0,rfl,RowC.nil _ _ _,fun _=>⟨rfl,rfl⟩,(by intro q hq;cases hq),Nat.zero_le _⟩,dS n2 (Nat.le_refl _) _ _ _ _⟩
 ·rw [if_neg (by simp)];have HC:Hid (bH va=true):=hcn;clear hcn;obtain ⟨X,hX⟩:∃X,bb zs va 2 (root%17592186044416)=X:=⟨_,rfl⟩;have HX:Hid (bb zs va 2 (root%17592186044416)=X):=hX;rw [hX];clear hX;obtain ⟨x1,x2,x3,rs⟩:=X;go_enter Tryz.func26,Tryz.ntmps26;go_wp2_with fail;generalize w.alloc (Obj.cells #[Value.int .i64 0,Value.int .i64 0,Value.int .u64 0,Value.slice none 0 0] 66)=v1 at H8 n1 l1 |-;refine (bu va v1 hv0 hv1).mono ?_;rintro e w' ⟨rfl,nq,rfl⟩;rw [HC.out];have n2:Below w.heap.size w (v1.drewN nq):=below_drewN n1 nq;have H9:Hid ((v1.drewN nq).heap[w.heap.size]?=some (.cells #[Value.int .i64 0,Value.int .i64 0,Value.int .u64 0,Value.slice none 0 0] 66 (0,0))):=H8;have l2:w.heap.size<(v1.drewN nq).heap.size:=l1;generalize v1.drewN nq=v2 at n2 H9 l2 |-;clear n1 H8 l1;go_wp2_with fail;refine (aM root 0 43 1 17592186044416 v2 hr0 hr1 (by omega) (by omega) (by omega) (by omega) rfl rfl).mono ?_;rintro e w' ⟨rfl,nr,rfl⟩;have n3:Below w.heap.size w (v2.drewN nr):=below_drewN n2 nr;have H10:Hid ((v2.drewN nr).heap[w.heap.size]?=some (.cells #[Value.int .i64 0,Value.int .i64 0,Value.int .u64 0,Value.slice none 0 0] 66 (0,0))):=H9;have l3:w.heap.size<(v2.drewN nr).heap.size:=l2;generalize v2.drewN nr=v3 at n3 H10 l3 |-;clear n2 H9 l2;rw [Int.ediv_one];have hb0:0<=root%17592186044416∧root%17592186044416<17592186044416:=⟨Int.emod_nonneg _ (by omega),Int.emod_lt_of_pos _ (by omega)⟩;go_wp2_with fail;refine (eF a len cap zs va hl hc hm hv0 hv1 2 _ 2 v3 rfl (by omega) hb0.1 hb0.2 (hB.keep n3)).mono ?_;rintro e v4 ⟨hw,n4⟩;rw [HX.out] at hw;obtain ⟨a4,c4,rfl,r4,na4,sp4,nc4⟩:=hw;simp only at r4 na4 nc4 |-;have n14:=Below.step n3 n4 (Nat.le_refl _);have H11:Hid _:=aC H10.out n4 l3;have l4:w.heap.size<v4.heap.size:=Nat.lt_of_lt_of_le l3 n4.size;obtain ⟨⟨d0,d1,d2,d3⟩,e0,e1,e2,e3⟩:=ag (aC H10.out n4 l3);have HR4:Hid (RowC v4 a4 rs.length 3 (aP rs)):=r4;have HN4:Hid (a4=none->rs.length=0∧c4=0):=na4;have HS4:Hid (∀q,a4=some q->q.spot=none∧v3.heap.size<=q.block):=sp4;clear r4 na4 sp4 H10 H11 n3 n4;go_wp2_with fail;refine bodyPost_ret (v:=.agg #[.int .i64 x1,.int .i64 x2,.int .u64 x3,.slice a4 rs.length c4]) (by simp [results,Tryz.results26,go_sem,d0,d1,d2,d3]) rfl ⟨⟨a4,c4,rfl,RowC.gb' HR4.out (gb4 v4 w.heap.size _ _ _ _) (fun q hq=>by have:=(HS4.out q hq).2;omega),HN4.out,(fun q hq=>⟨(HS4.out q hq).1,by have:=(HS4.out q hq).2;omega⟩),nc4⟩,dS n14 (Nat.le_refl _) _ _ _ _⟩
section
attribute [local go_sem ↓] Go.wp_at_zero Go.wp_at_succ
def bC (mode:Int) (sum mxr:Bool) (satp:Int):Value:=.agg #[.int .i64 mode,.bool sum,.bool mxr,.int .u64 satp]
theorem ej (mode:Int) (sum mxr:Bool) (satp:Int) (w:World) (h0:0<=satp) (h1:satp<=18446744073709551615):
 Calls Tryz.prog 20 #[bC mode sum mxr satp] w fun e w'=>e=.returned (.bool (onM mode satp))∧Below w.heap.size w w':=by
 unfold bC;have a1:=bm w #[.int .i64 mode,.bool sum,.bool mxr,.int .u64 satp] 41;go_enter Tryz.func20,Tryz.ntmps20;go_wp2_with fail;generalize w.alloc (Obj.cells #[.int .i64 mode,.bool sum,.bool mxr,.int .u64 satp] 41)=v1 at a1 |-;obtain ⟨l1,c1,n1⟩:=a1;have c10:v1.cell? ⟨w.heap.size,0,none⟩=some (.int .i64 mode):=c1 0;clear c1;refine (aM satp 60 63 1152921504606846976 16 v1 h0 h1 (by omega) (by omega) (by omega) (by omega) rfl rfl).mono ?_;rintro e w' ⟨rfl,nq,rfl⟩;cases hs:(satp/1152921504606846976%16 == 8)
 ·go_wp2_with fail;go_ret;exact ⟨ah (by simp [onM,hs]),below_drewN n1 nq⟩
 ·cases hm0:(mode == 0)
  ·go_wp2_with fail;go_ret;exact ⟨ah (by simp [onM,hs,hm0]),below_drewN n1 nq⟩
  ·go_wp2_with fail;go_ret;exact ⟨ah (by simp [onM,hs,hm0]),below_drewN n1 nq⟩
theorem dz (satp:Int) (w:World) (h0:0<=satp) (h1:satp<=18446744073709551615):
 Calls Tryz.prog 24 #[.int .u64 satp] w fun e w'=>e=.returned (.int .u64 (au satp))∧∃n,w'=w.drewN n:=by
 go_enter Tryz.func24,Tryz.ntmps24;go_wp2_with fail;refine (aM satp 44 59 17592186044416 65536 w h0 h1 (by omega) (by omega) (by omega) (by omega) rfl rfl).mono ?_;rintro e w' ⟨rfl,nq,rfl⟩;go_wp2_with fail;go_ret;exact ⟨rfl,nq,rfl⟩
theorem dc (kind:Int) (w:World):Calls Tryz.prog 22 #[.int .i64 kind] w fun e w'=>e=.returned (.int .i64 (ck kind))∧w'=w:=by
 by_cases k0:kind=0
 ·subst k0;go_enter Tryz.func22,Tryz.ntmps22;go_wp2_with fail;go_ret;exact ⟨rfl,rfl⟩
 by_cases k1:kind=1
 ·subst k1;go_enter Tryz.func22,Tryz.ntmps22;go_wp2_with fail;go_ret;exact ⟨rfl,rfl⟩
 have k0':(kind == 0)=false:=by simpa using k0
 have k1':(kind == 1)=false:=by simpa using k1
 go_enter Tryz.func22,Tryz.ntmps22;go_wp2_with fail;go_ret;exact ⟨aU (by simp [ck,k0,k1]),rfl⟩
theorem fp (kind:Int) (w:World):Calls Tryz.prog 58 #[.int .i64 kind] w fun e w'=>e=.returned (.int .i64 (bN kind))∧w'=w:=by
 by_cases k0:kind=0
 ·subst k0;go_enter Tryz.func58,Tryz.ntmps58;go_wp2_with fail;go_ret;exact ⟨rfl,rfl⟩
 by_cases k1:kind=1
 ·subst k1;go_enter Tryz.func58,Tryz.ntmps58;go_wp2_with fail;go_ret;exact ⟨rfl,rfl⟩
 have k0':(kind == 0)=false:=by simpa using k0
 have k1':(kind == 1)=false:=by simpa using k1
 go_enter Tryz.func58,Tryz.ntmps58;go_wp2_with fail;go_ret;exact ⟨aU (by simp [bN,k0,k1]),rfl⟩
def eC (r:Int × Int):Value:=.agg #[.int .i64 r.1,.int .u64 r.2]
theorem kC {w:World} {g:Nat} {T:TypeId} {a b:Value} (h:w.heap[g]?=some (.cells #[a,b] T (0,0))):
 (w.cell? ⟨g,0,none⟩=some a∧w.cell? ⟨g,1,none⟩=some b)∧w.frozen? ⟨g,0,none⟩=false∧w.frozen? ⟨g,1,none⟩=false:=by
 simp [World.cell?,World.frozen?,h]
theorem mm {B:Nat} {a w:World} {g:Nat} (h:Below B a w) (hg:B<=g) (x y:Value):Below B a ((w.setCell ⟨g,0,none⟩ x).setCell ⟨g,1,none⟩ y):=
 (h.setCell (p:=⟨g,0,none⟩) hg x).setCell (p:=⟨g,1,none⟩) hg y
theorem eD (pte level mode:Int) (sum mxr:Bool) (satp kind va:Int) (w:World) (h0:0<=pte) (h1:pte<=18446744073709551615) (hv:0<=va) (hv':va<=18446744073709551615) (hl: -9223372036854775808<=level) (hl':level<=9223372036854775807):
 Calls Tryz.prog 25 #[.int .u64 pte,.int .i64 level,bC mode sum mxr satp,.int .i64 kind,.int .u64 va] w fun e w'=>e=.returned (eC (ct pte level mode sum mxr kind va))∧Below w.heap.size w w':=by
 unfold bC ct;cases hg:aY pte kind mode sum mxr
 ·rw [if_neg (by simp)];have HG:Hid (aY pte kind mode sum mxr=false):=hg;clear hg;go_enter Tryz.func25,Tryz.ntmps25;go_wp2_with fail;refine (dW pte kind mode sum mxr _ h0 h1).mono ?_;rintro e w' ⟨rfl,nq,rfl⟩;rw [HG.out];go_wp2_with (go_at_call 22;refine (dc kind _).mono ?_;rintro e w' ⟨rfl,rfl⟩);exact bodyPost_ret (v:=.agg #[.int .i64 (ck kind),.int .u64 0]) (by simp [results,Tryz.results25,go_sem]) rfl ⟨rfl,mm (below_drewN (((Below.refl _ _).alloc (Nat.le_refl _) _).alloc (by simp) _) nq) (Nat.le_succ _) _ _⟩
 ·rw [if_pos rfl];have HG:Hid (aY pte kind mode sum mxr=true):=hg;clear hg;go_enter Tryz.func25,Tryz.ntmps25;go_wp2_with fail;refine (dW pte kind mode sum mxr _ h0 h1).mono ?_;rintro e w' ⟨rfl,nq,rfl⟩;rw [HG.out];go_wp2_with (go_at_call 51;refine (gJ pte level va _ h0 h1 hv hv' hl hl').mono ?_;rintro e w' ⟨rfl,nr,rfl⟩);exact bodyPost_ret (v:=.agg #[.int .i64 0,.int .u64 (cz pte level va)]) (by simp [results,Tryz.results25,go_sem]) rfl ⟨rfl,mm (below_drewN (((Below.refl _ _).alloc (Nat.le_refl _) _).alloc (by simp) _) (nq+nr)) (Nat.le_succ _) _ _⟩
theorem eU (r:Int × Int × Int × List bF) (v:Value) (mode:Int) (sum mxr:Bool) (satp kind va:Int) (w:World) (h0:0<=r.2.2.1) (h1:r.2.2.1<=18446744073709551615) (hv:0<=va) (hv':va<=18446744073709551615) (hl:0<=r.2.1) (hl':r.2.1<=2) (ho:v.oneCell'=true):
 Calls Tryz.prog 32 #[.agg #[.int .i64 r.1,.int .i64 r.2.1,.int .u64 r.2.2.1,v],bC mode sum mxr satp,.int .i64 kind,.int .u64 va] w fun e w'=>e=.returned (eC (bx r mode sum mxr kind va))∧Below w.heap.size w w':=by
 obtain ⟨c,l,p,rs⟩:=r;simp only at h0 h1 hl hl' |-;unfold bx;simp only;by_cases c2:c=2
 ·subst c2;rw [if_pos rfl];unfold bC;go_enter Tryz.func32,Tryz.ntmps32;go_wp2_with (go_at_call 22;refine (dc kind _).mono ?_;rintro e w' ⟨rfl,rfl⟩);exact bodyPost_ret (v:=.agg #[.int .i64 (ck kind),.int .u64 0]) (by simp [results,Tryz.results32,go_sem]) rfl ⟨rfl,(((Below.refl _ _).alloc (Nat.le_refl _) _).alloc (by simp) _).alloc (by simp;omega) _⟩
 rw [if_neg c2];have c2':(c == 2)=false:=by simpa using c2
 by_cases c3:c=3
 ·subst c3;rw [if_pos rfl];clear c2 c2';unfold bC;go_enter Tryz.func32,Tryz.ntmps32;go_wp2_with (go_at_call 58;refine (fp kind _).mono ?_;rintro e w' ⟨rfl,rfl⟩);exact bodyPost_ret (v:=.agg #[.int .i64 (bN kind),.int .u64 0]) (by simp [results,Tryz.results32,go_sem]) rfl ⟨rfl,(((Below.refl _ _).alloc (Nat.le_refl _) _).alloc (by simp) _).alloc (by simp;omega) _⟩
 rw [if_neg c3];have c3':(c == 3)=false:=by simpa using c3
 clear c2 c3;obtain ⟨⟨x1,x2⟩,hX⟩:∃X,ct p l mode sum mxr kind va=X:=⟨_,rfl⟩;rw [hX];have HX:Hid (ct p l mode sum mxr kind va=(x1,x2)):=hX;clear hX;have n1:=(((Below.refl w.heap.size w).alloc (Nat.le_refl _) (Obj.cells #[.int .i64 c,.int .i64 l,.int .u64 p,v] 66)).alloc (by simp) (Obj.cells #[.int .i64 mode,.bool sum,.bool mxr,.int .u64 satp] 41)).alloc (by simp;omega) (Obj.cells #[.int .i64 0,.int .u64 0] 62);have H1:Hid (((((w.alloc (Obj.cells #[.int .i64 c,.int .i64 l,.int .u64 p,v] 66)).alloc (Obj.cells #[.int .i64 mode,.bool sum,.bool mxr,.int .u64 satp] 41)).alloc (Obj.cells #[.int .i64 0,.int .u64 0] 62))).heap[w.heap.size+1+1]?=some (.cells #[.int .i64 0,.int .u64 0] 62 (0,0))):=by
  have:=heap_alloc_new ((w.alloc (Obj.cells #[.int .i64 c,.int .i64 l,.int .u64 p,v] 66)).alloc (Obj.cells #[.int .i64 mode,.bool sum,.bool mxr,.int .u64 satp] 41)) (Obj.cells #[.int .i64 0,.int .u64 0] 62);simp only [World.size_alloc] at this;exact this
 have l1:w.heap.size+1+1<((((w.alloc (Obj.cells #[.int .i64 c,.int .i64 l,.int .u64 p,v] 66)).alloc (Obj.cells #[.int .i64 mode,.bool sum,.bool mxr,.int .u64 satp] 41)).alloc (Obj.cells #[.int .i64 0,.int .u64 0] 62))).heap.size:=by simp
 unfold bC;go_enter Tryz.func32,Tryz.ntmps32;go_wp2_with fail;generalize ((w.alloc (Obj.cells #[.int .i64 c,.int .i64 l,.int .u64 p,v] 66)).alloc (Obj.cells #[.int .i64 mode,.bool sum,.bool mxr,.int .u64 satp] 41)).alloc (Obj.cells #[.int .i64 0,.int .u64 0] 62)=v1 at n1 H1 l1 |-;refine (eD p l mode sum mxr satp kind va v1 h0 h1 hv hv' (by omega) (by omega)).mono ?_;rw [HX.out];rintro e v2 ⟨rfl,n2⟩;have n12:=Below.step n1 n2 (Nat.le_refl _);obtain ⟨⟨d0,d1⟩,e0,e1⟩:=kC (aC H1.out n2 l1);unfold eC;simp only;clear n1 n2 H1;go_wp2_with fail;exact bodyPost_ret (v:=.agg #[.int .i64 x1,.int .u64 x2]) (by simp [results,Tryz.results32,go_sem,d0,d1]) rfl ⟨rfl,mm n12 (by omega) _ _⟩
theorem fY (zs:List Int) (va:Int) (h:∀i:Nat,0<=zs[i]?.getD 0∧zs[i]?.getD 0<=255):∀(l:Nat) (n:Int),l<=2->
 0<=(bb zs va l n).2.2.1∧(bb zs va l n).2.2.1<=18446744073709551615∧0<=(bb zs va l n).2.1∧(bb zs va l n).2.1<=2
 | 0,n,hl=>by
  unfold bb;have hb:=fn zs (64*n+8*bo va ((0:Nat):Int)) 8 (by omega) h;split
  ·simp
  ·split
   ·simp
   ·split
    ·exact ⟨hb.1,hb.2,by simp,by simp⟩
    ·simp
 | l+1,n,hl=>by
  unfold bb;have hb:=fn zs (64*n+8*bo va ((l+1:Nat):Int)) 8 (by omega) h;split
  ·exact ⟨by simp,by simp,by show (0:Int)<=((l+1:Nat):Int);omega,by show ((l+1:Nat):Int)<=2;omega⟩
  ·split
   ·exact ⟨by simp,by simp,by show (0:Int)<=((l+1:Nat):Int);omega,by show ((l+1:Nat):Int)<=2;omega⟩
   ·split
    ·exact ⟨hb.1,hb.2,by show (0:Int)<=((l+1:Nat):Int);omega,by show ((l+1:Nat):Int)<=2;omega⟩
    ·exact fY zs va h l _ (by omega)
theorem kT (zs:List Int) (root va:Int) (h:∀i:Nat,0<=zs[i]?.getD 0∧zs[i]?.getD 0<=255):
 0<=(aQ zs root va).2.2.1∧(aQ zs root va).2.2.1<=18446744073709551615∧0<=(aQ zs root va).2.1∧(aQ zs root va).2.1<=2:=by
 unfold aQ;split
 ·simp
 ·exact fY zs va h 2 _ (by omega)
end
structure EntM where
 valid:Bool
 level:Int
 tag:Int
 asid:Int
 glob:Bool
 pte:Int
def aZ:EntM:=⟨false,0,0,0,false,0⟩
structure TlbM where
 sets:Int
 ways:Int
 es:List EntM
def bP (va level:Int):Int:=if level=0 then va/64%512 else if level=1 then va/512%64 else va/4096%8
def dN (level:Int):Int:=if level=0 then 512 else if level=1 then 64 else 8
def cM (p:Bool):Int:=if p=true then 1 else 2
def ay (e:EntM) (p:Bool):Bool:=
 e.valid && decide (0<=e.level) && decide (e.level<=2) && decide (e.tag<dN e.level) && decide (e.asid<=65535) && (e.glob == aI e.pte 32) && (aH e.pte e.level == cM p)
def bf (e:EntM):Prop:=
 (-9223372036854775808<=e.level∧e.level<=9223372036854775807)∧(0<=e.tag∧e.tag<=18446744073709551615)∧(0<=e.asid∧e.asid<=18446744073709551615)∧(0<=e.pte∧e.pte<=18446744073709551615)
def cJ (e:EntM):List Value:=[.bool e.valid,.int .i64 e.level,.int .u64 e.tag,.int .u64 e.asid,.bool e.glob,.int .u64 e.pte]
def cV (e:EntM):Value:=.agg #[.bool e.valid,.int .i64 e.level,.int .u64 e.tag,.int .u64 e.asid,.bool e.glob,.int .u64 e.pte]
theorem jl (va level:Int) (w:World) (h0:0<=va) (h1:va<=18446744073709551615) (hl:0<=level) (hl':level<=2):
 Calls Tryz.prog 57 #[.int .u64 va,.int .i64 level] w fun e w'=>e=.returned (.int .u64 (bP va level))∧∃n,w'=w.drewN n:=by
 rcases (show level=0∨level=1∨level=2 by omega) with rfl | rfl | rfl
 ·go_enter Tryz.func57,Tryz.ntmps57;go_wp2_with fail;refine (aM va 6 14 64 512 w h0 h1 (by omega) (by omega) (by omega) (by omega) rfl rfl).mono ?_;rintro e w' ⟨rfl,nq,rfl⟩;go_wp2_with fail;go_ret;exact ⟨rfl,nq,rfl⟩
 ·go_enter Tryz.func57,Tryz.ntmps57;go_wp2_with fail;refine (aM va 9 14 512 64 w h0 h1 (by omega) (by omega) (by omega) (by omega) rfl rfl).mono ?_;rintro e w' ⟨rfl,nq,rfl⟩;go_wp2_with fail;go_ret;exact ⟨rfl,nq,rfl⟩
 ·go_enter Tryz.func57,Tryz.ntmps57;go_wp2_with fail;refine (aM va 12 14 4096 8 w h0 h1 (by omega) (by omega) (by omega) (by omega) rfl rfl).mono ?_;rintro e w' ⟨rfl,nq,rfl⟩;go_wp2_with fail;go_ret;exact ⟨rfl,nq,rfl⟩
theorem ce (x:EntM) (p:Bool) (w:World) (hx:bf x):
 Calls Tryz.prog 56 #[cV x,.bool p] w fun e w'=>e=.returned (.bool (ay x p))∧Below w.heap.size w w':=by
 obtain ⟨v,lv,tg,asd,gl,pt⟩:=x;obtain ⟨⟨a1,a2⟩,⟨b1,b2⟩,⟨c1,c2⟩,d1,d2⟩:=hx;simp only at a1 a2 b1 b2 c1 c2 d1 d2;unfold cV ay;simp only;have n1:=(Below.refl w.heap.size w).alloc (Nat.le_refl _) (Obj.cells #[.bool v,.int .i64 lv,.int .u64 tg,.int .u64 asd,.bool gl,.int .u64 pt] 74);cases v
 ·cases p;all_goals
   go_enter Tryz.func56,Tryz.ntmps56;go_wp2_with fail;go_quiet (fail);go_wp2_with fail;go_ret;exact ⟨ah (by simp),below_drewN n1 nq⟩
 by_cases h0n:¬(0<=lv)
 ·have h0:¬(0<=lv):=h0n;have h0':decide (0<=lv)=false:=by simpa using h0
  cases p;all_goals
   go_enter Tryz.func56,Tryz.ntmps56;go_wp2_with fail;go_quiet (fail);go_wp2_with fail;go_ret;exact ⟨ah (by simp [h0']),below_drewN n1 nq⟩
 have h0:0<=lv:=Decidable.not_not.1 h0n;clear h0n;by_cases h2n:¬(lv<=2)
 ·have h2:¬(lv<=2):=h2n;have h2':decide (lv<=2)=false:=by simpa using h2
  cases p;all_goals
   go_enter Tryz.func56,Tryz.ntmps56;go_wp2_with fail;go_quiet (fail);go_wp2_with fail;go_ret;exact ⟨ah (by simp [h2']),below_drewN n1 nq⟩
 have h2:lv<=2:=Decidable.not_not.1 h2n;clear h2n;obtain ⟨g5,hg5⟩:∃g5,aI pt 32=g5:=⟨_,rfl⟩;obtain ⟨kd,hkd⟩:∃kd,aH pt lv=kd:=⟨_,rfl⟩;rw [hg5,hkd];have HC5:Hid (∀w:World,Calls Tryz.prog 55 #[.int .u64 pt,.int .i64 5] w fun e w'=>e=.returned (.bool g5)∧∃n,w'=w.drewN n):=fun w=>by
  have:=aN pt 5 32 w d1 d2 (by omega) (by omega) rfl;rw [hg5] at this;exact this
 have HC6:Hid (∀w:World,Calls Tryz.prog 29 #[.int .u64 pt,.int .i64 lv] w fun e w'=>e=.returned (.int .i64 kd)∧∃n,w'=w.drewN n):=fun w=>by
  have:=bT pt lv w d1 d2 a1 a2;rw [hkd] at this;exact this
 clear hg5 hkd;rcases (show lv=0∨lv=1∨lv=2 by omega) with rfl | rfl | rfl
 ·by_cases htn:¬(tg<512)
  ·have ht:¬(tg<512):=htn;have ht':decide (tg<512)=false:=by simpa using ht
   cases p;all_goals
    go_enter Tryz.func56,Tryz.ntmps56;go_wp2_with fail;go_quiet (first
    | (go_at_call 47;exact Calls.quiet_of_same (aS 9 512 _ (by omega) rfl))
    | (go_at_call 55;exact Calls.quiet_of (HC5.out _))
    | (go_at_call 29;exact Calls.quiet_of (HC6.out _)))
    go_wp2_with fail;go_ret;exact ⟨ah (by simp [dN,cM,ht']),below_drewN n1 nq⟩
  have ht:tg<512:=Decidable.not_not.1 htn;clear htn;by_cases han:¬(asd<=65535)
  ·have ha:¬(asd<=65535):=han;have ha':decide (asd<=65535)=false:=by simpa using ha
   cases p;all_goals
    go_enter Tryz.func56,Tryz.ntmps56;go_wp2_with fail;go_quiet (first
    | (go_at_call 47;exact Calls.quiet_of_same (aS 9 512 _ (by omega) rfl))
    | (go_at_call 55;exact Calls.quiet_of (HC5.out _))
    | (go_at_call 29;exact Calls.quiet_of (HC6.out _)))
    go_wp2_with fail;go_ret;exact ⟨ah (by simp [dN,cM,ht,ha']),below_drewN n1 nq⟩
  have ha:asd<=65535:=Decidable.not_not.1 han;clear han;cases p <;> cases gl <;> cases g5;all_goals
   go_enter Tryz.func56,Tryz.ntmps56;go_wp2_with fail;go_quiet (first
    | (go_at_call 47;exact Calls.quiet_of_same (aS 9 512 _ (by omega) rfl))
    | (go_at_call 55;exact Calls.quiet_of (HC5.out _))
    | (go_at_call 29;exact Calls.quiet_of (HC6.out _)))
   go_wp2_with fail;go_ret;exact ⟨ah (by simp [dN,cM,ht,ha]),below_drewN n1 nq⟩
 ·by_cases htn:¬(tg<64)
  ·have ht:¬(tg<64):=htn;have ht':decide (tg<64)=false:=by simpa using ht
   cases p;all_goals
    go_enter Tryz.func56,Tryz.ntmps56;go_wp2_with fail;go_quiet (first
    | (go_at_call 47;exact Calls.quiet_of_same (aS 6 64 _ (by omega) rfl))
    | (go_at_call 55;exact Calls.quiet_of (HC5.out _))
    | (go_at_call 29;exact Calls.quiet_of (HC6.out _)))
    go_wp2_with fail;go_ret;exact ⟨ah (by simp [dN,cM,ht']),below_drewN n1 nq⟩
  have ht:tg<64:=Decidable.not_not.1 htn;clear htn;by_cases han:¬(asd<=65535)
  ·have ha:¬(asd<=65535):=han;have ha':decide (asd<=65535)=false:=by simpa using ha
   cases p;all_goals
    go_enter Tryz.func56,Tryz.ntmps56;go_wp2_with fail;go_quiet (first
    | (go_at_call 47;exact Calls.quiet_of_same (aS 6 64 _ (by omega) rfl))
    | (go_at_call 55;exact Calls.quiet_of (HC5.out _))
    | (go_at_call 29;exact Calls.quiet_of (HC6.out _)))
    go_wp2_with fail;go_ret;exact ⟨ah (by simp [dN,cM,ht,ha']),below_drewN n1 nq⟩
  have ha:asd<=65535:=Decidable.not_not.1 han;clear han;cases p <;> cases gl <;> cases g5;all_goals
   go_enter Tryz.func56,Tryz.ntmps56;go_wp2_with fail;go_quiet (first
    | (go_at_call 47;exact Calls.quiet_of_same (aS 6 64 _ (by omega) rfl))
    | (go_at_call 55;exact Calls.quiet_of (HC5.out _))
    | (go_at_call 29;exact Calls.quiet_of (HC6.out _)))
   go_wp2_with fail;go_ret;exact ⟨ah (by simp [dN,cM,ht,ha]),below_drewN n1 nq⟩
 ·by_cases htn:¬(tg<8)
  ·have ht:¬(tg<8):=htn;have ht':decide (tg<8)=false:=by simpa using ht
   cases p;all_goals
    go_enter Tryz.func56,Tryz.ntmps56;go_wp2_with fail;go_quiet (first
    | (go_at_call 47;exact Calls.quiet_of_same (aS 3 8 _ (by omega) rfl))
    | (go_at_call 55;exact Calls.quiet_of (HC5.out _))
    | (go_at_call 29;exact Calls.quiet_of (HC6.out _)))
    go_wp2_with fail;go_ret;exact ⟨ah (by simp [dN,cM,ht']),below_drewN n1 nq⟩
  have ht:tg<8:=Decidable.not_not.1 htn;clear htn;by_cases han:¬(asd<=65535)
  ·have ha:¬(asd<=65535):=han;have ha':decide (asd<=65535)=false:=by simpa using ha
   cases p;all_goals
    go_enter Tryz.func56,Tryz.ntmps56;go_wp2_with fail;go_quiet (first
    | (go_at_call 47;exact Calls.quiet_of_same (aS 3 8 _ (by omega) rfl))
    | (go_at_call 55;exact Calls.quiet_of (HC5.out _))
    | (go_at_call 29;exact Calls.quiet_of (HC6.out _)))
    go_wp2_with fail;go_ret;exact ⟨ah (by simp [dN,cM,ht,ha']),below_drewN n1 nq⟩
  have ha:asd<=65535:=Decidable.not_not.1 han;clear han;cases p <;> cases gl <;> cases g5;all_goals
   go_enter Tryz.func56,Tryz.ntmps56;go_wp2_with fail;go_quiet (first
    | (go_at_call 47;exact Calls.quiet_of_same (aS 3 8 _ (by omega) rfl))
    | (go_at_call 55;exact Calls.quiet_of (HC5.out _))
    | (go_at_call 29;exact Calls.quiet_of (HC6.out _)))
   go_wp2_with fail;go_ret;exact ⟨ah (by simp [dN,cM,ht,ha]),below_drewN n1 nq⟩
structure Lies (v:World) where
 w:World
 h:Below v.heap.size v w
theorem aT (v:World):Nonempty (Lies v):=⟨⟨v,Below.refl _ _⟩⟩
theorem ao {P:Program} {f:FuncId} {args:Array Value} {v:World} (u:Lies v) {x:Value} (h:Calls P f args u.w fun e w'=>e=.returned x∧Below u.w.heap.size u.w w'):
 Calls P f args u.w fun e w''=>e=.returned x∧∃u':Lies v,w''=u'.w:=
 h.mono fun e w' ⟨he,hb⟩=>⟨he,⟨w',Below.step u.h hb (Nat.le_refl _)⟩,rfl⟩
theorem kr {P:Program} {f:FuncId} {args:Array Value} {v:World} (u:Lies v) {x:Value} (h:Calls P f args u.w fun e w'=>e=.returned x∧w'=u.w):
 Calls P f args u.w fun e w''=>e=.returned x∧∃u':Lies v,w''=u'.w:=
 h.mono fun e w' ⟨he,hb⟩=>⟨he,u,hb⟩
theorem ee {P:Program} {f:FuncId} {args:Array Value} {v:World} (u:Lies v) {x:Value} (h:Calls P f args u.w fun e w'=>e=.returned x∧∃n,w'=u.w.drewN n):
 Calls P f args u.w fun e w''=>e=.returned x∧∃u':Lies v,w''=u'.w:=
 h.mono fun e w' ⟨he,n,hb⟩=>⟨he,⟨w',by rw [hb];exact below_drewN u.h n⟩,rfl⟩
theorem af {v:World} {b o:Nat} {x:Value} (hc:v.cell? ⟨b,o,none⟩=some x) (hb:b<v.heap.size) (u:Lies v):u.w.cell? ⟨b,o,none⟩=some x:=Below.cell2 u.h hc hb
theorem am {P:Program} {id:Nat} {Q:Exit->Act->World->Prop} {a:Act} {w:World} {l:List Oper} (hm:P.follows .mixedOrders=true) (hB:Region.lexB .any l.toArray=true)
 (h:wpQuiet P l.toArray (fun w'=>∃u:Lies w,w'=u.w) (fun a'=>∀w',(∃u:Lies w,w'=u.w)->Q .normal a' w') l a):(Code.region id l.toArray true).wp P Q a w:=
 wp_region_quiet (C:=fun w'=>∃u:Lies w,w'=u.w) hm hB ⟨⟨w.drew,(Below.refl _ _).drew⟩,rfl⟩ (by simpa using h)
section
attribute [local go_sem ↓] Go.wp_at_zero Go.wp_at_succ
def al:List EntM->List Value
 | []=>[]
 | e::r=>cJ e++al r
def TlbAt (w:World) (v:Value) (t:TlbM):Prop:=
 ∃a cap,v=.agg #[.int .i64 t.sets,.int .i64 t.ways,.slice a t.es.length cap]∧RowC w a t.es.length 6 (al t.es)∧(∀e∈t.es,bf e)∧
  (-9223372036854775808<=t.sets∧t.sets<=9223372036854775807)∧(-9223372036854775808<=t.ways∧t.ways<=9223372036854775807)∧t.es.length<=1048576∧t.es.length<=cap∧cap<=9223372036854775807∧(a=none->t.es.length=0∧cap=0)∧(∀q,a=some q->q.spot=none)
theorem bQ:∀es:List EntM,(al es).length=es.length*6
 | []=>rfl
 | e::r=>by simp [al,cJ,bQ r];omega
theorem dU:∀(es:List EntM) (i j:Nat) (hi:i<es.length),j<6->(al es)[i*6+j]?=(cJ es[i])[j]?
 | e::r,0,j,hi,hj=>by
  simp only [al,List.getElem_cons_zero,Nat.zero_mul,Nat.zero_add];rw [List.getElem?_append_left (by simp [cJ];exact hj)]
 | e::r,i+1,j,hi,hj=>by
  simp only [al,List.getElem_cons_succ];rw [List.getElem?_append_right (by simp [cJ];omega)];have:(i+1)*6+j-(cJ e).length=i*6+j:=by simp [cJ];omega
  rw [this];exact dU r i j (by simpa using hi) hj
def dm (t:TlbM):Bool:=decide ((t.sets=1∨t.sets=2∨t.sets=4∨t.sets=8)∧1<=t.ways∧t.ways<=4∧(t.es.length:Int)=t.sets*t.ways)
def aB (t:TlbM) (p:Bool) (i:Nat) (e:EntM):Bool:=
 (e.valid == false && e.level == 0 && e.tag == 0 && e.asid == 0 && e.glob == false && e.pte == 0) || (ay e p && (e.tag%t.sets == (i:Int)/t.ways))
def bq (t:TlbM) (p:Bool):Nat->List EntM->Bool
 | _,[]=>true
 | i,e::r=>aB t p i e && bq t p (i+1) r
def aA (t:TlbM) (p:Bool):Bool:=dm t && bq t p 0 t.es
theorem bI (t:TlbM) (p:Bool):∀(es:List EntM) (i:Nat),(∀j x,es[j]?=some x->aB t p (i+j) x=true)->bq t p i es=true
 | [],i,h=>rfl
 | e::r,i,h=>by
  simp only [bq,Bool.and_eq_true];refine ⟨by simpa using h 0 e rfl,bI t p r (i+1) (fun j x hx=>?_)⟩;have:=h (j+1) x (by simpa using hx);rw [show i+1+j=i+(j+1) by omega];exact this
theorem bL (t:TlbM) (p:Bool):∀(es:List EntM) (i j:Nat) (x:EntM),es[j]?=some x->aB t p (i+j) x=false->bq t p i es=false
 | e::r,i,0,x,hx,h=>by
  simp at hx;subst hx;simp only [bq,Nat.add_zero] at h |-;rw [h];rfl
 | e::r,i,j+1,x,hx,h=>by
  simp only [bq];rw [bL t p r (i+1) j x (by simpa using hx) (by rw [show i+1+j=i+(j+1) by omega];exact h),Bool.and_false]
theorem dV {x:EntM} {p:Bool} (h:ay x p=true):x.tag<512:=by
 simp only [ay,Bool.and_eq_true,decide_eq_true_eq] at h;have h1:=h.1.1.1.2;unfold dN at h1;split at h1
 ·exact h1
 ·split at h1 <;> omega
theorem aL {w:World} {b off n:Nat} {es:List EntM} (h:RowC w (some ⟨b,off,none⟩) n 6 (al es)) (hn:es.length=n) (k:Nat) (x:EntM) (hx:es[k]?=some x) (j:Nat) (v:Value) (hj:j<6) (hv:(cJ x)[j]?=some v):
 w.cell? ⟨b,off+(k*6+j),none⟩=some v:=by
 have hk:k<es.length:=(List.getElem?_eq_some_iff.1 hx).1;rcases h.2 with h0 | ⟨b',off',e,_,hc⟩
 ·omega
 ·simp at e;obtain ⟨rfl,rfl⟩:=e;refine hc _ _ ?_;rw [dU es k j hk hj];rw [List.getElem?_eq_getElem hk] at hx;simp at hx;rw [hx];exact hv
theorem jk (b off:Nat) (cap:Nat) (ways:Int) (es:List EntM) (n:Nat) (p:Bool) (w:World) (hr:RowC w (some ⟨b,off,none⟩) n 6 (al es)) (he:∀e∈es,bf e) (hl:n<=1048576) (hN:es.length=n)
 (hw:1<=ways) (hw':ways<=4) (hn:(n:Int)=4*ways):
  Calls Tryz.prog 44 #[.agg #[.int .i64 4,.int .i64 ways,.slice (some ⟨b,off,none⟩) n cap],.bool p] w fun e w'=>e=.returned (.bool (bq ⟨4,ways,es⟩ p 0 es))∧Below w.heap.size w w':=by
 have a1:=bm w #[.int .i64 4,.int .i64 ways,.slice (some ⟨b,off,none⟩) n cap] 34;have hn':((n:Int) != 4*ways)=false:=by rw [bne_eq_false_iff_eq];omega
 have HN:Hid (es.length=n):=hN;have HR:Hid (RowC w (some ⟨b,off,none⟩) n 6 (al es)):=hr;have HE:Hid (∀e∈es,bf e):=he;obtain ⟨R,hR⟩:∃R,bq ⟨4,ways,es⟩ p 0 es=R:=⟨_,rfl⟩;rw [hR];have HP:Hid (bq ⟨4,ways,es⟩ p 0 es=R):=hR;clear hN hr he hn hR;go_enter Tryz.func44,Tryz.ntmps44;go_wp2_with fail;generalize w.alloc (Obj.cells #[.int .i64 4,.int .i64 ways,.slice (some ⟨b,off,none⟩) n cap] 34)=v1 at a1 |-;obtain ⟨l1,c1,n1⟩:=a1;have c10:v1.cell? ⟨w.heap.size,0,none⟩=some (.int .i64 4):=c1 0;have c11:v1.cell? ⟨w.heap.size,1,none⟩=some (.int .i64 ways):=c1 1;have c12:v1.cell? ⟨w.heap.size,2,none⟩=some (.slice (some ⟨b,off,none⟩) n cap):=c1 2;clear c1;go_loopw [5] (fun i wr=>∃k:Nat,k<=n∧i=.int .i64 k∧(∀j x,j<k->es[j]?=some x->aB ⟨4,ways,es⟩ p j x=true)∧Below v1.heap.size v1 wr) (fun i _=>n-(intOf i).toNat)
 case atStart=>exact ⟨0,Nat.zero_le _,rfl,fun j x hj=>absurd hj (by omega),Below.refl _ _⟩
 case round=>
  obtain ⟨k,hk,rfl,hall,hb⟩:=hrel;have HA:Hid (∀j x,j<k->es[j]?=some x->aB ⟨4,ways,es⟩ p j x=true):=hall;clear hall;have d10:=Below.cell2 hb c10 l1;have d11:=Below.cell2 hb c11 l1;have d12:=Below.cell2 hb c12 l1;have l2:w.heap.size<wr.heap.size:=Nat.lt_of_lt_of_le l1 hb.size;have n1r:=Below.step n1 hb (Nat.le_refl _);by_cases hlt:k<n
  ·have hx:∃x:EntM,es[k]?=some x:=⟨_,List.getElem?_eq_getElem (by have:=HN.out;omega)⟩;obtain ⟨⟨v,lv,tg,asd,gl,pt⟩,hx⟩:=hx;have hok:bf ⟨v,lv,tg,asd,gl,pt⟩:=HE.out _ (List.mem_of_getElem? hx);have HRr:=RowC.keep HR.out n1r;have g0:wr.cell? ⟨b,off+k*6,none⟩=some (.bool v):=aL HRr HN.out k _ hx 0 _ (by omega) rfl;have g1:wr.cell? ⟨b,off+k*6+1,none⟩=some (.int .i64 lv):=aL HRr HN.out k _ hx 1 _ (by omega) rfl;have g2:wr.cell? ⟨b,off+k*6+2,none⟩=some (.int .u64 tg):=aL HRr HN.out k _ hx 2 _ (by omega) rfl;have g3:wr.cell? ⟨b,off+k*6+3,none⟩=some (.int .u64 asd):=aL HRr HN.out k _ hx 3 _ (by omega) rfl;have g4:wr.cell? ⟨b,off+k*6+4,none⟩=some (.bool gl):=aL HRr HN.out k _ hx 4 _ (by omega) rfl;have g5:wr.cell? ⟨b,off+k*6+5,none⟩=some (.int .u64 pt):=aL HRr HN.out k _ hx 5 _ (by omega) rfl;have HX:Hid (es[k]?=some ⟨v,lv,tg,asd,gl,pt⟩):=hx;have HPf:Hid (aB ⟨4,ways,es⟩ p k ⟨v,lv,tg,asd,gl,pt⟩=false->false=R):=fun h=>by rw [<-HP.out];exact (bL _ p es 0 k _ hx (by rw [Nat.zero_add];exact h)).symm
   have HPt:Hid (aB ⟨4,ways,es⟩ p k ⟨v,lv,tg,asd,gl,pt⟩=true->∀j x,j<k+1->es[j]?=some x->aB ⟨4,ways,es⟩ p j x=true):=fun h j x hj hx'=>by
    by_cases e:j=k
    ·subst e;rw [hx] at hx';cases hx';exact h
    ·exact HA.out j x (by omega) hx'
   clear hx HRr;have a2:=bm wr #[.bool v,.int .i64 lv,.int .u64 tg,.int .u64 asd,.bool gl,.int .u64 pt] 74;go_wp2_with fail;generalize wr.alloc (Obj.cells #[.bool v,.int .i64 lv,.int .u64 tg,.int .u64 asd,.bool gl,.int .u64 pt] 74)=v2 at a2 |-;obtain ⟨l3,c2,n2⟩:=a2;have k0:=af (c2 0) l3;have k1:=af (c2 1) l3;have k2:=af (c2 2) l3;have k3:=af (c2 3) l3;have k4:=af (c2 4) l3;have k5:=af (c2 5) l3;have j0:=af (Below.cell2 n2 d10 l2) (Nat.lt_trans l2 l3);have j1:=af (Below.cell2 n2 d11 l2) (Nat.lt_trans l2 l3);have hb2:=Below.step hb n2 (Nat.le_refl _);have n12:=Below.step n1 hb2 (Nat.le_refl _);have ne:=aT v2;clear c2 d10 d11 d12 hb n2 g0 g1 g2 g3 g4 g5 c10 c11 c12 n1r;obtain ⟨gd,hgd⟩:∃gd,ay ⟨v,lv,tg,asd,gl,pt⟩ p=gd:=⟨_,rfl⟩;have HGd:Hid (∀u:Lies v2,Calls Tryz.prog 56 #[cV ⟨v,lv,tg,asd,gl,pt⟩,.bool p] u.w fun e w'=>e=.returned (.bool gd)∧Below u.w.heap.size u.w w'):=fun u=>by
    have:=ce ⟨v,lv,tg,asd,gl,pt⟩ p u.w hok;rw [hgd] at this;exact this
   have HGv:Hid (ay ⟨v,lv,tg,asd,gl,pt⟩ p=gd):=hgd;clear hgd;cases v
   ·have hgf:gd=false:=by rw [<-HGv.out];simp [ay]
    subst hgf;by_cases q1n:¬(lv=0)
    ·have q1:(lv == 0)=false:=by simpa using q1n
     have HQ:Hid ((lv == 0)=false):=q1;clear q1n;refine am (by kernel_rfl) (by kernel_rfl) ?_;repeat (go_big_quiet_step ((go_at_call 56;exact ao _ (HGd.out _))))
     refine wpQuiet_nil ?_;rintro _ ⟨u,rfl⟩;go_wp2_with fail;go_ret;exact ⟨ah (HPf.out (by simp [aB,HGv.out,HQ.out])),Below.step n12 u.h (Nat.le_refl _)⟩
    have q1z:lv=0:=Decidable.not_not.1 q1n;subst q1z;clear q1n;by_cases q2n:¬(tg=0)
    ·have q2:(tg == 0)=false:=by simpa using q2n
     have HQ:Hid ((tg == 0)=false):=q2;clear q2n;refine am (by kernel_rfl) (by kernel_rfl) ?_;repeat (go_big_quiet_step ((go_at_call 56;exact ao _ (HGd.out _))))
     refine wpQuiet_nil ?_;rintro _ ⟨u,rfl⟩;go_wp2_with fail;go_ret;exact ⟨ah (HPf.out (by simp [aB,HGv.out,HQ.out])),Below.step n12 u.h (Nat.le_refl _)⟩
    have q2z:tg=0:=Decidable.not_not.1 q2n;subst q2z;clear q2n;by_cases q3n:¬(asd=0)
    ·have q3:(asd == 0)=false:=by simpa using q3n
     have HQ:Hid ((asd == 0)=false):=q3;clear q3n;refine am (by kernel_rfl) (by kernel_rfl) ?_;repeat (go_big_quiet_step ((go_at_call 56;exact ao _ (HGd.out _))))
     refine wpQuiet_nil ?_;rintro _ ⟨u,rfl⟩;go_wp2_with fail;go_ret;exact ⟨ah (HPf.out (by simp [aB,HGv.out,HQ.out])),Below.step n12 u.h (Nat.le_refl _)⟩
    have q3z:asd=0:=Decidable.not_not.1 q3n;subst q3z;clear q3n;cases hgl:gl
    ·subst hgl;by_cases q5n:¬(pt=0)
     ·have q5:(pt == 0)=false:=by simpa using q5n
      have HQ:Hid ((pt == 0)=false):=q5;clear q5n;refine am (by kernel_rfl) (by kernel_rfl) ?_;repeat (go_big_quiet_step ((go_at_call 56;exact ao _ (HGd.out _))))
      refine wpQuiet_nil ?_;rintro _ ⟨u,rfl⟩;go_wp2_with fail;go_ret;exact ⟨ah (HPf.out (by simp [aB,HGv.out,HQ.out])),Below.step n12 u.h (Nat.le_refl _)⟩
     have q5z:pt=0:=Decidable.not_not.1 q5n;subst q5z;clear q5n;refine am (by kernel_rfl) (by kernel_rfl) ?_;repeat (go_big_quiet_step ((go_at_call 56;exact ao _ (HGd.out _))))
     refine wpQuiet_nil ?_;rintro _ ⟨u,rfl⟩;go_wp2_with fail;go_roundw
     case rel=>exact ⟨k+1,by omega,by go_num,HPt.out (by simp [aB]),Below.step hb2 u.h (Nat.le_refl _)⟩
     case measure=>simp [intOf];omega
    ·subst hgl;refine am (by kernel_rfl) (by kernel_rfl) ?_;repeat (go_big_quiet_step ((go_at_call 56;exact ao _ (HGd.out _))))
     refine wpQuiet_nil ?_;rintro _ ⟨u,rfl⟩;go_wp2_with fail;go_ret;exact ⟨ah (HPf.out (by simp [aB,HGv.out])),Below.step n12 u.h (Nat.le_refl _)⟩
   ·cases gd
    ·
     refine am (by kernel_rfl) (by kernel_rfl) ?_;repeat (go_big_quiet_step ((go_at_call 56;exact ao _ (HGd.out _))))
     refine wpQuiet_nil ?_;rintro _ ⟨u,rfl⟩;go_wp2_with fail;go_ret;exact ⟨ah (HPf.out (by simp [aB,HGv.out])),Below.step n12 u.h (Nat.le_refl _)⟩
    ·have htg:tg<512:=dV HGv.out;have htg0:0<=tg:=hok.2.1.1;have hd0:0<=(k:Int)/ways:=Int.ediv_nonneg (by omega) (by omega);have hd1:(k:Int)/ways<=1048576:=Int.le_trans (Int.ediv_le_self _ (by omega)) (by omega);by_cases hq:tg%4=(k:Int)/ways
     ·have hq':(tg%4 != (k:Int)/ways)=false:=by rw [bne_eq_false_iff_eq];exact hq
      have HQ:Hid (tg%4=(k:Int)/ways):=hq;clear hq;refine am (by kernel_rfl) (by kernel_rfl) ?_;repeat (go_big_quiet_step ((go_at_call 56;exact ao _ (HGd.out _))))
      refine wpQuiet_nil ?_;rintro _ ⟨u,rfl⟩;go_wp2_with fail;go_roundw
      case rel=>exact ⟨k+1,by omega,by go_num,HPt.out (by simp [aB,HGv.out,HQ.out]),Below.step hb2 u.h (Nat.le_refl _)⟩
      case measure=>simp [intOf];omega
     ·have hq':(tg%4 != (k:Int)/ways)=true:=by rw [bne_iff_ne];exact hq
      have HQ:Hid (¬tg%4=(k:Int)/ways):=hq;clear hq;refine am (by kernel_rfl) (by kernel_rfl) ?_;repeat (go_big_quiet_step ((go_at_call 56;exact ao _ (HGd.out _))))
      refine wpQuiet_nil ?_;rintro _ ⟨u,rfl⟩;go_wp2_with fail;go_ret;exact ⟨ah (HPf.out (by simp [aB,HQ.out])),Below.step n12 u.h (Nat.le_refl _)⟩
  ·have hkn:k=n:=by omega
   subst hkn;have HT:Hid (true=R):=by
    show true=R;rw [<-HP.out];exact (bI _ p es 0 (fun j x hx=>by rw [Nat.zero_add];exact HA.out j x (by have h1:=(List.getElem?_eq_some_iff.1 hx).1;have h2:=HN.out;omega) hx)).symm
   clear c10 c11 c12 n1 d10 d11;go_wp2_with fail;go_ret;exact ⟨ah HT.out,n1r⟩
end
end Go.Proofs.YtfgogedgolgnaaaGreat
