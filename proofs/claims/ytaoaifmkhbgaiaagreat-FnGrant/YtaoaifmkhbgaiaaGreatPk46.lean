import Derived.Test.YtaoaifmkhbgaiaaGreatPk18
import Derived.Test.YtaoaifmkhbgaiaaGreatPk05
import Derived.Test.YtaoaifmkhbgaiaaGreatPk45
import Derived.Test.YtaoaifmkhbgaiaaGreatPk10
namespace Go.Proofs.YtaoaifmkhbgaiaaGreat
open Go.RowKit
set_option linter.unusedVariables false
attribute [local go_sem ↓] Go.wp_at_zero Go.wp_at_succ
theorem lA (mode:Int) (sum mxr:Bool) (satp kind:Int) (w:World):
 Calls Tryz.prog 57 #[dx mode sum mxr satp,.int .i64 kind] w fun e w'=>e=.returned (.bool (decide (0≤kind∧kind≤2∧0≤mode∧mode≤2)))∧Below w.heap.size w w':=by
 unfold dx;have b1:=(Below.refl w.heap.size w).alloc (Nat.le_refl _) (Obj.cells #[.int .i64 mode,.bool sum,.bool mxr,.int .u64 satp] 25);obtain ⟨kb,hkb⟩:∃kb,decide (0≤kind∧kind≤2∧0≤mode∧mode≤2)=kb:=⟨_,rfl⟩;rw [hkb];have HK:Hid (decide (0≤kind∧kind≤2∧0≤mode∧mode≤2)=kb):=hkb;clear hkb;by_cases h1:0≤kind
 ·by_cases h2:kind≤2
  ·by_cases h3:0≤mode
   ·go_enter Tryz.func57,Tryz.ntmps57;go_wp2_with fail;go_ret;exact ⟨aF (by rw [←HK.out];simp [h1,h2,h3]),b1⟩
   ·go_enter Tryz.func57,Tryz.ntmps57;go_wp2_with fail;go_ret;exact ⟨aF (by rw [←HK.out];symm;rw [decide_eq_false_iff_not];omega),b1⟩
  ·go_enter Tryz.func57,Tryz.ntmps57;go_wp2_with fail;go_ret;exact ⟨aF (by rw [←HK.out];symm;rw [decide_eq_false_iff_not];omega),b1⟩
 ·go_enter Tryz.func57,Tryz.ntmps57;go_wp2_with fail;go_ret;exact ⟨aF (by rw [←HK.out];symm;rw [decide_eq_false_iff_not];omega),b1⟩
theorem jz (mode:Int) (sum mxr:Bool) (satp:Int) (w:World) (h0:0≤satp) (h1:satp≤18446744073709551615):
 Calls Tryz.prog 101 #[dx mode sum mxr satp] w fun e w'=>e=.returned (.bool (onM mode satp))∧Below w.heap.size w w':=by
 unfold dx;have b1:=(Below.refl w.heap.size w).alloc (Nat.le_refl _) (Obj.cells #[.int .i64 mode,.bool sum,.bool mxr,.int .u64 satp] 25);have HS:Hid (satp/1152921504606846976=satp/1152921504606846976%16):=show _=_ by omega
 cases hs:(satp/1152921504606846976 == 8)
 ·go_enter Tryz.func101,Tryz.ntmps101;go_wp2_with fail;go_ret;exact ⟨aF (by rw [onM,←HS.out,hs];rfl),b1⟩
 ·cases hm0:(mode == 0)
  ·go_enter Tryz.func101,Tryz.ntmps101;go_wp2_with fail;go_ret;exact ⟨aF (by rw [onM,←HS.out,hs,hm0];rfl),b1⟩
  ·go_enter Tryz.func101,Tryz.ntmps101;go_wp2_with fail;go_ret;exact ⟨aF (by rw [onM,←HS.out,hs,hm0];rfl),b1⟩
theorem gf (pte level mode:Int) (sum mxr:Bool) (satp kind va:Int) (w:World) (h0:0≤pte) (h1:pte≤18446744073709551615) (hv:0≤va) (hv':va≤18446744073709551615) (hl:level=0∨level=1∨level=2):
 Calls Tryz.prog 106 #[.int .u64 pte,.int .i64 level,dx mode sum mxr satp,.int .i64 kind,.int .u64 va] w fun e w'=>
  e=.returned (.tuple #[.int .u64 (if cH pte kind mode sum mxr=true then eV pte level va else 0),cX (if cH pte kind mode sum mxr=true then 1 else 2)])∧Below w.heap.size w w':=by
 unfold dx;have b1:=(Below.refl w.heap.size w).alloc (Nat.le_refl _) (Obj.cells #[.int .i64 mode,.bool sum,.bool mxr,.int .u64 satp] 25);cases hg:cH pte kind mode sum mxr
 ·have HG:Hid (cH pte kind mode sum mxr=false):=hg;clear hg;rw [if_neg (by simp),if_neg (by simp)];go_enter Tryz.func106,Tryz.ntmps106;go_wp2_with (go_at_call 139;refine (mf pte kind mode sum mxr _ h0 h1).mono ?_;rintro e w' ⟨rfl,rfl⟩;rw [HG.out]);exact bodyPost_ret (v:=.tuple #[.int .u64 0,.iface 167 (.agg #[])]) (by simp [results,Tryz.results106,go_sem]) rfl ⟨rfl,b1⟩
 ·have HG:Hid (cH pte kind mode sum mxr=true):=hg;clear hg;rw [if_pos rfl,if_pos rfl];go_enter Tryz.func106,Tryz.ntmps106;go_wp2_with (first
   | (go_at_call 139;refine (mf pte kind mode sum mxr _ h0 h1).mono ?_;rintro e w' ⟨rfl,rfl⟩;rw [HG.out])
   | (go_at_call 140;refine (Aw pte level va _ h0 h1 hl hv hv').mono ?_;rintro e w' ⟨rfl,rfl⟩))
  exact bodyPost_ret (v:=.tuple #[.int .u64 (eV pte level va),.nilIface]) (by simp [results,Tryz.results106,go_sem]) rfl ⟨rfl,b1⟩
theorem A9 (w:World):(binOp .neq 117 (.iface 167 (.agg #[])) .nilIface).run Tryz.prog w=.ok (.bool true) w:=by kernel_rfl
theorem Ba (w:World):(binOp .neq 117 (.iface 176 (.agg #[])) .nilIface).run Tryz.prog w=.ok (.bool true) w:=by kernel_rfl
theorem Bb (w:World):(binOp .neq 117 .nilIface .nilIface).run Tryz.prog w=.ok (.bool false) w:=by kernel_rfl
def mO (r:Int × Int × Int × List ef) (mode:Int) (sum mxr:Bool) (kind va:Int):Int × Int:=
 if r.1=1 then (if cH r.2.2.1 kind mode sum mxr=true then (eV r.2.2.1 r.2.1 va,1) else (0,2)) else (0,r.1)
theorem pG {w w':World} {g:Nat} {o:Obj} (h:Hid (w.heap[g]?=some o)) (n:Below w.heap.size w w') (l:g<w.heap.size):Hid (w'.heap[g]?=some o):=ab h.out n l
set_option maxRecDepth 20000 in
theorem tZ (sv:Value) (zs:List Int) (mode:Int) (sum mxr:Bool) (satp kind va:Int) (w:World) (hB:SrcAt w sv zs) (hv0:0≤va) (hv1:va≤18446744073709551615) (hs0:0≤satp) (hs1:satp≤18446744073709551615) (hon:onM mode satp=true):
 Calls Tryz.prog 66 #[sv,dx mode sum mxr satp,.int .i64 kind,.int .u64 va] w fun e w'=>
  e=.returned (.tuple #[.int .u64 (mO (bV zs satp va) mode sum mxr kind va).1,cX (mO (bV zs satp va) mode sum mxr kind va).2])∧Below w.heap.size w w':=by
 have HB:Hid (SrcAt w sv zs):=hB;have HTR:Hid (∀w,Calls Tryz.prog 101 #[.agg #[.int .i64 mode,.bool sum,.bool mxr,.int .u64 satp]] w fun e w'=>e=.returned (.bool true)∧Below w.heap.size w w'):=fun w=>by have:=jz mode sum mxr satp w hs0 hs1;rw [hon] at this;exact this
 clear hon;have hcd:=kH zs satp va;have hbd:=rK zs satp va hB.bd;clear hB;obtain ⟨X,hX⟩:∃X,bV zs satp va=X:=⟨_,rfl⟩;have HX:Hid (bV zs satp va=X):=hX;rw [hX] at hcd hbd ⊢;clear hX;obtain ⟨x1,x2,x3,rs⟩:=X;simp only at hcd hbd;unfold dx;have b1:=(Below.refl w.heap.size w).alloc (Nat.le_refl _) (Obj.cells #[.int .i64 mode,.bool sum,.bool mxr,.int .u64 satp] 25);have r1:Hid ((w.alloc (Obj.cells #[.int .i64 mode,.bool sum,.bool mxr,.int .u64 satp] 25)).heap[w.heap.size]?=some (.cells #[.int .i64 mode,.bool sum,.bool mxr,.int .u64 satp] 25 (0,0))):=heap_alloc_new w _;have l1:w.heap.size<(w.alloc (Obj.cells #[.int .i64 mode,.bool sum,.bool mxr,.int .u64 satp] 25)).heap.size:=by simp
 have q1:=A9;have q2:=Ba;have q3:=Bb;rcases hcd with rfl | rfl | rfl
 ·obtain ⟨⟨y1,y2⟩,hY⟩:∃Y,mO (1,x2,x3,rs) mode sum mxr kind va=Y:=⟨_,rfl⟩;rw [hY];obtain ⟨fv,hfv⟩:∃fv,cX y2=fv:=⟨_,rfl⟩;have HTL:Hid (∀w,Calls Tryz.prog 106 #[.int .u64 x3,.int .i64 x2,.agg #[.int .i64 mode,.bool sum,.bool mxr,.int .u64 satp],.int .i64 kind,.int .u64 va] w fun e w'=>
   e=.returned (.tuple #[.int .u64 y1,fv])∧Below w.heap.size w w'):=by
   intro w;have:=gf x3 x2 mode sum mxr satp kind va w hbd.1 hbd.2.1 hv0 hv1 (by omega);unfold dx at this;rw [←hfv];cases hg:cH x3 kind mode sum mxr
   ·simp [mO,hg] at hY;obtain ⟨rfl,rfl⟩:=hY;simpa [hg] using this
   ·simp [mO,hg] at hY;obtain ⟨rfl,rfl⟩:=hY;simpa [hg] using this
  rw [hfv];clear hY hfv;go_enter Tryz.func66,Tryz.ntmps66;go_wp2_with fail;generalize w.alloc (Obj.cells #[.int .i64 mode,.bool sum,.bool mxr,.int .u64 satp] 25)=v0 at b1 r1 l1 ⊢;refine (HTR.out v0).mono ?_;rintro e v1 ⟨rfl,n1⟩;replace r1:=pG r1 n1 l1;replace b1:=Below.step b1 n1 (Nat.le_refl _);replace l1:w.heap.size<v1.heap.size:=Nat.lt_of_lt_of_le l1 n1.size;clear n1;obtain ⟨⟨d0,d1,d2,d3⟩,e0,e1,e2,e3⟩:=aw r1.out;go_wp2_with fail;clear d0 d1 d2 d3 e0 e1 e2 e3;refine (iI sv zs va satp v1 (HB.out.keep b1) hv0 hv1 hs0 hs1).mono ?_;rintro e v2 ⟨hw,n2⟩;rw [HX.out] at hw;obtain ⟨ra,rc,rfl,o2⟩:=hw;clear o2;rw [show cX 1=.nilIface from rfl];have b2:=Below.step b1 n2 (Nat.le_refl _);have r2:Hid (v2.heap[w.heap.size]?=some (.cells #[.int .i64 mode,.bool sum,.bool mxr,.int .u64 satp] 25 (0,0))):=ab r1.out n2 l1;have l2:w.heap.size<v2.heap.size:=Nat.lt_of_lt_of_le l1 n2.size;obtain ⟨⟨d0,d1,d2,d3⟩,e0,e1,e2,e3⟩:=aw r2.out;have b3:=b2.alloc (by omega) (Obj.cells #[.int .i64 x2,.int .u64 x3,.slice ra rs.length rc] 179);clear b1 r1 l1 n2;go_wp2_with fail;refine (HTL.out _).mono ?_;rintro e v4 ⟨rfl,n4⟩;have b4:=Below.step b3 n4 (Nat.le_refl _);go_wp2_with fail;exact bodyPost_ret (v:=.tuple #[.int .u64 y1,fv]) (by simp [results,Tryz.results66,go_sem]) rfl ⟨rfl,b4⟩
 ·rw [show mO (2,x2,x3,rs) mode sum mxr kind va=(0,2) from rfl];rw [show cX 2=.iface 167 (.agg #[]) from rfl];go_enter Tryz.func66,Tryz.ntmps66;go_wp2_with fail;generalize w.alloc (Obj.cells #[.int .i64 mode,.bool sum,.bool mxr,.int .u64 satp] 25)=v0 at b1 r1 l1 ⊢;refine (HTR.out v0).mono ?_;rintro e v1 ⟨rfl,n1⟩;replace r1:=pG r1 n1 l1;replace b1:=Below.step b1 n1 (Nat.le_refl _);replace l1:w.heap.size<v1.heap.size:=Nat.lt_of_lt_of_le l1 n1.size;clear n1;obtain ⟨⟨d0,d1,d2,d3⟩,e0,e1,e2,e3⟩:=aw r1.out;go_wp2_with fail;clear d0 d1 d2 d3 e0 e1 e2 e3;refine (iI sv zs va satp v1 (HB.out.keep b1) hv0 hv1 hs0 hs1).mono ?_;rintro e v2 ⟨hw,n2⟩;rw [HX.out] at hw;obtain ⟨ra,rc,rfl,o2⟩:=hw;clear o2;rw [show cX 2=.iface 167 (.agg #[]) from rfl];have b2:=Below.step b1 n2 (Nat.le_refl _);have r2:Hid (v2.heap[w.heap.size]?=some (.cells #[.int .i64 mode,.bool sum,.bool mxr,.int .u64 satp] 25 (0,0))):=ab r1.out n2 l1;have l2:w.heap.size<v2.heap.size:=Nat.lt_of_lt_of_le l1 n2.size;obtain ⟨⟨d0,d1,d2,d3⟩,e0,e1,e2,e3⟩:=aw r2.out;have b3:=b2.alloc (by omega) (Obj.cells #[.int .i64 x2,.int .u64 x3,.slice ra rs.length rc] 179);clear b1 r1 l1 n2;go_wp2_with fail;exact bodyPost_ret (v:=.tuple #[.int .u64 0,.iface 167 (.agg #[])]) (by simp [results,Tryz.results66,go_sem]) rfl ⟨rfl,b3⟩
 ·rw [show mO (3,x2,x3,rs) mode sum mxr kind va=(0,3) from rfl];rw [show cX 3=.iface 176 (.agg #[]) from rfl];go_enter Tryz.func66,Tryz.ntmps66;go_wp2_with fail;generalize w.alloc (Obj.cells #[.int .i64 mode,.bool sum,.bool mxr,.int .u64 satp] 25)=v0 at b1 r1 l1 ⊢;refine (HTR.out v0).mono ?_;rintro e v1 ⟨rfl,n1⟩;replace r1:=pG r1 n1 l1;replace b1:=Below.step b1 n1 (Nat.le_refl _);replace l1:w.heap.size<v1.heap.size:=Nat.lt_of_lt_of_le l1 n1.size;clear n1;obtain ⟨⟨d0,d1,d2,d3⟩,e0,e1,e2,e3⟩:=aw r1.out;go_wp2_with fail;clear d0 d1 d2 d3 e0 e1 e2 e3;refine (iI sv zs va satp v1 (HB.out.keep b1) hv0 hv1 hs0 hs1).mono ?_;rintro e v2 ⟨hw,n2⟩;rw [HX.out] at hw;obtain ⟨ra,rc,rfl,o2⟩:=hw;clear o2;rw [show cX 3=.iface 176 (.agg #[]) from rfl];have b2:=Below.step b1 n2 (Nat.le_refl _);have r2:Hid (v2.heap[w.heap.size]?=some (.cells #[.int .i64 mode,.bool sum,.bool mxr,.int .u64 satp] 25 (0,0))):=ab r1.out n2 l1;have l2:w.heap.size<v2.heap.size:=Nat.lt_of_lt_of_le l1 n2.size;obtain ⟨⟨d0,d1,d2,d3⟩,e0,e1,e2,e3⟩:=aw r2.out;have b3:=b2.alloc (by omega) (Obj.cells #[.int .i64 x2,.int .u64 x3,.slice ra rs.length rc] 179);clear b1 r1 l1 n2;go_wp2_with fail;exact bodyPost_ret (v:=.tuple #[.int .u64 0,.iface 176 (.agg #[])]) (by simp [results,Tryz.results66,go_sem]) rfl ⟨rfl,b3⟩
theorem sC (sv:Value) (mode:Int) (sum mxr:Bool) (satp kind va:Int) (w:World) (hs0:0≤satp) (hs1:satp≤18446744073709551615) (hon:onM mode satp=false):
 Calls Tryz.prog 66 #[sv,dx mode sum mxr satp,.int .i64 kind,.int .u64 va] w fun e w'=>
  e=.returned (.tuple #[.int .u64 va,cX 1])∧Below w.heap.size w w':=by
 have HTR:Hid (∀w,Calls Tryz.prog 101 #[.agg #[.int .i64 mode,.bool sum,.bool mxr,.int .u64 satp]] w fun e w'=>e=.returned (.bool false)∧Below w.heap.size w w'):=fun w=>by have:=jz mode sum mxr satp w hs0 hs1;rw [hon] at this;exact this
 clear hon;unfold dx;have b1:=(Below.refl w.heap.size w).alloc (Nat.le_refl _) (Obj.cells #[.int .i64 mode,.bool sum,.bool mxr,.int .u64 satp] 25);rw [show cX 1=.nilIface from rfl];go_enter Tryz.func66,Tryz.ntmps66;go_wp2_with fail;generalize w.alloc (Obj.cells #[.int .i64 mode,.bool sum,.bool mxr,.int .u64 satp] 25)=v0 at b1 ⊢;refine (HTR.out v0).mono ?_;rintro e v1 ⟨rfl,n1⟩;have b2:=Below.step b1 n1 (Nat.le_refl _);go_wp2_with fail;exact bodyPost_ret (v:=.tuple #[.int .u64 va,.nilIface]) (by simp [results,Tryz.results66,go_sem]) rfl ⟨rfl,b2⟩
def jp (zs:List Int) (mode:Int) (sum mxr:Bool) (satp kind va:Int):Int × Int:=
 if onM mode satp=false then (va,1) else mO (bV zs satp va) mode sum mxr kind va
theorem sD (sv:Value) (zs:List Int) (mode:Int) (sum mxr:Bool) (satp kind va:Int) (w:World) (hB:SrcAt w sv zs) (hv0:0≤va) (hv1:va≤18446744073709551615) (hs0:0≤satp) (hs1:satp≤18446744073709551615):
 Calls Tryz.prog 66 #[sv,dx mode sum mxr satp,.int .i64 kind,.int .u64 va] w fun e w'=>
  e=.returned (.tuple #[.int .u64 (jp zs mode sum mxr satp kind va).1,cX (jp zs mode sum mxr satp kind va).2])∧Below w.heap.size w w':=by
 unfold jp;cases hon:onM mode satp
 ·rw [if_pos rfl];exact sC sv mode sum mxr satp kind va w hs0 hs1 hon
 ·rw [if_neg (by simp)];exact tZ sv zs mode sum mxr satp kind va w hB hv0 hv1 hs0 hs1 hon
theorem wG (r:Int × Int × Int × List ef) (mode:Int) (sum mxr:Bool) (kind va:Int) (h:r.1=1∨r.1=2∨r.1=3):
 ck r mode sum mxr kind va=((if (mO r mode sum mxr kind va).2=1 then 0 else if (mO r mode sum mxr kind va).2=2 then eD kind else cQ kind),(mO r mode sum mxr kind va).1):=by
 unfold ck mO ey;rcases h with h | h | h <;> rw [h]
 ·cases cH r.2.2.1 kind mode sum mxr <;> simp
 ·simp
 ·simp
theorem yi (r:Int × Int × Int × List ef) (mode:Int) (sum mxr:Bool) (kind va:Int) (h:r.1=1∨r.1=2∨r.1=3):
 (mO r mode sum mxr kind va).2=1∨(mO r mode sum mxr kind va).2=2∨(mO r mode sum mxr kind va).2=3:=by
 unfold mO;rcases h with h | h | h <;> rw [h]
 ·cases cH r.2.2.1 kind mode sum mxr <;> simp
 ·simp
 ·simp
set_option maxRecDepth 20000 in
theorem sE (a:Option Addr) (len cap:Nat) (zs:List Int) (mode:Int) (sum mxr:Bool) (satp kind va:Int) (w:World) (hB:Byt w a len zs) (hlen:len≤1048576) (hv0:0≤va) (hv1:va≤18446744073709551615) (hs0:0≤satp) (hs1:satp≤18446744073709551615):
 Calls Tryz.prog 16 #[.slice a len cap,dx mode sum mxr satp,.int .i64 kind,.int .u64 va] w fun e w'=>e=.returned (eS (eu zs mode sum mxr satp kind va))∧Below w.heap.size w w':=by
 have HB:Hid (Byt w a len zs):=hB;clear hB;have HKA:Hid (∀w,Calls Tryz.prog 57 #[.agg #[.int .i64 mode,.bool sum,.bool mxr,.int .u64 satp],.int .i64 kind] w fun e w'=>e=.returned (.bool (decide (0≤kind∧kind≤2∧0≤mode∧mode≤2)))∧Below w.heap.size w w'):=fun w=>lA mode sum mxr satp kind w;have n0:=((Below.refl w.heap.size w).alloc (Nat.le_refl _) (Obj.cells #[.int .i64 mode,.bool sum,.bool mxr,.int .u64 satp] 25)).alloc (by simp) (Obj.cells #[.int .i64 0,.int .u64 0] 43);have H1:Hid (((w.alloc (Obj.cells #[.int .i64 mode,.bool sum,.bool mxr,.int .u64 satp] 25)).alloc (Obj.cells #[.int .i64 0,.int .u64 0] 43)).heap[w.heap.size+1]?=some (.cells #[.int .i64 0,.int .u64 0] 43 (0,0))):=by
  have:=heap_alloc_new (w.alloc (Obj.cells #[.int .i64 mode,.bool sum,.bool mxr,.int .u64 satp] 25)) (Obj.cells #[.int .i64 0,.int .u64 0] 43);simp only [World.size_alloc] at this;exact this
 have H2:Hid (((w.alloc (Obj.cells #[.int .i64 mode,.bool sum,.bool mxr,.int .u64 satp] 25)).alloc (Obj.cells #[.int .i64 0,.int .u64 0] 43)).heap[w.heap.size]?=some (.cells #[.int .i64 mode,.bool sum,.bool mxr,.int .u64 satp] 25 (0,0))):=by
  show _=_;rw [Below.heap_alloc _ _ _ (by simp)];exact heap_alloc_new _ _
 have l0:w.heap.size+1<((w.alloc (Obj.cells #[.int .i64 mode,.bool sum,.bool mxr,.int .u64 satp] 25)).alloc (Obj.cells #[.int .i64 0,.int .u64 0] 43)).heap.size:=by simp
 unfold dx;obtain ⟨⟨p1,p2⟩,hP⟩:∃P,eu zs mode sum mxr satp kind va=P:=⟨_,rfl⟩;rw [hP];have HP:Hid (eu zs mode sum mxr satp kind va=(p1,p2)):=hP;clear hP;rw [show eS (p1,p2)=.agg #[.int .i64 p1,.int .u64 p2] from rfl];go_enter Tryz.func16,Tryz.ntmps16;go_wp2_with fail;generalize (w.alloc (Obj.cells #[.int .i64 mode,.bool sum,.bool mxr,.int .u64 satp] 25)).alloc (Obj.cells #[.int .i64 0,.int .u64 0] 43)=v1 at n0 H1 H2 l0 ⊢;refine (HKA.out v1).mono ?_;rintro e v2 ⟨rfl,n2⟩;have n12:=Below.step n0 n2 (Nat.le_refl _);have K1:Hid (v2.heap[w.heap.size+1]?=some (.cells #[.int .i64 0,.int .u64 0] 43 (0,0))):=ab H1.out n2 l0;have K2:Hid (v2.heap[w.heap.size]?=some (.cells #[.int .i64 mode,.bool sum,.bool mxr,.int .u64 satp] 25 (0,0))):=ab H2.out n2 (by omega);have l2:w.heap.size+1<v2.heap.size:=Nat.lt_of_lt_of_le l0 n2.size;clear n0 n2 H1 H2 l0;by_cases hbad:kind<0∨2<kind∨mode<0∨2<mode
 ·have hd:decide (0≤kind∧kind≤2∧0≤mode∧mode≤2)=false:=by rw [decide_eq_false_iff_not];omega
  have hz:(p1,p2)=(63,0):=by rw [←HP.out];unfold eu;rw [if_pos hbad]
  cases hz;rw [hd];clear hbad hd;obtain ⟨⟨d0,d1⟩,e0,e1⟩:=iU K1.out;go_wp2_with fail;exact bodyPost_ret (v:=.agg #[.int .i64 63,.int .u64 0]) (by simp [results,Tryz.results16,go_sem,d0,d1]) rfl ⟨rfl,w5 n12 (by omega) _ _⟩
 ·have hd:decide (0≤kind∧kind≤2∧0≤mode∧mode≤2)=true:=by rw [decide_eq_true_eq];omega
  have HP2:Hid ((p1,p2)=if onM mode satp=false then (0,va) else ck (bV zs satp va) mode sum mxr kind va):=by
   show _=_;rw [←HP.out];unfold eu;rw [if_neg hbad]
  rw [hd];clear hbad hd HP;have hcd:=kH zs satp va;have HPP:Hid (∀w,Byt w a len zs→Calls Tryz.prog 66 #[.iface 120 (.slice a len cap),.agg #[.int .i64 mode,.bool sum,.bool mxr,.int .u64 satp],.int .i64 kind,.int .u64 va] w fun e w'=>
   e=.returned (.tuple #[.int .u64 (jp zs mode sum mxr satp kind va).1,cX (jp zs mode sum mxr satp kind va).2])∧Below w.heap.size w w'):=
   fun w h=>sD _ zs mode sum mxr satp kind va w (xG cap h hlen) hv0 hv1 hs0 hs1
  have HA:Hid ((p1,p2)=((if (jp zs mode sum mxr satp kind va).2=1 then 0 else if (jp zs mode sum mxr satp kind va).2=2 then eD kind else cQ kind),(jp zs mode sum mxr satp kind va).1)):=by
   show _=_;rw [HP2.out];unfold jp;cases onM mode satp
   ·simp
   ·simp only [Bool.true_eq_false,if_false];exact wG (bV zs satp va) mode sum mxr kind va hcd
  have hac:(jp zs mode sum mxr satp kind va).2=1∨(jp zs mode sum mxr satp kind va).2=2∨(jp zs mode sum mxr satp kind va).2=3:=by
   unfold jp;cases onM mode satp
   ·simp
   ·simp only [Bool.true_eq_false,if_false];exact yi (bV zs satp va) mode sum mxr kind va hcd
  generalize jp zs mode sum mxr satp kind va=A at HPP HA hac;obtain ⟨y1,y2⟩:=A;simp only at HPP HA hac;have hq:=HA.out;injection hq with hq1 hq2;subst hq2;obtain ⟨fv,hfv⟩:∃fv,cX y2=fv:=⟨_,rfl⟩;have HCO:Hid (∀w,Calls Tryz.prog 60 #[fv,.int .i64 kind] w fun e w'=>e=.returned (.int .i64 p1)∧w'=w):=by
   intro w;rw [←hfv,hq1];exact rD y2 kind w hac
  rw [hfv] at HPP;clear hfv hcd HA hac hq1 HP2;obtain ⟨⟨k0,k1,k2,k3⟩,_,_,_,_⟩:=aw K2.out;go_wp2_with fail;refine (HPP.out _ (HB.out.keep n12)).mono ?_;rintro e v4 ⟨rfl,n4⟩;have n14:=Below.step n12 n4 (Nat.le_refl _);obtain ⟨⟨d0,d1⟩,e0,e1⟩:=iU (ab K1.out n4 l2);clear K1 K2 k0 k1 k2 k3 n12 n4 HPP;go_wp2_with (go_at_call 60;refine (HCO.out _).mono ?_;rintro e w' ⟨rfl,rfl⟩);exact bodyPost_ret (v:=.agg #[.int .i64 p1,.int .u64 p2]) (by simp [results,Tryz.results16,go_sem,d0,d1]) rfl ⟨rfl,w5 n14 (by omega) _ _⟩
end Go.Proofs.YtaoaifmkhbgaiaaGreat

namespace Go.Proofs.YtaoaifmkhbgaiaaGreat
open Go.RowKit
set_option linter.unusedVariables false
attribute [local go_sem ↓] Go.wp_at_zero Go.wp_at_succ
theorem Keeps.row {w w':World} {x y z g n size:Nat} {cs:List Value} (h:RowC w (some ⟨g,0,none⟩) n size cs) (hk:Keeps w w' x y z) (h1:g≠x) (h2:g≠y) (h3:g≠z):RowC w' (some ⟨g,0,none⟩) n size cs:=by
 obtain ⟨a,b⟩:=h;refine ⟨a,?_⟩;rcases b with b | ⟨q,o,e,hlt,hc⟩
 ·exact .inl b
 ·cases e;exact .inr ⟨g,0,rfl,Nat.lt_of_lt_of_le hlt hk.2.2.2.1,fun i v hi=>(World.cell?_of_block (hk.2.2.2.2 g hlt h1 h2 h3)).trans (hc i v hi)⟩
theorem xE:∀(rs:List ef) (j:Nat) (r:ef),rs[j]?=some r→(cD rs)[j*3]?=some (.int .i64 r.1)∧(cD rs)[j*3+1]?=some (.int .u64 r.2.1)∧(cD rs)[j*3+2]?=some (.int .u64 r.2.2)
 | x::rs,0,r,h=>by
  simp at h;subst h;simp [cD,rr]
 | x::rs,j+1,r,h=>by
  have ih:=xE rs j r (by simpa using h);have e0:(j+1)*3=j*3+3:=by omega
  rw [e0];simpa [cD,rr] using ih
theorem yt (va satp pick:Int) (ps:List ef) (j:Nat) (r:ef) (p:TlbM) (h:ps[j]?=some r) (hk:bC r.2.2 r.1=1):cE va satp pick (ps.take (j+1)) p=cz (cE va satp pick (ps.take j) p) (et r.1 va satp r.2.2) pick:=by
 rw [List.take_add_one,h,jr];simp only [Option.toList,cE];rw [if_pos hk]
theorem mZ {t:TlbM} {e:EntM} {pick:Int} {p:Bool} (hv:aG t p=true) (hg:aS e p=true) (hp:0≤pick∧pick≤255):cz t e pick=⟨t.sets,t.ways,t.es.set (dL t e+fU t e pick) e⟩:=by
 have hf:hZ t e=true:=by
  simp only [hZ,Bool.or_eq_true,Bool.and_eq_true];cases p
  ·exact .inr ⟨hv,hg⟩
  ·exact .inl ⟨hv,hg⟩
 unfold cz;rw [if_pos ⟨hf,hp.1,hp.2⟩]
def fp (k:KM) (kind va satp pick:Int) (r:Int × Int × Int × List ef) (code:Int):KM:=
 if code=1 then p6 ⟨k.i,k.d,cE va satp pick r.2.2.2 k.p⟩ kind (cz (cM k kind) (et r.2.1 va satp r.2.2.1) pick) else ⟨k.i,k.d,cE va satp pick r.2.2.2 k.p⟩
def Be (w w':World) (e:Ending) (b base gi gd gp:Nat) (k:KM) (r:Int × Int × Int × List ef) (mode:Int) (sum mxr:Bool) (satp kind va pick:Int):Prop:=
 ∃pa code,e=.returned (.tuple #[.int .u64 pa,cX code])∧(code=1∨code=2∨code=3)∧ck r mode sum mxr kind va=(if code=1 then 0 else if code=2 then eD kind else cQ kind,pa)∧SetAt w' b base gi gd gp (fp k kind va satp pick r code)∧Keeps w w' gi gd gp
set_option maxRecDepth 20000 in
set_option maxHeartbeats 3200000 in
theorem kZ (b base gi gd gp:Nat) (k:KM) (sv:Value) (zs:List Int) (mode:Int) (sum mxr:Bool) (satp kind va pick:Int) (w:World) (hS:SetAt w b base gi gd gp k) (hk:aV k=true) (hko:∀e∈k.p.es,dq e) (hli:k.i.es.length≤1048576) (hld:k.d.es.length≤1048576) (hkl:k.p.es.length≤1048576)
 (hB:SrcAt w sv zs) (hv0:0≤va) (hv1:va≤18446744073709551615) (hr0:0≤satp) (hr1:satp≤18446744073709551615) (hp0:0≤pick) (hp1:pick≤255):
 Calls Tryz.prog 105 #[.pointer (some ⟨b,0,none⟩),sv,.agg #[.int .i64 mode,.bool sum,.bool mxr,.int .u64 satp],.int .i64 kind,.int .u64 va,.int .i64 pick] w fun e w'=>Be w w' e b base gi gd gp k (aW zs satp va (aO k.p va (ay satp))) mode sum mxr satp kind va pick:=by
 have hvs:aG k.i false=true∧aG k.d false=true∧aG k.p true=true:=by
  simp only [aV,Bool.and_eq_true] at hk;exact ⟨hk.1.1,hk.1.2,hk.2⟩
 obtain ⟨vI,vD,vP⟩:=hvs;obtain ⟨ps,hsp,hpl⟩:=mR zs satp va k.p (ay satp) vP hB.bd;have HS:Hid (SetAt w b base gi gd gp k):=hS;have HB:Hid (SrcAt w sv zs):=hB;have hb:=hS.lt;have lgi:=(bI hS.2.1.1).2.2;have lgd:=(bI hS.2.1.2.1).2.2;have lgp:=(bI hS.2.1.2.2.1).2.2;simp only at lgi lgd lgp;have HWk:Hid (∀u,Below w.heap.size w u→Calls Tryz.prog 135 #[.pointer (some ⟨b,0,none⟩),sv,.int .u64 satp,.int .u64 va] u fun e w'=>ui u.heap.size w' e (aW zs satp va (aO k.p va (ay satp)))∧Below u.heap.size u w'):=fun u hu=>w6 b base gi gd gp k sv zs satp va u (HS.out.keep hu) vP hko hkl (HB.out.keep hu) hv0 hv1 hr0 hr1;have HA:Hid (∀u:World,Calls Tryz.prog 104 #[.int .u64 satp] u fun e w'=>e=.returned (.int .u64 (ay satp))∧w'=u):=fun u=>mA satp u hr0 hr1;generalize aW zs satp va (aO k.p va (ay satp))=r at *;have HSp:Hid (qo r 2 ps):=hsp;have n1:=(Below.refl w.heap.size w).alloc (Nat.le_refl _) (Obj.cells #[.int .i64 mode,.bool sum,.bool mxr,.int .u64 satp] 25);have H1:Hid ((w.alloc (Obj.cells #[.int .i64 mode,.bool sum,.bool mxr,.int .u64 satp] 25)).heap[w.heap.size]?=some (.cells #[.int .i64 mode,.bool sum,.bool mxr,.int .u64 satp] 25 (0,0))):=heap_alloc_new w _;have l1:w.heap.size<(w.alloc (Obj.cells #[.int .i64 mode,.bool sum,.bool mxr,.int .u64 satp] 25)).heap.size:=by simp
 clear hS hB hsp;go_enter Tryz.func105,Tryz.ntmps105;go_wp2_with fail;generalize w.alloc (Obj.cells #[.int .i64 mode,.bool sum,.bool mxr,.int .u64 satp] 25)=v1 at n1 H1 l1 ⊢;refine (HA.out v1).mono ?_;rintro e v1' ⟨rfl,rfl⟩;rename World=>v1;obtain ⟨⟨c0,c1,c2,c3⟩,_,_,_,_⟩:=aw H1.out;go_wp2_with fail;refine (HWk.out v1 n1).mono ?_;rintro e v2 ⟨hw,n2⟩;obtain ⟨ra,rc,rfl,o2⟩:=hw;obtain ⟨cd,lv,lf,rs⟩:=r;simp only at o2 ⊢;obtain ⟨fv,hfv⟩:∃fv,cX cd=fv:=⟨_,rfl⟩;have HFv:Hid (cX cd=fv):=hfv;rw [hfv];clear hfv;have n3:=n2.alloc n2.size (Obj.cells #[.int .i64 lv,.int .u64 lf,.slice ra rs.length rc] 179);have n3':=(Below.refl v2.heap.size v2).alloc (Nat.le_refl _) (Obj.cells #[.int .i64 lv,.int .u64 lf,.slice ra rs.length rc] 179);have H3:=ae H1 n3;have W3:Hid ((v2.alloc (Obj.cells #[.int .i64 lv,.int .u64 lf,.slice ra rs.length rc] 179)).heap[v2.heap.size]?=some (.cells #[.int .i64 lv,.int .u64 lf,.slice ra rs.length rc] 179 (0,0))):=heap_alloc_new v2 _;have RO3:=aj o2 n3';have A3:=Below.step n1 n3 (Nat.le_refl _);have s2:=n2.size;have s1:=n1.size;have s3:=n3'.size;clear c0 c1 c2 c3 n1 n2 n3 n3' o2 HWk HA;go_wp2_with fail;generalize v2.alloc (Obj.cells #[.int .i64 lv,.int .u64 lf,.slice ra rs.length rc] 179)=v3 at H3 W3 RO3 A3 s3 ⊢;have HPt:Hid (Calls Tryz.prog 136 #[.agg #[.int .i64 lv,.int .u64 lf,.slice ra rs.length rc]] v3 fun e w'=>(∃gr,e=.returned (.slice gr ps.length rc)∧(0<ps.length→∃gq,gr=some ⟨gq,0,none⟩∧v1.heap.size≤gq∧gq<v3.heap.size∧RowC v3 (some ⟨gq,0,none⟩) rs.length 3 (cD rs)))∧Below v3.heap.size v3 w'):=by
  rcases HSp.out.2 with ⟨e1,⟨ad,e2⟩,e3,e4,e5,e6⟩ | ⟨e1,e2,e3⟩
  ·simp only at e1 e2 e3 e4 e5 e6;have hlf:lf≠0:=by rintro rfl;exact absurd e3 (wP _)
   have hrl:rs.length=ps.length+1:=by rw [e2];simp
   rcases RO3.2 with ⟨h2,h3⟩ | ⟨gq,cq,cur,h2,hb2,hg2,hc1,hc2,_⟩
   ·omega
   ·cases h2;have hat:=bI RO3;have:=sL lv lf gq ps.length rc v3 hlf (by omega) (by omega) (by unfold maxLen at hc2;omega);rw [hrl];refine this.mono ?_;rintro e w' ⟨rfl,nb⟩;exact ⟨⟨_,rfl,fun _=>⟨gq,rfl,hb2,hat.2.2,by rw [←hrl];exact en RO3⟩⟩,nb⟩
  ·simp only at e1 e2 e3;subst e2;subst e3;refine (sK lv ra rs.length rc v3).mono ?_;rintro e w' ⟨rfl,nb⟩;refine ⟨⟨_,rfl,fun hpos=>?_⟩,nb⟩;rcases RO3.2 with ⟨h2,h3⟩ | ⟨gq,cq,cur,h2,hb2,hg2,hc1,hc2,_⟩
   ·omega
   ·cases h2;exact ⟨gq,rfl,hb2,(bI RO3).2.2,en RO3⟩
 refine HPt.out.mono ?_;rintro e v4 ⟨⟨gr,rfl,hgr⟩,n4⟩;have HGr:Hid (0<ps.length→∃gq,gr=some ⟨gq,0,none⟩∧v1.heap.size≤gq∧gq<v3.heap.size∧RowC v3 (some ⟨gq,0,none⟩) rs.length 3 (cD rs)):=hgr;have H4:=ae H3 n4;have W4:=ae W3 n4;have A4:=Below.step A3 n4 (Nat.le_refl _);have S4:=HS.out.keep A4;have HN4:Hid (Below v3.heap.size v3 v4):=n4;have s4:=n4.size;clear hgr HPt H3 W3 RO3 n4 A3;go_wp2_with fail;go_loopw [35] (fun i wr=>∃j:Nat,j≤ps.length∧i=.int .i64 j∧SetAt wr b base gi gd gp ⟨k.i,k.d,cE va satp pick (ps.take j) k.p⟩∧Keeps v4 wr gi gd gp) (fun i _=>ps.length-(intOf i).toNat)
 case atStart=>exact ⟨0,Nat.zero_le _,rfl,by simpa [cE] using S4,Keeps.refl _ _ _ _⟩
 case round=>
  obtain ⟨j,hj,rfl,hSr,hKr⟩:=hrel;have SR:Hid (SetAt wr b base gi gd gp ⟨k.i,k.d,cE va satp pick (ps.take j) k.p⟩):=hSr;have KR:Hid (Keeps v4 wr gi gd gp):=hKr;have sr:=hKr.2.2.2.1;clear hSr hKr;by_cases hlt:j<ps.length
  ·obtain ⟨gq,rfl,hq1,hq2,hq3⟩:=HGr.out (by omega);obtain ⟨q,hq⟩:∃q,ps[j]?=some q:=⟨_,List.getElem?_eq_getElem hlt⟩;have hrq:rs[j]?=some q:=by
    rcases HSp.out.2 with ⟨_,⟨ad,e2⟩,_⟩ | ⟨_,e2,_⟩
    ·simp only at e2;rw [e2,List.getElem?_append_left hlt];exact hq
    ·simp only at e2;rw [e2];exact hq
   have hrl:j<rs.length:=(List.getElem?_eq_some_iff.1 hrq).1;have RQ:RowC wr (some ⟨gq,0,none⟩) rs.length 3 (cD rs):=Keeps.row (hq3.keep HN4.out) KR.out (by omega) (by omega) (by omega);obtain ⟨f0,f1,f2⟩:=xE rs j q hrq;have hcell:∀i v,(cD rs)[i]?=some v→wr.cell? ⟨gq,i,none⟩=some v:=fun i v h=>by
    rcases RQ.2 with h0 | ⟨b',o',e',_,hc⟩
    ·omega
    ·cases e';have:=hc i v h;rwa [Nat.zero_add] at this
   have g0:wr.cell? ⟨gq,j*3,none⟩=some (.int .i64 q.1):=hcell _ _ f0;have g1:wr.cell? ⟨gq,j*3+1,none⟩=some (.int .u64 q.2.1):=hcell _ _ f1;have g2:wr.cell? ⟨gq,j*3+2,none⟩=some (.int .u64 q.2.2):=hcell _ _ f2;obtain ⟨hkd,hq0,hq2',hv0',hv1'⟩:=HSp.out.1 q (List.mem_of_getElem? hq);have HQ:Hid (ps[j]?=some q):=hq;have hrlc:rs.length≤rc∨True:=.inr trivial;clear RQ f0 f1 f2 hcell hq3 hrq hq;have n5:=(Below.refl wr.heap.size wr).alloc (Nat.le_refl _) (Obj.cells #[.int .i64 q.1,.int .u64 q.2.1,.int .u64 q.2.2] 90);have E5:Hid ((wr.alloc (Obj.cells #[.int .i64 q.1,.int .u64 q.2.1,.int .u64 q.2.2] 90)).heap[wr.heap.size]?=some (.cells #[.int .i64 q.1,.int .u64 q.2.1,.int .u64 q.2.2] 90 (0,0))):=heap_alloc_new wr _;go_wp2_with fail;generalize wr.alloc (Obj.cells #[.int .i64 q.1,.int .u64 q.2.1,.int .u64 q.2.2] 90)=v5 at n5 E5 ⊢;have S5:=SR.out.keep n5;obtain ⟨⟨g0,g1,g2⟩,_,_,_⟩:=ao E5.out;go_still_tail 10,(by kernel_rfl);go_wp2_with fail;have D5:Below v5.heap.size v5 v5.drew:=(Below.refl _ _).drew;have S5d:=S5.keep D5;have hpl5:=iY va satp pick (ps.take j) k.p;have hval:=ny va satp pick (ps.take j) k.p vP;have hsh:=ft hval;obtain ⟨p0,p1,p2⟩:=S5d.cellP;have hwant:bC q.2.2 q.1=iA true:=by rw [hkd];rfl
   refine (qa.2 b 6 gp (cE va satp pick (ps.take j) k.p).es.length base (cE va satp pick (ps.take j) k.p) q.2.2 q.1 va (ay satp) pick v5.drew rfl (by rw [hpl5.1];exact hkl) hsh.1 hsh.2.1 hsh.2.2.1 hsh.2.2.2 S5d.lt S5d.2.2.2.2 p0 p1 p2 S5d.2.1.2.2.1 (by omega) hv0 hv1 hv0' hv1' hp0 hp1).mono ?_;rintro e v6 ⟨rfl,o6,m6⟩;have hins:=mZ hval (iV q.1 va satp q.2.2 true hwant) ⟨hp0,hp1⟩;have hnew:cE va satp pick (ps.take (j+1)) k.p=⟨(cE va satp pick (ps.take j) k.p).sets,(cE va satp pick (ps.take j) k.p).ways,(cE va satp pick (ps.take j) k.p).es.set (dL (cE va satp pick (ps.take j) k.p) (et q.1 va satp q.2.2)+fU (cE va satp pick (ps.take j) k.p) (et q.1 va satp q.2.2) pick) (et q.1 va satp q.2.2)⟩:=by
    rw [yt va satp pick ps j q k.p HQ.out hkd,hins]
   have R6:=RowsAt.putP S5d.2.1 m6 List.length_set o6;have B6:=av S5d.1 m6 S5d.2.2.2.2;have K6:=(KR.out.trans (Keeps.of_below _ _ _ (Below.step n5 D5 (Nat.le_refl _)))).trans (Keeps.of_gb gi gd gp m6 (.inr (.inr rfl)));have HR6:Hid (SetAt v6 b base gi gd gp ⟨k.i,k.d,cE va satp pick (ps.take (j+1)) k.p⟩):=by
    rw [hnew];refine ⟨?_,R6,S5d.2.2⟩;rw [B6];simp only [sl,List.length_set]
   have HK6:Hid (Keeps v4 v6 gi gd gp):=K6;clear S5 S5d hpl5 hval hsh p0 p1 p2 hwant o6 m6 hins hnew R6 B6 K6 g0 g1 g2 E5 n5 D5;go_wp2_with fail;go_roundw
   case rel=>exact ⟨j+1,by omega,by go_num,HR6.out,HK6.out⟩
   case measure=>simp [intOf];omega
  ·have hje:j=ps.length:=by omega
   subst hje;have q1:=A9;have q2:=Ba;have q3:=Bb;have SE:SetAt wr b base gi gd gp ⟨k.i,k.d,cE va satp pick rs k.p⟩:=by
    have h:=SR.out;rw [List.take_length] at h;have:=wS va satp pick k.p HSp.out;simp only at this;rw [this];exact h
   have WE:Hid (wr.heap[v2.heap.size]?=some (.cells #[.int .i64 lv,.int .u64 lf,.slice ra rs.length rc] 179 (0,0))):=KR.out.heap W4.out (by omega) (by omega) (by omega);have CE:Hid (wr.heap[w.heap.size]?=some (.cells #[.int .i64 mode,.bool sum,.bool mxr,.int .u64 satp] 25 (0,0))):=KR.out.heap H4.out (by omega) (by omega) (by omega);have KE:Keeps w wr gi gd gp:=(Keeps.of_below _ _ _ A4).trans KR.out;rcases HSp.out.2 with ⟨e1,⟨ad,e2⟩,e3,e4,e5,e6⟩ | ⟨e1,e2,e3⟩
   ·simp only at e1 e2 e3 e4 e5 e6;subst e1;obtain rfl:fv=.nilIface:=by rw [←HFv.out];rfl
    obtain ⟨⟨c0,c1,c2,c3⟩,_,_,_,_⟩:=aw CE.out;obtain ⟨⟨d0,d1,d2⟩,_,_,_⟩:=ao WE.out;have HTL:Hid (∀u:World,Calls Tryz.prog 106 #[.int .u64 lf,.int .i64 lv,.agg #[.int .i64 mode,.bool sum,.bool mxr,.int .u64 satp],.int .i64 kind,.int .u64 va] u fun e w'=>e=.returned (.tuple #[.int .u64 (if cH lf kind mode sum mxr=true then eV lf lv va else 0),cX (if cH lf kind mode sum mxr=true then 1 else 2)])∧Below u.heap.size u w'):=fun u=>gf lf lv mode sum mxr satp kind va u e6.1 e6.2 hv0 hv1 (by omega);go_wp2_with fail;refine (HTL.out wr).mono ?_;by_cases hgr:cH lf kind mode sum mxr=true
    ·rw [if_pos hgr,if_pos hgr,show cX 1=.nilIface from rfl];rintro e v6 ⟨rfl,N6⟩;have W6:=ae WE N6;have D6:Below v6.heap.size v6 v6.drew:=(Below.refl _ _).drew;have N6d:=Below.step N6 D6 (Nat.le_refl _);have S6:=SE.keep N6d;clear c0 c1 c2 c3 d0 d1 d2;obtain ⟨⟨d0,d1,d2⟩,_,_,_⟩:=ao W6.out;have HLv:Hid (∀u:World,Calls Tryz.prog 102 #[.pointer (some ⟨b,0,none⟩),.int .i64 kind] u fun e w'=>e=.returned (.pointer (some ⟨b,if kind=0 then 0 else 3,none⟩))∧w'=u):=fun u=>tB b kind u;go_wp2_with fail;refine rP 10 (by kernel_rfl) (by kernel_rfl) ?_;simp only [List.take_succ_cons,List.take_zero,List.drop_succ_cons,List.drop_zero];repeat still_step
     still_call (HLv.out _)
     repeat still_step
     refine wpStill_nil ?_;by_cases hkz:kind=0
     ·rw [if_pos hkz];go_wp2_with fail;have hsh:=ft vI;refine (qa.1 b 0 gi k.i.es.length base k.i lf lv va (ay satp) pick v6.drew rfl hli hsh.1 hsh.2.1 hsh.2.2.1 hsh.2.2.2 S6.lt S6.2.2.1 (S6.cellI).1 (S6.cellI).2.1 (S6.cellI).2.2 S6.2.1.1 (by omega) hv0 hv1 e6.1 e6.2 hp0 hp1).mono ?_;rintro e v7 ⟨rfl,o7,m7⟩;have hins:=mZ vI (iV lv va satp lf false e3) ⟨hp0,hp1⟩;have R7:=RowsAt.putI S6.2.1 m7 List.length_set o7;have B7:=av S6.1 m7 S6.2.2.1;have K7:=(KE.trans (Keeps.of_below _ _ _ N6d)).trans (Keeps.of_gb gi gd gp m7 (.inl rfl));have T7:Hid (SetAt v7 b base gi gd gp (fp k kind va satp pick (1,lv,lf,rs) 1)):=by
       have hkm:fp k kind va satp pick (1,lv,lf,rs) 1=⟨⟨k.i.sets,k.i.ways,k.i.es.set (dL k.i (et lv va satp lf)+fU k.i (et lv va satp lf) pick) (et lv va satp lf)⟩,k.d,cE va satp pick rs k.p⟩:=by
        unfold fp p6 cM;simp only [if_true];first
         | (rw [if_pos hkz,if_pos hkz,hins])
         | (rw [if_neg hkz,if_neg hkz,hins])
       rw [hkm];refine ⟨?_,R7,S6.2.2⟩;rw [B7];simp only [sl,List.length_set]
      have HK7:Hid (Keeps w v7 gi gd gp):=K7;clear o7 m7 hins R7 B7 K7;go_wp2_with fail;refine bodyPost_ret (v:=.tuple #[.int .u64 (eV lf lv va),.nilIface]) (by simp [results,Tryz.results105,go_sem]) rfl ⟨_,1,rfl,.inl rfl,?_,T7.out,HK7.out⟩;simp only [ck,ey,if_pos hgr];simp
     ·rw [if_neg hkz];go_wp2_with fail;have hsh:=ft vD;refine (qa.1 b 3 gd k.d.es.length base k.d lf lv va (ay satp) pick v6.drew rfl hld hsh.1 hsh.2.1 hsh.2.2.1 hsh.2.2.2 S6.lt S6.2.2.2.1 (S6.cellD).1 (S6.cellD).2.1 (S6.cellD).2.2 S6.2.1.2.1 (by omega) hv0 hv1 e6.1 e6.2 hp0 hp1).mono ?_;rintro e v7 ⟨rfl,o7,m7⟩;have hins:=mZ vD (iV lv va satp lf false e3) ⟨hp0,hp1⟩;have R7:=RowsAt.putD S6.2.1 m7 List.length_set o7;have B7:=av S6.1 m7 S6.2.2.2.1;have K7:=(KE.trans (Keeps.of_below _ _ _ N6d)).trans (Keeps.of_gb gi gd gp m7 (.inr (.inl rfl)));have T7:Hid (SetAt v7 b base gi gd gp (fp k kind va satp pick (1,lv,lf,rs) 1)):=by
       have hkm:fp k kind va satp pick (1,lv,lf,rs) 1=⟨k.i,⟨k.d.sets,k.d.ways,k.d.es.set (dL k.d (et lv va satp lf)+fU k.d (et lv va satp lf) pick) (et lv va satp lf)⟩,cE va satp pick rs k.p⟩:=by
        unfold fp p6 cM;simp only [if_true];first
         | (rw [if_pos hkz,if_pos hkz,hins])
         | (rw [if_neg hkz,if_neg hkz,hins])
       rw [hkm];refine ⟨?_,R7,S6.2.2⟩;rw [B7];simp only [sl,List.length_set]
      have HK7:Hid (Keeps w v7 gi gd gp):=K7;clear o7 m7 hins R7 B7 K7;go_wp2_with fail;refine bodyPost_ret (v:=.tuple #[.int .u64 (eV lf lv va),.nilIface]) (by simp [results,Tryz.results105,go_sem]) rfl ⟨_,1,rfl,.inl rfl,?_,T7.out,HK7.out⟩;simp only [ck,ey,if_pos hgr];simp
    ·rw [if_neg hgr,if_neg hgr,show cX 2=.iface 167 (.agg #[]) from rfl];rintro e v6 ⟨rfl,N6⟩;go_wp2_with fail;refine bodyPost_ret (v:=.tuple #[.int .u64 0,.iface 167 (.agg #[])]) (by simp [results,Tryz.results105,go_sem]) rfl ⟨0,2,rfl,.inr (.inl rfl),?_,?_,KE.trans (Keeps.of_below _ _ _ N6)⟩
     ·simp only [ck,ey,if_neg hgr];simp
     ·have hkm:fp k kind va satp pick (1,lv,lf,rs) 2=⟨k.i,k.d,cE va satp pick rs k.p⟩:=by simp [fp]
      rw [hkm];exact SE.keep N6
   ·simp only at e1 e2 e3;rcases e1 with rfl | rfl
    ·obtain rfl:fv=.iface 167 (.agg #[]):=by rw [←HFv.out];rfl
     go_wp2_with fail;refine bodyPost_ret (v:=.tuple #[.int .u64 0,.iface 167 (.agg #[])]) (by simp [results,Tryz.results105,go_sem]) rfl ⟨0,2,rfl,.inr (.inl rfl),by simp [ck],?_,KE⟩;have hkm:fp k kind va satp pick (2,lv,lf,rs) 2=⟨k.i,k.d,cE va satp pick rs k.p⟩:=by simp [fp]
     rw [hkm];exact SE
    ·obtain rfl:fv=.iface 176 (.agg #[]):=by rw [←HFv.out];rfl
     go_wp2_with fail;refine bodyPost_ret (v:=.tuple #[.int .u64 0,.iface 176 (.agg #[])]) (by simp [results,Tryz.results105,go_sem]) rfl ⟨0,3,rfl,.inr (.inr rfl),by simp [ck],?_,KE⟩;have hkm:fp k kind va satp pick (3,lv,lf,rs) 3=⟨k.i,k.d,cE va satp pick rs k.p⟩:=by simp [fp]
     rw [hkm];exact SE
end Go.Proofs.YtaoaifmkhbgaiaaGreat
