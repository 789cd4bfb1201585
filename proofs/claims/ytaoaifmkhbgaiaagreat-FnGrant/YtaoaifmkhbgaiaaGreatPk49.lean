import Derived.Test.YtaoaifmkhbgaiaaGreatPk40
import Derived.Test.YtaoaifmkhbgaiaaGreatPk10
namespace Go.Proofs.YtaoaifmkhbgaiaaGreat
open Go.RowKit
set_option linter.unusedVariables false
theorem sV (satp:Int) (w:World) (h0:0≤satp) (h1:satp≤18446744073709551615):
 Calls Tryz.prog 9 #[.int .u64 satp] w fun e w'=>e=.returned (.int .u64 (ay satp))∧w'=w:=by
 have H:Hid (bits .and .u64 (satp/17592186044416) 65535=ay satp):=ew 16 (satp/17592186044416) 65535 rfl (by omega) (by omega) (by omega);go_enter Tryz.func9,Tryz.ntmps9;go_wp2_with fail;go_ret;exact ⟨dB H.out,rfl⟩
theorem z9 (mode:Int) (sum mxr:Bool) (satp:Int) (w:World) (h0:0≤satp) (h1:satp≤18446744073709551615) (hm:0≤mode∧mode≤2):
 Calls Tryz.prog 18 #[.agg #[.int .i64 mode,.bool sum,.bool mxr,.int .u64 satp]] w fun e w'=>e=.returned (.bool (onM mode satp))∧Below w.heap.size w w':=by
 obtain ⟨ob,hob⟩:∃ob,onM mode satp=ob:=⟨_,rfl⟩;have HO:Hid (∀b:Bool,(satp/1152921504606846976 == 8 && (mode != 2))=b→b=ob):=fun b hb=>by
  rw [←hb,←hob,onM];have e1:satp/1152921504606846976%16=satp/1152921504606846976:=by omega
  rw [e1];congr 1;rcases (show mode=0∨mode=1∨mode=2 by omega) with rfl | rfl | rfl <;> rfl
 rw [hob];clear hob;have F:=di w #[.int .i64 mode,.bool sum,.bool mxr,.int .u64 satp] 25;go_enter Tryz.func18,Tryz.ntmps18;go_upto_region 1 with fail;generalize w.alloc (Obj.cells #[.int .i64 mode,.bool sum,.bool mxr,.int .u64 satp] 25)=v1 at F ⊢;obtain ⟨h1',l1,n1⟩:=F;have c0:=ag h1' 0 (v:=.int .i64 mode) rfl;have c3:=ag h1' 3 (v:=.int .u64 satp) rfl;clear h1';by_cases h8:satp/1152921504606846976=8
 ·have e8:(satp/1152921504606846976 == 8)=true:=by simpa using h8
  have HO2:Hid (∀b:Bool,(mode != 2)=b→b=ob):=fun b hb=>HO.out b (by rw [e8,Bool.true_and];exact hb);go_wp2_with fail;go_ret;exact ⟨aF (HO2.out _ rfl),n1⟩
 ·have e8:(satp/1152921504606846976 == 8)=false:=by simpa using h8
  have ho:false=ob:=HO.out false (by rw [e8,Bool.false_and]);subst ho;go_wp2_with fail;go_ret;exact ⟨rfl,n1⟩
theorem qZ:(Tryz.prog.info? 57).map (·.size)=some 4:=by kernel_rfl
theorem mr (a:Bool) (x y z:Int):(#[.bool a,.int .i64 x,.int .i64 y,.int .u64 z]:Array Value).all (·.oneCell')=true:=by simp [Value.oneCell']
theorem mt (kind:Int):eD kind≠63∧cQ kind≠63:=by
 unfold eD cQ;constructor
 ·split
  ·decide
  ·split <;> decide
 ·split
  ·decide
  ·split <;> decide
theorem sW (pte level mode:Int) (sum mxr:Bool) (kind va:Int):(ey pte level mode sum mxr kind va).1≠63:=by
 unfold ey;split
 ·show (0:Int)≠63;decide
 ·exact (mt kind).1
theorem uH (r:Int × Int × Int × List ef) (mode:Int) (sum mxr:Bool) (kind va:Int):(ck r mode sum mxr kind va).1≠63:=by
 unfold ck;split
 ·exact (mt kind).1
 ·split
  ·exact (mt kind).2
  ·exact sW _ _ _ _ _ _ _
theorem uI {zs:List Int} {mode:Int} {sum mxr:Bool} {satp:Int} {k:KM} {kind va pick:Int} (h:(ak zs mode sum mxr satp k kind va pick).1.1=63):(ak zs mode sum mxr satp k kind va pick).2=k0M:=by
 unfold ak at h ⊢;split
 ·rfl
 ·rename_i hb;rw [if_neg hb] at h;split at h
  ·cases h
  ·split at h
   ·exact absurd h (mt kind).1
   ·split at h
    ·exact absurd h (sW _ _ _ _ _ _ _)
    ·exact absurd h (uH _ _ _ _ _ _)
end Go.Proofs.YtaoaifmkhbgaiaaGreat
