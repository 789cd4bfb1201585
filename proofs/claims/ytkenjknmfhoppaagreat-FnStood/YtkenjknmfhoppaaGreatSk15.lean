import Derived.Test.YtkenjknmfhoppaaGreatSk14
import Derived.Laws.CopyRow
namespace Go.Proofs.YtkenjknmfhoppaaGreat
open Go.RowKit
set_option linter.unusedVariables false
set_option maxHeartbeats 6400000
set_option maxRecDepth 20000
theorem qw (b o:Nat) (sets tag:Int) (w:World) (hs:sets=1∨sets=2∨sets=4∨sets=8) (c0:w.cell? (AD b o)=some (VI sets)) (ht:0<=tag) (ht1:tag<=18446744073709551615):
 Calls Tryz.prog 137 #[PT b o,VU tag] w fun e w'=>e=.returned (VI (tag%sets))∧w'=w:=by
 rcases hs with rfl | rfl | rfl | rfl;all_goals
  go_enter Tryz.func137,Tryz.ntmps137;go_wp2;go_ret;exact ⟨cC (by omega),rfl⟩
theorem qx (b o:Nat) (sets tag:Int) (w:World) (hs:sets=1∨sets=2∨sets=4∨sets=8) (c0:w.cell? (AD b o)=some (VI sets)) (ht:0<=tag) (ht1:tag<=18446744073709551615):
 Calls Tryz.prog 139 #[PT b o,VU tag] w fun e w'=>e=.returned (VI (tag%sets))∧w'=w:=by
 rcases hs with rfl | rfl | rfl | rfl;all_goals
  go_enter Tryz.func139,Tryz.ntmps139;go_wp2;go_ret;exact ⟨cC (by omega),rfl⟩
theorem Bm (z:EntM) (n:Nat):(madeCells (jV z).toArray (n*6)).toList=aO (List.replicate n z):=by
 apply List.ext_getElem?;intro j;by_cases hj:j<n*6
 ·have hq:j/6<(List.replicate n z).length:=by simp;omega
  have:=sI (List.replicate n z) (j/6) (j%6) hq (by omega);rw [show j/6*6+j%6=j by omega] at this;rw [this];have h6:j%6<(jV z).length:=by simp [jV];omega
  simp only [madeCells,List.getElem_replicate];rw [geg h6];simp [hj,jV];rw [geg (by simpa [jV] using h6)];rfl
 ·rw [List.getElem?_eq_none (by simp [madeCells];omega),List.getElem?_eq_none (by rw [eT];simp;omega)]
theorem xV (n:Nat) (hn:n<=1048576):∃cs:Array Value,cs.toList=aO (List.replicate n cH)∧∀u:World,(Instr.makeSlice 37 (VI (n:Int)) (VI (n:Int))).run Tryz.prog u=.ok (SL u.heap.size n n) (u.alloc (.cells cs 127)):=by
 obtain ⟨i0,hi,hz0,hz1,hz2⟩:=info_parts Tryz.infoEnt;refine ⟨madeCells (Value.agg #[.bool false,VI 0,VU 0,VU 0,.bool false,VU 0]).cells (n*6),?_,fun u=>?_⟩
 ·exact Bm cH n
 ·have:=run_make (P:=Tryz.prog) u 37 127 i0 _ Tryz.underlying37 hi hz0 .i64 .i64 n n (by omega) (Int.le_refl _) (by rw [hz2];omega) (by omega);rw [hz1] at this;simpa using this
theorem tr (sets ways:Int) (a:Option Addr) (n cap:Nat) (w:World) (hn:n<=1048576) (hs: -9223372036854775808<=sets∧sets<=9223372036854775807) (hw: -9223372036854775808<=ways∧ways<=9223372036854775807):
 Calls Tryz.prog 135 #[.agg #[VI sets,VI ways,.slice a n cap]] w fun e w'=>e=.returned (.bool (decide ((sets=1∨sets=2∨sets=4∨sets=8)∧1<=ways∧ways<=4∧(n:Int)=sets*ways)))∧Bw w w':=by
 have n1:=(Below.refl w.heap.size w).alloc nle (Obj.cells #[VI sets,VI ways,.slice a n cap] 39);by_cases h1:sets=1∨sets=2∨sets=4∨sets=8
 ·by_cases h2:¬(1<=ways)
  ·rcases h1 with rfl | rfl | rfl | rfl;all_goals
    go_enter Tryz.func135,Tryz.ntmps135;go_wp2;go_ret;exact ⟨aD (by simp;omega),n1⟩
  ·have h2':=Decidable.not_not.1 h2;clear h2;by_cases h3:¬(ways<=4)
   ·rcases h1 with rfl | rfl | rfl | rfl;all_goals
     go_enter Tryz.func135,Tryz.ntmps135;go_wp2;go_ret;exact ⟨aD (by simp;omega),n1⟩
   ·have h3':=Decidable.not_not.1 h3;clear h3;rcases h1 with rfl | rfl | rfl | rfl;all_goals
     go_enter Tryz.func135,Tryz.ntmps135;go_wp2;go_ret;exact ⟨aD (by simp [h2',h3'];rfl),n1⟩
 ·have h1':=h1;simp only [not_or] at h1';obtain ⟨s1,s2,s4,s8⟩:=h1';go_enter Tryz.func135,Tryz.ntmps135;go_wp2;go_ret;exact ⟨aD (by simp [h1]),n1⟩
def ta (e:EntM):Bool:=e.valid == false && e.level == 0 && e.tag == 0 && e.asid == 0 && e.glob == false && e.pte == 0
theorem Fx (v:Bool) (lv tg asd:Int) (gl:Bool) (pt:Int) (w:World):
 (binOp .eql 127 (.agg #[.bool v,VI lv,VU tg,VU asd,.bool gl,VU pt]) (.agg #[.bool false,VI 0,VU 0,VU 0,.bool false,VU 0])).run Tryz.prog w=.ok (.bool (ta ⟨v,lv,tg,asd,gl,pt⟩)) w:=by
 unfold ta;cases v
 case true=>(go_simp;try simp)
 by_cases h1:lv=0
 case neg=>(have q1:(lv == 0)=false:=by simpa using h1);(go_simp;try simp [q1])
 subst h1;by_cases h2:tg=0
 case neg=>(have q1:(tg == 0)=false:=by simpa using h2);(go_simp;try simp [q1])
 subst h2;by_cases h3:asd=0
 case neg=>(have q1:(asd == 0)=false:=by simpa using h3);(go_simp;try simp [q1])
 subst h3;cases gl
 case true=>(go_simp;try simp)
 by_cases h4:pt=0
 case neg=>(have q1:(pt == 0)=false:=by simpa using h4);(go_simp;try simp [q1])
 subst h4;go_simp;try simp
end Go.Proofs.YtkenjknmfhoppaaGreat
