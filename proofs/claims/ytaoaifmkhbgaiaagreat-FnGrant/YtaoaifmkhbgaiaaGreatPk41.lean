import Derived.Test.YtaoaifmkhbgaiaaGreatPk40
import Derived.Test.YtaoaifmkhbgaiaaGreatPk08
import Derived.Test.YtaoaifmkhbgaiaaGreatPk07
import Derived.Test.YtaoaifmkhbgaiaaGreatPk10
namespace Go.Proofs.YtaoaifmkhbgaiaaGreat
open Go.RowKit
set_option linter.unusedVariables false
theorem zr (z:EntM) (n:Nat):(madeCells (fj z).toArray (n*6)).toList=aH (List.replicate n z):=by
 apply List.ext_getElem?;intro j;by_cases hj:j<n*6
 ·have hq:j/6<(List.replicate n z).length:=by simp;omega
  have:=mB (List.replicate n z) (j/6) (j%6) hq (by omega);rw [show j/6*6+j%6=j by omega] at this;rw [this];have h6:j%6<(fj z).length:=by simp [fj];omega
  simp only [madeCells,List.getElem_replicate];rw [List.getElem?_eq_getElem h6];simp [hj,fj];rw [List.getElem?_eq_getElem (by simpa [fj] using h6)];rfl
 ·rw [List.getElem?_eq_none (by simp [madeCells];omega),List.getElem?_eq_none (by rw [eR];simp;omega)]
theorem ve (v:World) (T E:TypeId) (xs cs:Array Value) (ss:List Value) (n:Nat) (hcs:cs.toList=ss) (hn:ss.length=n*6) (hm:n≤maxLen):
 ((v.alloc (.cells cs E)).alloc (.cells xs T)).drew.heap[v.heap.size+1]?=some (.cells xs T (0,0))∧((v.alloc (.cells cs E)).alloc (.cells xs T)).drew.ownsRow v.heap.size E 6 (.slice (some ⟨v.heap.size,0,none⟩) n n) n ss∧
  Below v.heap.size v ((v.alloc (.cells cs E)).alloc (.cells xs T)).drew∧v.heap.size+1<((v.alloc (.cells cs E)).alloc (.cells xs T)).drew.heap.size:=by
 have hs:cs.size=n*6:=by rw [←hn,←hcs];simp
 have h1:=World.ownsRow_lit (e:=E) (size:=6) v cs n (Nat.le_refl v.heap.size) hm hs;rw [hcs] at h1;refine ⟨?_,aj h1 (((Below.refl _ _).alloc (Nat.le_refl _) _).drew),(((Below.refl v.heap.size v).alloc (Nat.le_refl _) _).alloc (by simp) _).drew,?_⟩
 ·have:=heap_alloc_new (v.alloc (.cells cs E)) (.cells xs T);simp only [World.size_alloc] at this;exact this
 ·show _<((v.alloc (.cells cs E)).alloc (.cells xs T)).heap.size;simp
theorem vf (v:World) (T E:TypeId) (xs cs:Array Value) (ss:List Value) (n:Nat) (hcs:cs.toList=ss) (hn:ss.length=n*6) (hm:n≤maxLen):
 ((v.alloc (.cells xs T)).alloc (.cells cs E)).drew.heap[v.heap.size]?=some (.cells xs T (0,0))∧((v.alloc (.cells xs T)).alloc (.cells cs E)).drew.ownsRow v.heap.size E 6 (.slice (some ⟨v.heap.size+1,0,none⟩) n n) n ss∧
  Below v.heap.size v ((v.alloc (.cells xs T)).alloc (.cells cs E)).drew∧v.heap.size<((v.alloc (.cells xs T)).alloc (.cells cs E)).drew.heap.size:=by
 have hs:cs.size=n*6:=by rw [←hn,←hcs];simp
 have h1:=World.ownsRow_lit (e:=E) (size:=6) (v.alloc (.cells xs T)) cs n (base:=v.heap.size) (by simp) hm hs;rw [hcs] at h1;simp only [World.size_alloc] at h1;refine ⟨?_,h1,(((Below.refl v.heap.size v).alloc (Nat.le_refl _) _).alloc (by simp) _).drew,?_⟩
 ·show ((v.alloc (.cells xs T)).alloc (.cells cs E)).heap[v.heap.size]?=_;rw [heap_alloc_old _ _ (by simp)];exact heap_alloc_new v _
 ·show _<((v.alloc (.cells xs T)).alloc (.cells cs E)).heap.size;simp;omega
theorem fR {w:World} {g n:Nat} {es:List EntM} (h:RowC w (some ⟨g,0,none⟩) n 6 (aH es)) (hn:es.length=n) (k:Nat) (x:EntM) (hx:es[k]?=some x) (j:Nat) (v:Value) (hj:j<6) (hv:(fj x)[j]?=some v):
 w.cell? ⟨g,k*6+j,none⟩=some v:=by
 have hk:k<es.length:=(List.getElem?_eq_some_iff.1 hx).1;rcases h.2 with h0 | ⟨b',off',e,_,hc⟩
 ·omega
 ·simp at e;obtain ⟨rfl,rfl⟩:=e;have:=hc (k*6+j) v (by
   rw [mB es k j hk hj];obtain ⟨_,rfl⟩:=List.getElem?_eq_some_iff.1 hx;exact hv)
  rw [Nat.zero_add] at this;exact this
theorem tr {w w':World} {r:Option Nat} (h:Below w.heap.size w w'):w.grownBy w' r:=
 ⟨h.os,h.tape,h.output,h.size,fun i hi _=>h.block i hi⟩
theorem qO (w:World) (r:Option Nat):w.grownBy w.drew r:=tr (Below.refl _ _).drew
theorem iB {B:Nat} {a w:World} {g:Nat} (h:Below B a w) (hg:B≤g) (x y z u:Value):Below B a ((((w.setCell ⟨g,0,none⟩ x).setCell ⟨g,1,none⟩ y).setCell ⟨g,2,none⟩ z).setCell ⟨g,3,none⟩ u):=
 (eg h hg x y z).setCell (p:=⟨g,3,none⟩) hg u
def qt (q:Bool) (X:Bool × Int × Int × Int):Bool × Int × Int × Int:=if q=true then X else (false,0,0,0)
def kB (q:Bool) (X:Bool × Int × Int × Int) (e:Ending):Prop:=
 e=.returned (.tuple #[.agg #[.bool (qt q X).1,.int .i64 (qt q X).2.1,.int .i64 (qt q X).2.2.1,.int .u64 (qt q X).2.2.2],.bool q])
end Go.Proofs.YtaoaifmkhbgaiaaGreat

namespace Go.Proofs.YtaoaifmkhbgaiaaGreat
open Go.RowKit
set_option linter.unusedVariables false
theorem ky (level:Int) (w:World) (hl:level=0∨level=1∨level=2):
 Calls Tryz.prog 143 #[.int .i64 level] w fun e w'=>e=.returned (.int .u64 (lS level-1))∧w'=w:=by
 rcases hl with rfl | rfl | rfl;all_goals
  go_enter Tryz.func143,Tryz.ntmps143;go_wp2_with (go_at_call 127;refine (dY 15 32767 _ (by omega)).mono ?_;rintro e w' ⟨rfl,rfl⟩);go_ret;exact ⟨dB (by decide),rfl⟩
theorem wT (va level:Int) (w:World) (hv0:0≤va) (hv1:va≤18446744073709551615) (hl:level=0∨level=1∨level=2):
 Calls Tryz.prog 128 #[.int .u64 va,.int .i64 level] w fun e w'=>e=.returned (.int .u64 (dt va level))∧∃n,w'=w.drewN n:=by
 rcases hl with rfl | rfl | rfl
 ·have H:Hid (bits .and .u64 (va/64) 511=dt va 0):=ew 9 (va/64) 511 rfl (by omega) (by omega) (by omega);go_enter Tryz.func128,Tryz.ntmps128;go_wp2_with fail;go_quiet ((go_at_call 143;exact Calls.quiet_of_same (ky 0 _ (by omega))));go_wp2_with fail;go_ret;exact ⟨dB H.out,nq,rfl⟩
 ·have H:Hid (bits .and .u64 (va/512) 63=dt va 1):=ew 6 (va/512) 63 rfl (by omega) (by omega) (by omega);go_enter Tryz.func128,Tryz.ntmps128;go_wp2_with fail;go_quiet ((go_at_call 143;exact Calls.quiet_of_same (ky 1 _ (by omega))));go_wp2_with fail;go_ret;exact ⟨dB H.out,nq,rfl⟩
 ·have H:Hid (bits .and .u64 (va/4096) 7=dt va 2):=ew 3 (va/4096) 7 rfl (by omega) (by omega) (by omega);go_enter Tryz.func128,Tryz.ntmps128;go_wp2_with fail;go_quiet ((go_at_call 143;exact Calls.quiet_of_same (ky 2 _ (by omega))));go_wp2_with fail;go_ret;exact ⟨dB H.out,nq,rfl⟩
theorem mA (satp:Int) (w:World) (h0:0≤satp) (h1:satp≤18446744073709551615):
 Calls Tryz.prog 104 #[.int .u64 satp] w fun e w'=>e=.returned (.int .u64 (ay satp))∧w'=w:=by
 have H:Hid (bits .and .u64 (satp/17592186044416) 65535=ay satp):=ew 16 (satp/17592186044416) 65535 rfl (by omega) (by omega) (by omega);go_enter Tryz.func104,Tryz.ntmps104;go_wp2_with (go_at_call 127;refine (dY 16 65535 _ (by omega)).mono ?_;rintro e w' ⟨rfl,rfl⟩);go_ret;exact ⟨dB H.out,rfl⟩
theorem wU (x level:Int) (w:World) (h0:0≤x) (h1:x≤18446744073709551615):
 Calls Tryz.prog 183 #[.int .u64 x,.int .i64 level] w fun e w'=>e=.returned (.bool (bC x level == 2))∧w'=w:=by
 go_enter Tryz.func183,Tryz.ntmps183;go_wp2_with (go_at_call 157;refine (oM x level _ h0 h1).mono ?_;rintro e w' ⟨rfl,rfl⟩);go_ret;exact ⟨aF (by simp),rfl⟩
theorem wV (x level:Int) (w:World) (h0:0≤x) (h1:x≤18446744073709551615):
 Calls Tryz.prog 184 #[.int .u64 x,.int .i64 level] w fun e w'=>e=.returned (.bool (bC x level == 1))∧w'=w:=by
 go_enter Tryz.func184,Tryz.ntmps184;go_wp2_with (go_at_call 157;refine (oM x level _ h0 h1).mono ?_;rintro e w' ⟨rfl,rfl⟩);go_ret;exact ⟨aF (by simp),rfl⟩
theorem oG (k:Int) (w:World):
 Calls Tryz.prog 58 #[.int .i64 k] w fun e w'=>e=.returned (.bool (decide (0≤k∧k≤255)))∧w'=w:=by
 by_cases h:0≤k
 ·go_enter Tryz.func58,Tryz.ntmps58;go_wp2_with fail;go_ret;exact ⟨aF (by simp [h]),rfl⟩
 ·go_enter Tryz.func58,Tryz.ntmps58;go_wp2_with fail;go_ret;exact ⟨aF (by simp;omega),rfl⟩
end Go.Proofs.YtaoaifmkhbgaiaaGreat

namespace Go.Proofs.YtaoaifmkhbgaiaaGreat
open Go.RowKit
set_option linter.unusedVariables false
theorem kO (w:World) (x y:Obj):Below w.heap.size w ((w.alloc x).alloc y):=((Below.refl w.heap.size w).alloc (Nat.le_refl _) x).alloc (by simp) y
theorem mG (w:World) (A:Array Value) (T:TypeId) (B:Array Value) (U:TypeId) (k:Nat):∃v2,((w.alloc (Obj.cells A T)).alloc (Obj.cells B U)).drewN k=v2∧Hid (v2.heap[w.heap.size]?=some (.cells A T (0,0)))∧Hid (v2.heap[w.heap.size+1]?=some (.cells B U (0,0)))∧Below w.heap.size w v2∧v2.heap.size=w.heap.size+2:=by
 refine ⟨_,rfl,?_,?_,below_drewN (kO _ _ _) k,?_⟩
 ·show ((w.alloc (Obj.cells A T)).alloc (Obj.cells B U)).heap[w.heap.size]?=_;rw [heap_alloc_old _ _ (by simp)];exact heap_alloc_new w _
 ·have:=heap_alloc_new (w.alloc (Obj.cells A T)) (Obj.cells B U);simp only [World.size_alloc] at this;exact this
 ·show ((w.alloc (Obj.cells A T)).alloc (Obj.cells B U)).heap.size=_;simp
theorem jg (x:Int) (w:World):(method 353 101 (.int .u64 x) "loop.example/s0051/impl.goodAt").run Tryz.prog w=.ok (183,.int .u64 x) w:=by kernel_rfl
theorem jh (x:Int) (w:World):(method 353 102 (.int .u64 x) "loop.example/s0051/impl.goodAt").run Tryz.prog w=.ok (184,.int .u64 x) w:=by kernel_rfl
def vy (z0:Nat):Prop:=∀(lv tg asd pt tm:Int) (gl:Bool) (w:World),Calls Tryz.prog z0 #[.agg #[.bool false,.int .i64 lv,.int .u64 tg,.int .u64 asd,.bool gl,.int .u64 pt]] w fun e w'=>e=.returned (.tuple #[dl cL,.bool false])∧Below w.heap.size w w'
set_option maxHeartbeats 1600000 in
theorem xO:vy 112∧vy 114:=by
 refine ⟨?_,?_⟩;have mL:Hid True:=trivial
 rotate_left
 have mP:Hid True:=trivial
 rotate_left
 all_goals
  intro lv tg asd pt tm gl w;first
   | (replace mL:=mL;go_enter Tryz.func112,Tryz.ntmps112)
   | (replace mP:=mP;go_enter Tryz.func114,Tryz.ntmps114)
  go_wp2_with fail;go_quiet (fail);go_wp2_with fail;first
   | (replace mL:=mL;exact bodyPost_ret (v:=.tuple #[dl cL,.bool false]) (by simp [results,Tryz.results112,go_sem,dl,cL]) rfl ⟨rfl,js (below_drewN (kO _ _ _) nq) (by omega) _ _ _ _ _ _⟩)
   | (replace mP:=mP;exact bodyPost_ret (v:=.tuple #[dl cL,.bool false]) (by simp [results,Tryz.results114,go_sem,dl,cL]) rfl ⟨rfl,js (below_drewN (kO _ _ _) nq) (by omega) _ _ _ _ _ _⟩)
def vH (z0:Nat):Prop:=∀(lv tg asd pt tm:Int) (gl:Bool) (w:World) (HKL:Hid (∀w,Calls Tryz.prog 142 #[.int .i64 lv] w fun e w'=>e=.returned (.bool false)∧w'=w)),Calls Tryz.prog z0 #[.agg #[.bool true,.int .i64 lv,.int .u64 tg,.int .u64 asd,.bool gl,.int .u64 pt]] w fun e w'=>e=.returned (.tuple #[dl cL,.bool false])∧Below w.heap.size w w'
set_option maxHeartbeats 1600000 in
theorem xP:vH 112∧vH 114:=by
 refine ⟨?_,?_⟩;have mL:Hid True:=trivial
 rotate_left
 have mP:Hid True:=trivial
 rotate_left
 all_goals
  intro lv tg asd pt tm gl w HKL;first
   | (replace mL:=mL;go_enter Tryz.func112,Tryz.ntmps112)
   | (replace mP:=mP;go_enter Tryz.func114,Tryz.ntmps114)
  go_wp2_with fail;go_quiet ((go_at_call 142;exact Calls.quiet_of_same (HKL.out _)));go_wp2_with fail;first
   | (replace mL:=mL;exact bodyPost_ret (v:=.tuple #[dl cL,.bool false]) (by simp [results,Tryz.results112,go_sem,dl,cL]) rfl ⟨rfl,js (below_drewN (kO _ _ _) nq) (by omega) _ _ _ _ _ _⟩)
   | (replace mP:=mP;exact bodyPost_ret (v:=.tuple #[dl cL,.bool false]) (by simp [results,Tryz.results114,go_sem,dl,cL]) rfl ⟨rfl,js (below_drewN (kO _ _ _) nq) (by omega) _ _ _ _ _ _⟩)
def vJ (z0:Nat):Prop:=∀(lv tg asd pt tm:Int) (gl:Bool) (w:World) (HKL:Hid (∀w,Calls Tryz.prog 142 #[.int .i64 lv] w fun e w'=>e=.returned (.bool true)∧w'=w)) (HTM:Hid (∀w,Calls Tryz.prog 143 #[.int .i64 lv] w fun e w'=>e=.returned (.int .u64 tm)∧w'=w)) (h:¬(tg≤tm)),Calls Tryz.prog z0 #[.agg #[.bool true,.int .i64 lv,.int .u64 tg,.int .u64 asd,.bool gl,.int .u64 pt]] w fun e w'=>e=.returned (.tuple #[dl cL,.bool false])∧Below w.heap.size w w'
set_option maxHeartbeats 1600000 in
theorem xQ:vJ 112∧vJ 114:=by
 refine ⟨?_,?_⟩;have mL:Hid True:=trivial
 rotate_left
 have mP:Hid True:=trivial
 rotate_left
 all_goals
  intro lv tg asd pt tm gl w HKL HTM h;first
   | (replace mL:=mL;go_enter Tryz.func112,Tryz.ntmps112)
   | (replace mP:=mP;go_enter Tryz.func114,Tryz.ntmps114)
  go_wp2_with fail;go_quiet (first
   | (go_at_call 142;exact Calls.quiet_of_same (HKL.out _))
   | (go_at_call 143;exact Calls.quiet_of_same (HTM.out _)))
  go_wp2_with fail;first
   | (replace mL:=mL;exact bodyPost_ret (v:=.tuple #[dl cL,.bool false]) (by simp [results,Tryz.results112,go_sem,dl,cL]) rfl ⟨rfl,js (below_drewN (kO _ _ _) nq) (by omega) _ _ _ _ _ _⟩)
   | (replace mP:=mP;exact bodyPost_ret (v:=.tuple #[dl cL,.bool false]) (by simp [results,Tryz.results114,go_sem,dl,cL]) rfl ⟨rfl,js (below_drewN (kO _ _ _) nq) (by omega) _ _ _ _ _ _⟩)
def vK (z0:Nat):Prop:=∀(lv tg asd pt tm:Int) (gl:Bool) (w:World) (HKL:Hid (∀w,Calls Tryz.prog 142 #[.int .i64 lv] w fun e w'=>e=.returned (.bool true)∧w'=w)) (HTM:Hid (∀w,Calls Tryz.prog 143 #[.int .i64 lv] w fun e w'=>e=.returned (.int .u64 tm)∧w'=w)) (h:tg≤tm) (h2:¬(asd≤65535)),Calls Tryz.prog z0 #[.agg #[.bool true,.int .i64 lv,.int .u64 tg,.int .u64 asd,.bool gl,.int .u64 pt]] w fun e w'=>e=.returned (.tuple #[dl cL,.bool false])∧Below w.heap.size w w'
set_option maxHeartbeats 1600000 in
theorem xR:vK 112∧vK 114:=by
 refine ⟨?_,?_⟩;have mL:Hid True:=trivial
 rotate_left
 have mP:Hid True:=trivial
 rotate_left
 all_goals
  intro lv tg asd pt tm gl w HKL HTM h h2;first
   | (replace mL:=mL;go_enter Tryz.func112,Tryz.ntmps112)
   | (replace mP:=mP;go_enter Tryz.func114,Tryz.ntmps114)
  go_wp2_with fail;go_quiet (first
   | (go_at_call 142;exact Calls.quiet_of_same (HKL.out _))
   | (go_at_call 143;exact Calls.quiet_of_same (HTM.out _)))
  go_wp2_with fail;first
   | (replace mL:=mL;exact bodyPost_ret (v:=.tuple #[dl cL,.bool false]) (by simp [results,Tryz.results112,go_sem,dl,cL]) rfl ⟨rfl,js (below_drewN (kO _ _ _) nq) (by omega) _ _ _ _ _ _⟩)
   | (replace mP:=mP;exact bodyPost_ret (v:=.tuple #[dl cL,.bool false]) (by simp [results,Tryz.results114,go_sem,dl,cL]) rfl ⟨rfl,js (below_drewN (kO _ _ _) nq) (by omega) _ _ _ _ _ _⟩)
def vL (z0:Nat):Prop:=∀(lv tg asd pt tm:Int) (gl g5:Bool) (w:World) (HKL:Hid (∀w,Calls Tryz.prog 142 #[.int .i64 lv] w fun e w'=>e=.returned (.bool true)∧w'=w)) (HTM:Hid (∀w,Calls Tryz.prog 143 #[.int .i64 lv] w fun e w'=>e=.returned (.int .u64 tm)∧w'=w)) (h:tg≤tm) (h2:asd≤65535) (HB:Hid (∀w,Calls Tryz.prog 144 #[.int .u64 pt,.int .u64 32] w fun e w'=>e=.returned (.bool g5)∧w'=w)) (hne:(gl == g5)=false),Calls Tryz.prog z0 #[.agg #[.bool true,.int .i64 lv,.int .u64 tg,.int .u64 asd,.bool gl,.int .u64 pt]] w fun e w'=>e=.returned (.tuple #[dl cL,.bool false])∧Below w.heap.size w w'
set_option maxHeartbeats 1600000 in
theorem xT:vL 112∧vL 114:=by
 refine ⟨?_,?_⟩;have mL:Hid True:=trivial
 rotate_left
 have mP:Hid True:=trivial
 rotate_left
 all_goals
  intro lv tg asd pt tm gl g5 w HKL HTM h h2 HB hne;have hne2:(gl != g5)=true:=by simp [bne,hne]
  first
   | (replace mL:=mL;have hm:=jg pt)
   | (replace mP:=mP;have hm:=jh pt)
  first
   | (replace mL:=mL;go_enter Tryz.func112,Tryz.ntmps112)
   | (replace mP:=mP;go_enter Tryz.func114,Tryz.ntmps114)
  go_wp2_with fail;go_quiet (first
   | (go_at_call 142;exact Calls.quiet_of_same (HKL.out _))
   | (go_at_call 143;exact Calls.quiet_of_same (HTM.out _)))
  first
   | (replace mL:=mL;obtain ⟨v2,e2,P1,P2,B1,S1⟩:=mG w #[.bool true,.int .i64 lv,.int .u64 tg,.int .u64 asd,.bool gl,.int .u64 pt] 62 #[.int .i64 0,.int .u64 0,.int .u64 0,.bool false,.bool false,.int .u64 0] 173 nq)
   | (replace mP:=mP;obtain ⟨v2,e2,P1,P2,B1,S1⟩:=mG w #[.bool true,.int .i64 lv,.int .u64 tg,.int .u64 asd,.bool gl,.int .u64 pt] 62 #[.int .i64 0,.int .u64 0,.int .u64 0,.bool false,.bool false,.int .u64 0] 183 nq)
  rw [e2];clear e2;obtain ⟨⟨x0,x1,x2,x3,x4,x5⟩,_⟩:=gH P1.out;obtain ⟨⟨y0,y1,y2,y3,y4,y5⟩,z0,z1,z2,z3,z4,z5⟩:=gH P2.out;have ne1:v2.heap.size≠w.heap.size:=by omega
  have ne2:v2.heap.size≠w.heap.size+1:=by omega
  have ne3:w.heap.size<v2.heap.size:=by omega
  have ne4:w.heap.size+1<v2.heap.size:=by omega
  clear HKL HTM;go_wp2_with fail;go_quiet ((go_at_call 144;exact Calls.quiet_of_same (HB.out _)));go_wp2_with fail;first
   | (replace mL:=mL;exact bodyPost_ret (v:=.tuple #[dl cL,.bool false]) (by simp [results,Tryz.results112,go_sem,dl,cL,y0,y1,y2,y3,y4,y5]) rfl ⟨rfl,js (below_drewN B1 _) (by omega) _ _ _ _ _ _⟩)
   | (replace mP:=mP;exact bodyPost_ret (v:=.tuple #[dl cL,.bool false]) (by simp [results,Tryz.results114,go_sem,dl,cL,y0,y1,y2,y3,y4,y5]) rfl ⟨rfl,js (below_drewN B1 _) (by omega) _ _ _ _ _ _⟩)
def vM (z0:Nat) (z1:Nat):Prop:=∀(lv tg asd pt tm:Int) (gl:Bool) (w:World) (HKL:Hid (∀w,Calls Tryz.prog 142 #[.int .i64 lv] w fun e w'=>e=.returned (.bool true)∧w'=w)) (HTM:Hid (∀w,Calls Tryz.prog 143 #[.int .i64 lv] w fun e w'=>e=.returned (.int .u64 tm)∧w'=w)) (h:tg≤tm) (h2:asd≤65535) (HB:Hid (∀w,Calls Tryz.prog 144 #[.int .u64 pt,.int .u64 32] w fun e w'=>e=.returned (.bool gl)∧w'=w)) (HGD:Hid (∀w,Calls Tryz.prog z0 #[.int .u64 pt,.int .i64 lv] w fun e w'=>e=.returned (.bool false)∧w'=w)),Calls Tryz.prog z1 #[.agg #[.bool true,.int .i64 lv,.int .u64 tg,.int .u64 asd,.bool gl,.int .u64 pt]] w fun e w'=>e=.returned (.tuple #[dl cL,.bool false])∧Below w.heap.size w w'
set_option maxHeartbeats 1600000 in
theorem xU:vM 183 112∧vM 184 114:=by
 refine ⟨?_,?_⟩;have mL:Hid True:=trivial
 rotate_left
 have mP:Hid True:=trivial
 rotate_left
 all_goals
  intro lv tg asd pt tm gl w HKL HTM h h2 HB HGD;have hne2:(gl != gl)=false:=by simp
  first
   | (replace mL:=mL;have hm:=jg pt)
   | (replace mP:=mP;have hm:=jh pt)
  first
   | (replace mL:=mL;go_enter Tryz.func112,Tryz.ntmps112)
   | (replace mP:=mP;go_enter Tryz.func114,Tryz.ntmps114)
  go_wp2_with fail;go_quiet (first
   | (go_at_call 142;exact Calls.quiet_of_same (HKL.out _))
   | (go_at_call 143;exact Calls.quiet_of_same (HTM.out _)))
  first
   | (replace mL:=mL;obtain ⟨v2,e2,P1,P2,B1,S1⟩:=mG w #[.bool true,.int .i64 lv,.int .u64 tg,.int .u64 asd,.bool gl,.int .u64 pt] 62 #[.int .i64 0,.int .u64 0,.int .u64 0,.bool false,.bool false,.int .u64 0] 173 nq)
   | (replace mP:=mP;obtain ⟨v2,e2,P1,P2,B1,S1⟩:=mG w #[.bool true,.int .i64 lv,.int .u64 tg,.int .u64 asd,.bool gl,.int .u64 pt] 62 #[.int .i64 0,.int .u64 0,.int .u64 0,.bool false,.bool false,.int .u64 0] 183 nq)
  rw [e2];clear e2;obtain ⟨⟨x0,x1,x2,x3,x4,x5⟩,_⟩:=gH P1.out;obtain ⟨⟨y0,y1,y2,y3,y4,y5⟩,z0,z1,z2,z3,z4,z5⟩:=gH P2.out;have ne1:v2.heap.size≠w.heap.size:=by omega
  have ne2:v2.heap.size≠w.heap.size+1:=by omega
  have ne3:w.heap.size<v2.heap.size:=by omega
  have ne4:w.heap.size+1<v2.heap.size:=by omega
  clear HKL HTM;go_wp2_with fail;first
   | (replace mL:=mL;go_quiet (first
          | (go_at_call 144;exact Calls.quiet_of_same (HB.out _))
          | (go_at_call 183;exact Calls.quiet_of_same (HGD.out _))))
   | (replace mP:=mP;go_quiet (first
          | (go_at_call 144;exact Calls.quiet_of_same (HB.out _))
          | (go_at_call 184;exact Calls.quiet_of_same (HGD.out _))))
  go_wp2_with fail;first
   | (replace mL:=mL;exact bodyPost_ret (v:=.tuple #[dl cL,.bool false]) (by simp [results,Tryz.results112,go_sem,dl,cL,y0,y1,y2,y3,y4,y5]) rfl ⟨rfl,js (below_drewN B1 _) (by omega) _ _ _ _ _ _⟩)
   | (replace mP:=mP;exact bodyPost_ret (v:=.tuple #[dl cL,.bool false]) (by simp [results,Tryz.results114,go_sem,dl,cL,y0,y1,y2,y3,y4,y5]) rfl ⟨rfl,js (below_drewN B1 _) (by omega) _ _ _ _ _ _⟩)
def tJ (z0:Nat) (z1:Nat):Prop:=∀(lv tg asd pt tm:Int) (gl:Bool) (w:World) (HKL:Hid (∀w,Calls Tryz.prog 142 #[.int .i64 lv] w fun e w'=>e=.returned (.bool true)∧w'=w)) (HTM:Hid (∀w,Calls Tryz.prog 143 #[.int .i64 lv] w fun e w'=>e=.returned (.int .u64 tm)∧w'=w)) (h:tg≤tm) (h2:asd≤65535) (HB:Hid (∀w,Calls Tryz.prog 144 #[.int .u64 pt,.int .u64 32] w fun e w'=>e=.returned (.bool gl)∧w'=w)) (HGD:Hid (∀w,Calls Tryz.prog z0 #[.int .u64 pt,.int .i64 lv] w fun e w'=>e=.returned (.bool true)∧w'=w)),Calls Tryz.prog z1 #[.agg #[.bool true,.int .i64 lv,.int .u64 tg,.int .u64 asd,.bool gl,.int .u64 pt]] w fun e w'=>e=.returned (.tuple #[dl ⟨true,lv,tg,asd,gl,pt⟩,.bool true])∧Below w.heap.size w w'
set_option maxHeartbeats 1600000 in
theorem vO:tJ 183 112∧tJ 184 114:=by
 refine ⟨?_,?_⟩;have mL:Hid True:=trivial
 rotate_left
 have mP:Hid True:=trivial
 rotate_left
 all_goals
  intro lv tg asd pt tm gl w HKL HTM h h2 HB HGD;have hne2:(gl != gl)=false:=by simp
  first
   | (replace mL:=mL;have hm:=jg pt)
   | (replace mP:=mP;have hm:=jh pt)
  first
   | (replace mL:=mL;go_enter Tryz.func112,Tryz.ntmps112)
   | (replace mP:=mP;go_enter Tryz.func114,Tryz.ntmps114)
  go_wp2_with fail;go_quiet (first
   | (go_at_call 142;exact Calls.quiet_of_same (HKL.out _))
   | (go_at_call 143;exact Calls.quiet_of_same (HTM.out _)))
  first
   | (replace mL:=mL;obtain ⟨v2,e2,P1,P2,B1,S1⟩:=mG w #[.bool true,.int .i64 lv,.int .u64 tg,.int .u64 asd,.bool gl,.int .u64 pt] 62 #[.int .i64 0,.int .u64 0,.int .u64 0,.bool false,.bool false,.int .u64 0] 173 nq)
   | (replace mP:=mP;obtain ⟨v2,e2,P1,P2,B1,S1⟩:=mG w #[.bool true,.int .i64 lv,.int .u64 tg,.int .u64 asd,.bool gl,.int .u64 pt] 62 #[.int .i64 0,.int .u64 0,.int .u64 0,.bool false,.bool false,.int .u64 0] 183 nq)
  rw [e2];clear e2;obtain ⟨⟨x0,x1,x2,x3,x4,x5⟩,_⟩:=gH P1.out;obtain ⟨⟨y0,y1,y2,y3,y4,y5⟩,z0,z1,z2,z3,z4,z5⟩:=gH P2.out;have ne1:v2.heap.size≠w.heap.size:=by omega
  have ne2:v2.heap.size≠w.heap.size+1:=by omega
  have ne3:w.heap.size<v2.heap.size:=by omega
  have ne4:w.heap.size+1<v2.heap.size:=by omega
  clear HKL HTM;go_wp2_with fail;first
   | (replace mL:=mL;go_quiet (first
          | (go_at_call 144;exact Calls.quiet_of_same (HB.out _))
          | (go_at_call 183;exact Calls.quiet_of_same (HGD.out _))))
   | (replace mP:=mP;go_quiet (first
          | (go_at_call 144;exact Calls.quiet_of_same (HB.out _))
          | (go_at_call 184;exact Calls.quiet_of_same (HGD.out _))))
  go_wp2_with fail;first
   | (replace mL:=mL;exact bodyPost_ret (v:=.tuple #[dl ⟨true,lv,tg,asd,gl,pt⟩,.bool true]) (by simp [results,Tryz.results112,go_sem,dl,y0,y1,y2,y3,y4,y5,ne4]) rfl ⟨rfl,(js (below_drewN B1 nq) (by omega) _ _ _ _ _ _).alloc (by simp;omega) _⟩)
   | (replace mP:=mP;exact bodyPost_ret (v:=.tuple #[dl ⟨true,lv,tg,asd,gl,pt⟩,.bool true]) (by simp [results,Tryz.results114,go_sem,dl,y0,y1,y2,y3,y4,y5,ne4]) rfl ⟨rfl,(js (below_drewN B1 nq) (by omega) _ _ _ _ _ _).alloc (by simp;omega) _⟩)
def o0 (z0:Nat) (z1:Bool):Prop:=∀(x:EntM) (w:World) (hx:dq x),Calls Tryz.prog z0 #[jd x] w fun e w'=>e=.returned (.tuple #[dl (if aS x z1=true then x else cL),.bool (aS x z1)])∧Below w.heap.size w w'
set_option maxHeartbeats 1600000 in
theorem jx:o0 112 false∧o0 114 true:=by
 refine ⟨?_,?_⟩;have mL:Hid True:=trivial
 rotate_left
 have mP:Hid True:=trivial
 rotate_left
 all_goals
  intro x w hx;obtain ⟨v,lv,tg,asd,gl,pt⟩:=x;obtain ⟨⟨a1,a2⟩,⟨b1,b2⟩,⟨c1,c2⟩,d1,d2⟩:=hx;simp only at a1 a2 b1 b2 c1 c2 d1 d2;unfold jd;simp only;cases v
  ·first
    | (replace mL:=mL;rw [show aS ⟨false,lv,tg,asd,gl,pt⟩ false=false by simp [aS]])
    | (replace mP:=mP;rw [show aS ⟨false,lv,tg,asd,gl,pt⟩ true=false by simp [aS]])
   first
    | (replace mL:=mL;exact xO.1 lv tg asd pt 0 gl w)
    | (replace mP:=mP;exact xO.2 lv tg asd pt 0 gl w)
  by_cases h0:¬(0≤lv∧lv≤2)
  ·first
    | (replace mL:=mL;rw [show aS ⟨true,lv,tg,asd,gl,pt⟩ false=false by simp [aS];omega])
    | (replace mP:=mP;rw [show aS ⟨true,lv,tg,asd,gl,pt⟩ true=false by simp [aS];omega])
   first
    | (replace mL:=mL;exact xP.1 lv tg asd pt 0 gl w (fun w=>by
         have:=dV lv w
         rw [show decide (0≤lv∧lv≤2)=false by simpa using h0] at this
         exact this))
    | (replace mP:=mP;exact xP.2 lv tg asd pt 0 gl w (fun w=>by
         have:=dV lv w
         rw [show decide (0≤lv∧lv≤2)=false by simpa using h0] at this
         exact this))
  have h0':0≤lv∧lv≤2:=Decidable.not_not.1 h0;have HKL:Hid (∀w,Calls Tryz.prog 142 #[.int .i64 lv] w fun e w'=>e=.returned (.bool true)∧w'=w):=fun w=>by
   have:=dV lv w;rw [show decide (0≤lv∧lv≤2)=true by simpa using h0'] at this;exact this
  obtain ⟨tm,htm⟩:∃tm,lS lv-1=tm:=⟨_,rfl⟩;have HTM:Hid (∀w,Calls Tryz.prog 143 #[.int .i64 lv] w fun e w'=>e=.returned (.int .u64 tm)∧w'=w):=fun w=>by
   have:=ky lv w (by omega);rw [htm] at this;exact this
  by_cases h1:¬(tg≤tm)
  ·first
    | (replace mL:=mL;rw [show aS ⟨true,lv,tg,asd,gl,pt⟩ false=false by simp [aS];omega])
    | (replace mP:=mP;rw [show aS ⟨true,lv,tg,asd,gl,pt⟩ true=false by simp [aS];omega])
   first
    | (replace mL:=mL;exact xQ.1 lv tg asd pt tm gl w HKL HTM h1)
    | (replace mP:=mP;exact xQ.2 lv tg asd pt tm gl w HKL HTM h1)
  have h1':tg≤tm:=Decidable.not_not.1 h1;by_cases h2:¬(asd≤65535)
  ·first
    | (replace mL:=mL;rw [show aS ⟨true,lv,tg,asd,gl,pt⟩ false=false by simp [aS];omega])
    | (replace mP:=mP;rw [show aS ⟨true,lv,tg,asd,gl,pt⟩ true=false by simp [aS];omega])
   first
    | (replace mL:=mL;exact xR.1 lv tg asd pt tm gl w HKL HTM h1' h2)
    | (replace mP:=mP;exact xR.2 lv tg asd pt tm gl w HKL HTM h1' h2)
  have h2':asd≤65535:=Decidable.not_not.1 h2;first
   | (replace mL:=mL;have hgood:aS ⟨true,lv,tg,asd,gl,pt⟩ false=((gl == bK pt 32) && (bC pt lv == 2)):=by
        simp only [aS,iA]
        simp [h0'.1,h0'.2,h2',show tg<lS lv by omega])
   | (replace mP:=mP;have hgood:aS ⟨true,lv,tg,asd,gl,pt⟩ true=((gl == bK pt 32) && (bC pt lv == 1)):=by
        simp only [aS,iA]
        simp [h0'.1,h0'.2,h2',show tg<lS lv by omega])
  rw [hgood];obtain ⟨g5,hg5⟩:∃g5,bK pt 32=g5:=⟨_,rfl⟩;first
   | (replace mL:=mL;obtain ⟨gd,hgd⟩:∃gd,(bC pt lv == 2)=gd:=⟨_,rfl⟩)
   | (replace mP:=mP;obtain ⟨gd,hgd⟩:∃gd,(bC pt lv == 1)=gd:=⟨_,rfl⟩)
  have HB:Hid (∀w,Calls Tryz.prog 144 #[.int .u64 pt,.int .u64 32] w fun e w'=>e=.returned (.bool g5)∧w'=w):=fun w=>by
   have:=ee pt 32 w;rw [ep 5 pt 32 rfl (by omega) d1 d2,hg5] at this;exact this
  first
   | (replace mL:=mL;have HGD:Hid (∀w,Calls Tryz.prog 183 #[.int .u64 pt,.int .i64 lv] w fun e w'=>e=.returned (.bool gd)∧w'=w):=fun w=>by
        have:=wU pt lv w d1 d2
        rw [hgd] at this
        exact this)
   | (replace mP:=mP;have HGD:Hid (∀w,Calls Tryz.prog 184 #[.int .u64 pt,.int .i64 lv] w fun e w'=>e=.returned (.bool gd)∧w'=w):=fun w=>by
        have:=wV pt lv w d1 d2
        rw [hgd] at this
        exact this)
  rw [hg5,hgd];cases hq:(gl == g5)
  ·first
    | (replace mL:=mL;exact xT.1 lv tg asd pt tm gl g5 w HKL HTM h1' h2' HB hq)
    | (replace mP:=mP;exact xT.2 lv tg asd pt tm gl g5 w HKL HTM h1' h2' HB hq)
  ·have hq':gl=g5:=by simpa using hq
   subst hq';cases gd
   ·first
     | (replace mL:=mL;exact xU.1 lv tg asd pt tm gl w HKL HTM h1' h2' HB HGD)
     | (replace mP:=mP;exact xU.2 lv tg asd pt tm gl w HKL HTM h1' h2' HB HGD)
   ·first
     | (replace mL:=mL;exact vO.1 lv tg asd pt tm gl w HKL HTM h1' h2' HB HGD)
     | (replace mP:=mP;exact vO.2 lv tg asd pt tm gl w HKL HTM h1' h2' HB HGD)
end Go.Proofs.YtaoaifmkhbgaiaaGreat

namespace Go.Proofs.YtaoaifmkhbgaiaaGreat
open Go.RowKit
set_option linter.unusedVariables false
theorem pP (b o:Nat) (sets tag:Int) (w:World) (hs:sets=1∨sets=2∨sets=4∨sets=8) (c0:w.cell? ⟨b,o,none⟩=some (.int .i64 sets)) (ht:0≤tag) (ht1:tag≤18446744073709551615):
 Calls Tryz.prog 130 #[.pointer (some ⟨b,o,none⟩),.int .u64 tag] w fun e w'=>e=.returned (.int .i64 (tag%sets))∧w'=w:=by
 rcases hs with rfl | rfl | rfl | rfl;all_goals
  go_enter Tryz.func130,Tryz.ntmps130;go_wp2_with fail;go_ret;exact ⟨cA (by omega),rfl⟩
theorem pQ (b o:Nat) (sets tag:Int) (w:World) (hs:sets=1∨sets=2∨sets=4∨sets=8) (c0:w.cell? ⟨b,o,none⟩=some (.int .i64 sets)) (ht:0≤tag) (ht1:tag≤18446744073709551615):
 Calls Tryz.prog 132 #[.pointer (some ⟨b,o,none⟩),.int .u64 tag] w fun e w'=>e=.returned (.int .i64 (tag%sets))∧w'=w:=by
 rcases hs with rfl | rfl | rfl | rfl;all_goals
  go_enter Tryz.func132,Tryz.ntmps132;go_wp2_with fail;go_ret;exact ⟨cA (by omega),rfl⟩
end Go.Proofs.YtaoaifmkhbgaiaaGreat

namespace Go.Proofs.YtaoaifmkhbgaiaaGreat
open Go.RowKit
set_option linter.unusedVariables false
theorem tR (lv tg asd va:Int) (gl:Bool) (w:World) (hl:lv=0∨lv=1∨lv=2) (hv0:0≤va) (hv1:va≤18446744073709551615):
 Calls Tryz.prog 94 #[.agg #[.int .i64 lv,.int .u64 tg,.int .u64 asd,.bool gl],.int .u64 va] w fun e w'=>e=.returned (.bool (tg == dt va lv))∧Below w.heap.size w w':=by
 have n1:=(Below.refl w.heap.size w).alloc (Nat.le_refl _) (Obj.cells #[.int .i64 lv,.int .u64 tg,.int .u64 asd,.bool gl] 155);obtain ⟨tm,htm⟩:∃tm,dt va lv=tm:=⟨_,rfl⟩;have HT:Hid (∀w,Calls Tryz.prog 128 #[.int .u64 va,.int .i64 lv] w fun e w'=>e=.returned (.int .u64 tm)∧∃n,w'=w.drewN n):=fun w=>by
  have:=wT va lv w hv0 hv1 hl;rw [htm] at this;exact this
 rw [htm];clear htm;go_enter Tryz.func94,Tryz.ntmps94;go_wp2_with fail;go_quiet ((go_at_call 128;exact Calls.quiet_of (HT.out _)));go_wp2_with fail;go_ret;exact ⟨rfl,below_drewN n1 nq⟩
theorem zS (lv tg asd va asid:Int) (gl:Bool) (w:World) (hl:lv=0∨lv=1∨lv=2) (hv0:0≤va) (hv1:va≤18446744073709551615):
 Calls Tryz.prog 134 #[.agg #[.int .i64 lv,.int .u64 tg,.int .u64 asd,.bool gl],.int .u64 va,.int .u64 asid] w fun e w'=>e=.returned (.bool ((tg == dt va lv) && (gl || asd == asid)))∧Below w.heap.size w w':=by
 have n1:=(Below.refl w.heap.size w).alloc (Nat.le_refl _) (Obj.cells #[.int .i64 lv,.int .u64 tg,.int .u64 asd,.bool gl] 155);have H1:Hid ((w.alloc (Obj.cells #[.int .i64 lv,.int .u64 tg,.int .u64 asd,.bool gl] 155)).heap[w.heap.size]?=some (.cells #[.int .i64 lv,.int .u64 tg,.int .u64 asd,.bool gl] 155 (0,0))):=heap_alloc_new w _;obtain ⟨sb,hsb⟩:∃sb,(tg == dt va lv)=sb:=⟨_,rfl⟩;have HS:Hid (∀w,Calls Tryz.prog 94 #[.agg #[.int .i64 lv,.int .u64 tg,.int .u64 asd,.bool gl],.int .u64 va] w fun e w'=>e=.returned (.bool sb)∧Below w.heap.size w w'):=fun w=>by
  have:=tR lv tg asd va gl w hl hv0 hv1;rw [hsb] at this;exact this
 rw [hsb];clear hsb;cases sb <;> cases gl;all_goals
  go_enter Tryz.func134,Tryz.ntmps134;go_wp2_with fail;generalize hv1:w.alloc _=v1 at n1 H1 ⊢;refine (HS.out v1).mono ?_;rintro e v2 ⟨rfl,n2⟩;have K1:=ab H1.out n2 (Array.getElem?_eq_some_iff.1 H1.out).1;obtain ⟨⟨x0,x1,x2,x3⟩,_,_,_,_⟩:=aw K1;have A2:=Below.step n1 n2 (Nat.le_refl _);go_wp2_with fail;go_ret;exact ⟨aF (by simp),A2⟩
end Go.Proofs.YtaoaifmkhbgaiaaGreat
