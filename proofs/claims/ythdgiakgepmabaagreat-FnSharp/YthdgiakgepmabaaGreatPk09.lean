import Derived.Test.YthdgiakgepmabaaGreatPk08
import Derived.Laws.CopyRow
namespace Go.Proofs.YthdgiakgepmabaaGreat
open Go.RowKit
set_option linter.unusedVariables false
set_option maxHeartbeats 6400000
set_option maxRecDepth 20000
theorem iu (w:World) (x y:Obj):Bw w ((w.alloc x).alloc y):=((Below.refl w.heap.size w).alloc nle x).alloc (by simp) y
theorem jt (w:World) (A:Array Value) (T:TypeId) (B:Array Value) (U:TypeId) (k:Nat):∃v2,((w.alloc (Obj.cells A T)).alloc (Obj.cells B U)).drewN k=v2∧Hid (v2.heap[w.heap.size]?=some (.cells A T (0,0)))∧Hid (v2.heap[w.heap.size+1]?=some (.cells B U (0,0)))∧Bw w v2∧v2.heap.size=w.heap.size+2:=by
 refine ⟨_,rfl,?_,?_,below_drewN (iu _ _ _) k,?_⟩
 ·show ((w.alloc (Obj.cells A T)).alloc (Obj.cells B U)).heap[w.heap.size]?=_;rw [tc _ _ (by simp)];exact dN w _
 ·have:=dN (w.alloc (Obj.cells A T)) (Obj.cells B U);simp only [World.size_alloc] at this;exact this
 ·show ((w.alloc (Obj.cells A T)).alloc (Obj.cells B U)).heap.size=_;simp
theorem fY (x:Int) (w:World):(method 417 175 (VU x) "loop.example/s0051/impl.goodAt").run Tryz.prog w=.ok (207,VU x) w:=by kernel_rfl
theorem fZ (x:Int) (w:World):(method 417 178 (VU x) "loop.example/s0051/impl.goodAt").run Tryz.prog w=.ok (208,VU x) w:=by kernel_rfl
def sT (z0:Nat):Prop:=∀(lv tg asd pt tm:Int) (gl:Bool) (w:World),Calls Tryz.prog z0 #[.agg #[.bool false,VI lv,VU tg,VU asd,.bool gl,VU pt]] w fun e w'=>e=.returned (.tuple #[bO bC,.bool false])∧Bw w w'
theorem uW:sT 102∧sT 104:=by
 refine ⟨?_,?_⟩;have mL:Hid True:=trivial
 rotate_left
 have mP:Hid True:=trivial
 rotate_left
 all_goals
  intro lv tg asd pt tm gl w;first
   | (replace mL:=mL;go_enter Tryz.func102,Tryz.ntmps102)
   | (replace mP:=mP;go_enter Tryz.func104,Tryz.ntmps104)
  go_wp2;go_quiet (fail);go_wp2_with fail;first
   | (replace mL:=mL;exact bodyPost_ret (v:=.tuple #[bO bC,.bool false]) (by simp [results,Tryz.results102,go_sem,bO,bC]) rfl ⟨rfl,gv (below_drewN (iu _ _ _) nq) (by omega) _ _ _ _ _ _⟩)
   | (replace mP:=mP;exact bodyPost_ret (v:=.tuple #[bO bC,.bool false]) (by simp [results,Tryz.results104,go_sem,bO,bC]) rfl ⟨rfl,gv (below_drewN (iu _ _ _) nq) (by omega) _ _ _ _ _ _⟩)
def sU (z0:Nat):Prop:=∀(lv tg asd pt tm:Int) (gl:Bool) (w:World) (HKL:Hid (∀w,Calls Tryz.prog 127 #[VI lv] w fun e w'=>e=.returned (.bool false)∧w'=w)),Calls Tryz.prog z0 #[.agg #[.bool true,VI lv,VU tg,VU asd,.bool gl,VU pt]] w fun e w'=>e=.returned (.tuple #[bO bC,.bool false])∧Bw w w'
theorem uX:sU 102∧sU 104:=by
 refine ⟨?_,?_⟩;have mL:Hid True:=trivial
 rotate_left
 have mP:Hid True:=trivial
 rotate_left
 all_goals
  intro lv tg asd pt tm gl w HKL;first
   | (replace mL:=mL;go_enter Tryz.func102,Tryz.ntmps102)
   | (replace mP:=mP;go_enter Tryz.func104,Tryz.ntmps104)
  go_wp2;go_quiet ((go_at_call 127;exact Calls.quiet_of_same (HKL.out _)));go_wp2_with fail;first
   | (replace mL:=mL;exact bodyPost_ret (v:=.tuple #[bO bC,.bool false]) (by simp [results,Tryz.results102,go_sem,bO,bC]) rfl ⟨rfl,gv (below_drewN (iu _ _ _) nq) (by omega) _ _ _ _ _ _⟩)
   | (replace mP:=mP;exact bodyPost_ret (v:=.tuple #[bO bC,.bool false]) (by simp [results,Tryz.results104,go_sem,bO,bC]) rfl ⟨rfl,gv (below_drewN (iu _ _ _) nq) (by omega) _ _ _ _ _ _⟩)
def sV (z0:Nat):Prop:=∀(lv tg asd pt tm:Int) (gl:Bool) (w:World) (HKL:Hid (∀w,Calls Tryz.prog 127 #[VI lv] w fun e w'=>e=.returned (.bool true)∧w'=w)) (HTM:Hid (∀w,Calls Tryz.prog 128 #[VI lv] w fun e w'=>e=.returned (VU tm)∧w'=w)) (h:¬(tg<=tm)),Calls Tryz.prog z0 #[.agg #[.bool true,VI lv,VU tg,VU asd,.bool gl,VU pt]] w fun e w'=>e=.returned (.tuple #[bO bC,.bool false])∧Bw w w'
theorem uY:sV 102∧sV 104:=by
 refine ⟨?_,?_⟩;have mL:Hid True:=trivial
 rotate_left
 have mP:Hid True:=trivial
 rotate_left
 all_goals
  intro lv tg asd pt tm gl w HKL HTM h;first
   | (replace mL:=mL;go_enter Tryz.func102,Tryz.ntmps102)
   | (replace mP:=mP;go_enter Tryz.func104,Tryz.ntmps104)
  go_wp2;go_quiet (first
   | (go_at_call 127;exact Calls.quiet_of_same (HKL.out _))
   | (go_at_call 128;exact Calls.quiet_of_same (HTM.out _)))
  go_wp2_with fail;first
   | (replace mL:=mL;exact bodyPost_ret (v:=.tuple #[bO bC,.bool false]) (by simp [results,Tryz.results102,go_sem,bO,bC]) rfl ⟨rfl,gv (below_drewN (iu _ _ _) nq) (by omega) _ _ _ _ _ _⟩)
   | (replace mP:=mP;exact bodyPost_ret (v:=.tuple #[bO bC,.bool false]) (by simp [results,Tryz.results104,go_sem,bO,bC]) rfl ⟨rfl,gv (below_drewN (iu _ _ _) nq) (by omega) _ _ _ _ _ _⟩)
def sW (z0:Nat):Prop:=∀(lv tg asd pt tm:Int) (gl:Bool) (w:World) (HKL:Hid (∀w,Calls Tryz.prog 127 #[VI lv] w fun e w'=>e=.returned (.bool true)∧w'=w)) (HTM:Hid (∀w,Calls Tryz.prog 128 #[VI lv] w fun e w'=>e=.returned (VU tm)∧w'=w)) (h:tg<=tm) (h2:¬(asd<=65535)),Calls Tryz.prog z0 #[.agg #[.bool true,VI lv,VU tg,VU asd,.bool gl,VU pt]] w fun e w'=>e=.returned (.tuple #[bO bC,.bool false])∧Bw w w'
theorem uZ:sW 102∧sW 104:=by
 refine ⟨?_,?_⟩;have mL:Hid True:=trivial
 rotate_left
 have mP:Hid True:=trivial
 rotate_left
 all_goals
  intro lv tg asd pt tm gl w HKL HTM h h2;first
   | (replace mL:=mL;go_enter Tryz.func102,Tryz.ntmps102)
   | (replace mP:=mP;go_enter Tryz.func104,Tryz.ntmps104)
  go_wp2;go_quiet (first
   | (go_at_call 127;exact Calls.quiet_of_same (HKL.out _))
   | (go_at_call 128;exact Calls.quiet_of_same (HTM.out _)))
  go_wp2_with fail;first
   | (replace mL:=mL;exact bodyPost_ret (v:=.tuple #[bO bC,.bool false]) (by simp [results,Tryz.results102,go_sem,bO,bC]) rfl ⟨rfl,gv (below_drewN (iu _ _ _) nq) (by omega) _ _ _ _ _ _⟩)
   | (replace mP:=mP;exact bodyPost_ret (v:=.tuple #[bO bC,.bool false]) (by simp [results,Tryz.results104,go_sem,bO,bC]) rfl ⟨rfl,gv (below_drewN (iu _ _ _) nq) (by omega) _ _ _ _ _ _⟩)
def sX (z0:Nat):Prop:=∀(lv tg asd pt tm:Int) (gl g5:Bool) (w:World) (HKL:Hid (∀w,Calls Tryz.prog 127 #[VI lv] w fun e w'=>e=.returned (.bool true)∧w'=w)) (HTM:Hid (∀w,Calls Tryz.prog 128 #[VI lv] w fun e w'=>e=.returned (VU tm)∧w'=w)) (h:tg<=tm) (h2:asd<=65535) (HB:Hid (∀w,Calls Tryz.prog 129 #[VU pt,VU 32] w fun e w'=>e=.returned (.bool g5)∧w'=w)) (hne:(gl == g5)=false),Calls Tryz.prog z0 #[.agg #[.bool true,VI lv,VU tg,VU asd,.bool gl,VU pt]] w fun e w'=>e=.returned (.tuple #[bO bC,.bool false])∧Bw w w'
theorem vd:sX 102∧sX 104:=by
 refine ⟨?_,?_⟩;have mL:Hid True:=trivial
 rotate_left
 have mP:Hid True:=trivial
 rotate_left
 all_goals
  intro lv tg asd pt tm gl g5 w HKL HTM h h2 HB hne;have hne2:(gl != g5)=true:=by simp [bne,hne]
  first
   | (replace mL:=mL;have hm:=fY pt)
   | (replace mP:=mP;have hm:=fZ pt)
  first
   | (replace mL:=mL;go_enter Tryz.func102,Tryz.ntmps102)
   | (replace mP:=mP;go_enter Tryz.func104,Tryz.ntmps104)
  go_wp2;go_quiet (first
   | (go_at_call 127;exact Calls.quiet_of_same (HKL.out _))
   | (go_at_call 128;exact Calls.quiet_of_same (HTM.out _)))
  first
   | (replace mL:=mL;obtain ⟨v2,e2,P1,P2,B1,S1⟩:=jt w #[.bool true,VI lv,VU tg,VU asd,.bool gl,VU pt] 154 #[VI 0,VU 0,VU 0,.bool false,.bool false,VU 0] 216 nq)
   | (replace mP:=mP;obtain ⟨v2,e2,P1,P2,B1,S1⟩:=jt w #[.bool true,VI lv,VU tg,VU asd,.bool gl,VU pt] 154 #[VI 0,VU 0,VU 0,.bool false,.bool false,VU 0] 221 nq)
  rw [e2];clear e2;obtain ⟨⟨x0,x1,x2,x3,x4,x5⟩,_⟩:=fz P1.out;obtain ⟨⟨y0,y1,y2,y3,y4,y5⟩,z0,z1,z2,z3,z4,z5⟩:=fz P2.out;have ne1:v2.heap.size≠w.heap.size:=by omega
  have ne2:v2.heap.size≠w.heap.size+1:=by omega
  have ne3:w.heap.size<v2.heap.size:=by omega
  have ne4:w.heap.size+1<v2.heap.size:=by omega
  clear HKL HTM;go_wp2;go_quiet ((go_at_call 129;exact Calls.quiet_of_same (HB.out _)));go_wp2_with fail;first
   | (replace mL:=mL;exact bodyPost_ret (v:=.tuple #[bO bC,.bool false]) (by simp [results,Tryz.results102,go_sem,bO,bC,y0,y1,y2,y3,y4,y5]) rfl ⟨rfl,gv (below_drewN B1 _) (by omega) _ _ _ _ _ _⟩)
   | (replace mP:=mP;exact bodyPost_ret (v:=.tuple #[bO bC,.bool false]) (by simp [results,Tryz.results104,go_sem,bO,bC,y0,y1,y2,y3,y4,y5]) rfl ⟨rfl,gv (below_drewN B1 _) (by omega) _ _ _ _ _ _⟩)
def sY (z0:Nat) (z1:Nat):Prop:=∀(lv tg asd pt tm:Int) (gl:Bool) (w:World) (HKL:Hid (∀w,Calls Tryz.prog 127 #[VI lv] w fun e w'=>e=.returned (.bool true)∧w'=w)) (HTM:Hid (∀w,Calls Tryz.prog 128 #[VI lv] w fun e w'=>e=.returned (VU tm)∧w'=w)) (h:tg<=tm) (h2:asd<=65535) (HB:Hid (∀w,Calls Tryz.prog 129 #[VU pt,VU 32] w fun e w'=>e=.returned (.bool gl)∧w'=w)) (HGD:Hid (∀w,Calls Tryz.prog z0 #[VU pt,VI lv] w fun e w'=>e=.returned (.bool false)∧w'=w)),Calls Tryz.prog z1 #[.agg #[.bool true,VI lv,VU tg,VU asd,.bool gl,VU pt]] w fun e w'=>e=.returned (.tuple #[bO bC,.bool false])∧Bw w w'
theorem ve:sY 207 102∧sY 208 104:=by
 refine ⟨?_,?_⟩;have mL:Hid True:=trivial
 rotate_left
 have mP:Hid True:=trivial
 rotate_left
 all_goals
  intro lv tg asd pt tm gl w HKL HTM h h2 HB HGD;have hne2:(gl != gl)=false:=by simp
  first
   | (replace mL:=mL;have hm:=fY pt)
   | (replace mP:=mP;have hm:=fZ pt)
  first
   | (replace mL:=mL;go_enter Tryz.func102,Tryz.ntmps102)
   | (replace mP:=mP;go_enter Tryz.func104,Tryz.ntmps104)
  go_wp2;go_quiet (first
   | (go_at_call 127;exact Calls.quiet_of_same (HKL.out _))
   | (go_at_call 128;exact Calls.quiet_of_same (HTM.out _)))
  first
   | (replace mL:=mL;obtain ⟨v2,e2,P1,P2,B1,S1⟩:=jt w #[.bool true,VI lv,VU tg,VU asd,.bool gl,VU pt] 154 #[VI 0,VU 0,VU 0,.bool false,.bool false,VU 0] 216 nq)
   | (replace mP:=mP;obtain ⟨v2,e2,P1,P2,B1,S1⟩:=jt w #[.bool true,VI lv,VU tg,VU asd,.bool gl,VU pt] 154 #[VI 0,VU 0,VU 0,.bool false,.bool false,VU 0] 221 nq)
  rw [e2];clear e2;obtain ⟨⟨x0,x1,x2,x3,x4,x5⟩,_⟩:=fz P1.out;obtain ⟨⟨y0,y1,y2,y3,y4,y5⟩,z0,z1,z2,z3,z4,z5⟩:=fz P2.out;have ne1:v2.heap.size≠w.heap.size:=by omega
  have ne2:v2.heap.size≠w.heap.size+1:=by omega
  have ne3:w.heap.size<v2.heap.size:=by omega
  have ne4:w.heap.size+1<v2.heap.size:=by omega
  clear HKL HTM;go_wp2_with fail;first
   | (replace mL:=mL;go_quiet (first
          | (go_at_call 129;exact Calls.quiet_of_same (HB.out _))
          | (go_at_call 207;exact Calls.quiet_of_same (HGD.out _))))
   | (replace mP:=mP;go_quiet (first
          | (go_at_call 129;exact Calls.quiet_of_same (HB.out _))
          | (go_at_call 208;exact Calls.quiet_of_same (HGD.out _))))
  go_wp2_with fail;first
   | (replace mL:=mL;exact bodyPost_ret (v:=.tuple #[bO bC,.bool false]) (by simp [results,Tryz.results102,go_sem,bO,bC,y0,y1,y2,y3,y4,y5]) rfl ⟨rfl,gv (below_drewN B1 _) (by omega) _ _ _ _ _ _⟩)
   | (replace mP:=mP;exact bodyPost_ret (v:=.tuple #[bO bC,.bool false]) (by simp [results,Tryz.results104,go_sem,bO,bC,y0,y1,y2,y3,y4,y5]) rfl ⟨rfl,gv (below_drewN B1 _) (by omega) _ _ _ _ _ _⟩)
def pO (z0:Nat) (z1:Nat):Prop:=∀(lv tg asd pt tm:Int) (gl:Bool) (w:World) (HKL:Hid (∀w,Calls Tryz.prog 127 #[VI lv] w fun e w'=>e=.returned (.bool true)∧w'=w)) (HTM:Hid (∀w,Calls Tryz.prog 128 #[VI lv] w fun e w'=>e=.returned (VU tm)∧w'=w)) (h:tg<=tm) (h2:asd<=65535) (HB:Hid (∀w,Calls Tryz.prog 129 #[VU pt,VU 32] w fun e w'=>e=.returned (.bool gl)∧w'=w)) (HGD:Hid (∀w,Calls Tryz.prog z0 #[VU pt,VI lv] w fun e w'=>e=.returned (.bool true)∧w'=w)),Calls Tryz.prog z1 #[.agg #[.bool true,VI lv,VU tg,VU asd,.bool gl,VU pt]] w fun e w'=>e=.returned (.tuple #[bO ⟨true,lv,tg,asd,gl,pt⟩,.bool true])∧Bw w w'
theorem sZ:pO 207 102∧pO 208 104:=by
 refine ⟨?_,?_⟩;have mL:Hid True:=trivial
 rotate_left
 have mP:Hid True:=trivial
 rotate_left
 all_goals
  intro lv tg asd pt tm gl w HKL HTM h h2 HB HGD;have hne2:(gl != gl)=false:=by simp
  first
   | (replace mL:=mL;have hm:=fY pt)
   | (replace mP:=mP;have hm:=fZ pt)
  first
   | (replace mL:=mL;go_enter Tryz.func102,Tryz.ntmps102)
   | (replace mP:=mP;go_enter Tryz.func104,Tryz.ntmps104)
  go_wp2;go_quiet (first
   | (go_at_call 127;exact Calls.quiet_of_same (HKL.out _))
   | (go_at_call 128;exact Calls.quiet_of_same (HTM.out _)))
  first
   | (replace mL:=mL;obtain ⟨v2,e2,P1,P2,B1,S1⟩:=jt w #[.bool true,VI lv,VU tg,VU asd,.bool gl,VU pt] 154 #[VI 0,VU 0,VU 0,.bool false,.bool false,VU 0] 216 nq)
   | (replace mP:=mP;obtain ⟨v2,e2,P1,P2,B1,S1⟩:=jt w #[.bool true,VI lv,VU tg,VU asd,.bool gl,VU pt] 154 #[VI 0,VU 0,VU 0,.bool false,.bool false,VU 0] 221 nq)
  rw [e2];clear e2;obtain ⟨⟨x0,x1,x2,x3,x4,x5⟩,_⟩:=fz P1.out;obtain ⟨⟨y0,y1,y2,y3,y4,y5⟩,z0,z1,z2,z3,z4,z5⟩:=fz P2.out;have ne1:v2.heap.size≠w.heap.size:=by omega
  have ne2:v2.heap.size≠w.heap.size+1:=by omega
  have ne3:w.heap.size<v2.heap.size:=by omega
  have ne4:w.heap.size+1<v2.heap.size:=by omega
  clear HKL HTM;go_wp2_with fail;first
   | (replace mL:=mL;go_quiet (first
          | (go_at_call 129;exact Calls.quiet_of_same (HB.out _))
          | (go_at_call 207;exact Calls.quiet_of_same (HGD.out _))))
   | (replace mP:=mP;go_quiet (first
          | (go_at_call 129;exact Calls.quiet_of_same (HB.out _))
          | (go_at_call 208;exact Calls.quiet_of_same (HGD.out _))))
  go_wp2_with fail;first
   | (replace mL:=mL;exact bodyPost_ret (v:=.tuple #[bO ⟨true,lv,tg,asd,gl,pt⟩,.bool true]) (by simp [results,Tryz.results102,go_sem,bO,y0,y1,y2,y3,y4,y5,ne4]) rfl ⟨rfl,(gv (below_drewN B1 nq) (by omega) _ _ _ _ _ _).alloc (by simp;omega) _⟩)
   | (replace mP:=mP;exact bodyPost_ret (v:=.tuple #[bO ⟨true,lv,tg,asd,gl,pt⟩,.bool true]) (by simp [results,Tryz.results104,go_sem,bO,y0,y1,y2,y3,y4,y5,ne4]) rfl ⟨rfl,(gv (below_drewN B1 nq) (by omega) _ _ _ _ _ _).alloc (by simp;omega) _⟩)
def kB (z0:Nat) (z1:Bool):Prop:=∀(x:EntM) (w:World) (hx:ft x),Calls Tryz.prog z0 #[AQ x] w fun e w'=>e=.returned (.tuple #[bO (if aH x z1=true then x else bC),.bool (aH x z1)])∧Bw w w'
theorem lT:kB 102 false∧kB 104 true:=by
 refine ⟨?_,?_⟩;have mL:Hid True:=trivial
 rotate_left
 have mP:Hid True:=trivial
 rotate_left
 all_goals
  intro x w hx;obtain ⟨v,lv,tg,asd,gl,pt⟩:=x;obtain ⟨⟨a1,a2⟩,⟨b1,b2⟩,⟨c1,c2⟩,d1,d2⟩:=hx;simp only at a1 a2 b1 b2 c1 c2 d1 d2;unfold AQ;simp only;cases v
  ·first
    | (replace mL:=mL;rw [show aH ⟨false,lv,tg,asd,gl,pt⟩ false=false by simp [aH]])
    | (replace mP:=mP;rw [show aH ⟨false,lv,tg,asd,gl,pt⟩ true=false by simp [aH]])
   first
    | (replace mL:=mL;exact uW.1 lv tg asd pt 0 gl w)
    | (replace mP:=mP;exact uW.2 lv tg asd pt 0 gl w)
  by_cases h0:¬(0<=lv∧lv<=2)
  ·first
    | (replace mL:=mL;rw [show aH ⟨true,lv,tg,asd,gl,pt⟩ false=false by simp [aH];omega])
    | (replace mP:=mP;rw [show aH ⟨true,lv,tg,asd,gl,pt⟩ true=false by simp [aH];omega])
   first
    | (replace mL:=mL;exact uX.1 lv tg asd pt 0 gl w (fun w=>by
         have:=bV lv w
         rw [show decide (0<=lv∧lv<=2)=false by simpa using h0] at this
         exact this))
    | (replace mP:=mP;exact uX.2 lv tg asd pt 0 gl w (fun w=>by
         have:=bV lv w
         rw [show decide (0<=lv∧lv<=2)=false by simpa using h0] at this
         exact this))
  have h0':0<=lv∧lv<=2:=Decidable.not_not.1 h0;have HKL:Hid (∀w,Calls Tryz.prog 127 #[VI lv] w fun e w'=>e=.returned (.bool true)∧w'=w):=fun w=>by
   have:=bV lv w;rw [show decide (0<=lv∧lv<=2)=true by simpa using h0'] at this;exact this
  obtain ⟨tm,htm⟩:∃tm,tW lv-1=tm:=⟨_,rfl⟩;have HTM:Hid (∀w,Calls Tryz.prog 128 #[VI lv] w fun e w'=>e=.returned (VU tm)∧w'=w):=fun w=>by
   have:=ig lv w (by omega);rw [htm] at this;exact this
  by_cases h1:¬(tg<=tm)
  ·first
    | (replace mL:=mL;rw [show aH ⟨true,lv,tg,asd,gl,pt⟩ false=false by simp [aH];omega])
    | (replace mP:=mP;rw [show aH ⟨true,lv,tg,asd,gl,pt⟩ true=false by simp [aH];omega])
   first
    | (replace mL:=mL;exact uY.1 lv tg asd pt tm gl w HKL HTM h1)
    | (replace mP:=mP;exact uY.2 lv tg asd pt tm gl w HKL HTM h1)
  have h1':tg<=tm:=Decidable.not_not.1 h1;by_cases h2:¬(asd<=65535)
  ·first
    | (replace mL:=mL;rw [show aH ⟨true,lv,tg,asd,gl,pt⟩ false=false by simp [aH];omega])
    | (replace mP:=mP;rw [show aH ⟨true,lv,tg,asd,gl,pt⟩ true=false by simp [aH];omega])
   first
    | (replace mL:=mL;exact uZ.1 lv tg asd pt tm gl w HKL HTM h1' h2)
    | (replace mP:=mP;exact uZ.2 lv tg asd pt tm gl w HKL HTM h1' h2)
  have h2':asd<=65535:=Decidable.not_not.1 h2;first
   | (replace mL:=mL;have hgood:aH ⟨true,lv,tg,asd,gl,pt⟩ false=((gl == aZ pt 32) && (aV pt lv == 2)):=by
        simp only [aH,lO]
        simp [h0'.1,h0'.2,h2',show tg<tW lv by omega])
   | (replace mP:=mP;have hgood:aH ⟨true,lv,tg,asd,gl,pt⟩ true=((gl == aZ pt 32) && (aV pt lv == 1)):=by
        simp only [aH,lO]
        simp [h0'.1,h0'.2,h2',show tg<tW lv by omega])
  rw [hgood];obtain ⟨g5,hg5⟩:∃g5,aZ pt 32=g5:=⟨_,rfl⟩;first
   | (replace mL:=mL;obtain ⟨gd,hgd⟩:∃gd,(aV pt lv == 2)=gd:=⟨_,rfl⟩)
   | (replace mP:=mP;obtain ⟨gd,hgd⟩:∃gd,(aV pt lv == 1)=gd:=⟨_,rfl⟩)
  have HB:Hid (∀w,Calls Tryz.prog 129 #[VU pt,VU 32] w fun e w'=>e=.returned (.bool g5)∧w'=w):=fun w=>by
   have:=bR pt 32 w;rw [bX 5 pt 32 rfl (by omega) d1 d2,hg5] at this;exact this
  first
   | (replace mL:=mL;have HGD:Hid (∀w,Calls Tryz.prog 207 #[VU pt,VI lv] w fun e w'=>e=.returned (.bool gd)∧w'=w):=fun w=>by
        have:=tT pt lv w d1 d2
        rw [hgd] at this
        exact this)
   | (replace mP:=mP;have HGD:Hid (∀w,Calls Tryz.prog 208 #[VU pt,VI lv] w fun e w'=>e=.returned (.bool gd)∧w'=w):=fun w=>by
        have:=tU pt lv w d1 d2
        rw [hgd] at this
        exact this)
  rw [hg5,hgd];cases hq:(gl == g5)
  ·first
    | (replace mL:=mL;exact vd.1 lv tg asd pt tm gl g5 w HKL HTM h1' h2' HB hq)
    | (replace mP:=mP;exact vd.2 lv tg asd pt tm gl g5 w HKL HTM h1' h2' HB hq)
  ·have hq':gl=g5:=by simpa using hq
   subst hq';cases gd
   ·first
     | (replace mL:=mL;exact ve.1 lv tg asd pt tm gl w HKL HTM h1' h2' HB HGD)
     | (replace mP:=mP;exact ve.2 lv tg asd pt tm gl w HKL HTM h1' h2' HB HGD)
   ·first
     | (replace mL:=mL;exact sZ.1 lv tg asd pt tm gl w HKL HTM h1' h2' HB HGD)
     | (replace mP:=mP;exact sZ.2 lv tg asd pt tm gl w HKL HTM h1' h2' HB HGD)
theorem kW (b o:Nat) (sets tag:Int) (w:World) (hs:sets=1∨sets=2∨sets=4∨sets=8) (c0:w.cell? (AD b o)=some (VI sets)) (ht:0<=tag) (ht1:tag<=18446744073709551615):
 Calls Tryz.prog 103 #[PT b o,VU tag] w fun e w'=>e=.returned (VI (tag%sets))∧w'=w:=by
 rcases hs with rfl | rfl | rfl | rfl;all_goals
  go_enter Tryz.func103,Tryz.ntmps103;go_wp2;go_ret;exact ⟨eQ (by omega),rfl⟩
theorem kX (b o:Nat) (sets tag:Int) (w:World) (hs:sets=1∨sets=2∨sets=4∨sets=8) (c0:w.cell? (AD b o)=some (VI sets)) (ht:0<=tag) (ht1:tag<=18446744073709551615):
 Calls Tryz.prog 105 #[PT b o,VU tag] w fun e w'=>e=.returned (VI (tag%sets))∧w'=w:=by
 rcases hs with rfl | rfl | rfl | rfl;all_goals
  go_enter Tryz.func105,Tryz.ntmps105;go_wp2;go_ret;exact ⟨eQ (by omega),rfl⟩
section
attribute [local go_sem ↓] Go.wp_at_zero Go.wp_at_succ
def oE (z0:Nat) (z1:Bool):Prop:=∀(b o g n:Nat) (t:TlbM) (va asid:Int) (w:World) (hn:t.es.length=n) (hn1:n<=1048576) (hv:aF t z1=true) (hbl:b<w.heap.size)
 (c0:w.cell? (AD b o)=some (VI t.sets)) (c1:w.cell? ⟨b,o+1,none⟩=some (VI t.ways)) (c2:w.cell? ⟨b,o+2,none⟩=some (SL g n n)) (hr:RowC w (some (AD g 0)) n 6 (ah t.es)) (hv0:0<=va) (hv1:va<=18446744073709551615),Calls Tryz.prog z0 #[PT b o,VU va,VU asid] w fun e w'=>e=.returned (.tuple #[VI (aX t va asid).2.1,.bool (aX t va asid).1])∧Bw w w'
theorem lx:oE 196 false∧oE 202 true:=by
 refine ⟨?_,?_⟩;have mL:=trivial
 rotate_left
 have mP:=trivial
 rotate_left
 all_goals
  intro b o g n t va asid w hn hn1 hv hbl c0 c1 c2 hr hv0 hv1;obtain ⟨hs4,hw1,hw4,hnw⟩:=sR hv;first
   | (replace mL:=mL;have HV:Hid (aF t false=true):=hv)
   | (replace mP:=mP;have HV:Hid (aF t true=true):=hv)
  have HEi:=hid (co hv);have HR:=hid hr;have HN:=hid hn;have HNw:Hid ((n:Int)=t.sets*t.ways):=by show _=_;rw [<-hn];exact hnw
  obtain ⟨X,hX⟩:∃X,aX t va asid=X:=⟨_,rfl⟩;have HX:=hid hX;rw [hX];clear hX hv hr hnw hn;obtain ⟨sets,ways,es⟩:=t;simp only at *;first
   | (replace mL:=mL;go_enter Tryz.func196,Tryz.ntmps196)
   | (replace mP:=mP;go_enter Tryz.func202,Tryz.ntmps202)
  go_wp2;go_loopw [12] (fun i wr=>∃l:Nat,l<=3∧i=VI l∧Hid (∀l':Nat,l'<l->cw va asid l' 0 es=none)∧Bw w wr) (fun i _=>3-(intOf i).toNat)
  case atStart=>exact ⟨0,by omega,rfl,fun l' h=>absurd h (by omega),brf⟩
  case round=>
   obtain ⟨l,hl,rfl,HF,hb⟩:=hrel;by_cases hlt:l<3
   ·have hl3:(l:Int)=0∨(l:Int)=1∨(l:Int)=2:=by omega
    obtain ⟨tm,htm⟩:∃tm,cG va l=tm:=⟨_,rfl⟩;have htb:=kz va l hl3;rw [htm] at htb;obtain ⟨sx,hsx⟩:∃sx,tm%sets=sx:=⟨_,rfl⟩;have hsb:0<=sx∧sx<sets:=by rw [<-hsx];exact ⟨Int.emod_nonneg _ (by omega),Int.emod_lt_of_pos _ (by omega)⟩
    obtain ⟨f,hf⟩:∃f:Nat,(f:Int)=sx*ways:=⟨(sx*ways).toNat,Int.toNat_of_nonneg (Int.mul_nonneg hsb.1 (by omega))⟩;have hfn:(f:Int)+ways<=n:=by
     rw [HNw.out,hf];have:(sx+1)*ways<=sets*ways:=Int.mul_le_mul_of_nonneg_right (by omega) (by omega);rw [Int.add_mul,Int.one_mul] at this;exact this
    have HFi:Hid ((f:Int)=cG va l%sets*ways):=by show _=_;rw [htm,hsx];exact hf
    have HWm:=hid hf.symm;have r0:=Below.cell2 hb c0 hbl;have r1:=Below.cell2 hb c1 hbl;have HTg:Hid (∀u,Calls Tryz.prog 133 #[VU va,VI l] u fun e w'=>e=.returned (VU tm)∧∃q,w'=u.drewN q):=fun u=>by
     have:=qy va l u hv0 hv1 hl3;rw [htm] at this;exact this
    first
     | (replace mL:=mL;have HSt:Hid (∀q,Calls Tryz.prog 103 #[PT b o,VU tm] (wr.drewN q) fun e w'=>e=.returned (VI sx)∧w'=wr.drewN q):=fun q=>by
          have:=kW b o sets tm (wr.drewN q) hs4 r0 htb.1 (by omega)
          rw [hsx] at this
          exact this)
     | (replace mP:=mP;have HSt:Hid (∀q,Calls Tryz.prog 105 #[PT b o,VU tm] (wr.drewN q) fun e w'=>e=.returned (VI sx)∧w'=wr.drewN q):=fun q=>by
          have:=kX b o sets tm (wr.drewN q) hs4 r0 htb.1 (by omega)
          rw [hsx] at this
          exact this)
    clear htm hsx;go_wp2;go_cut [9] (fun s9 wx=>s9=VI f∧∃q,wx=wr.drewN q)
    case first=>
     first
      | (replace mL:=mL;go_quiet (first
           | (go_at_call 133;exact Calls.quiet_of (HTg.out _))
           | (go_at_call 103;exact Calls.quiet_of_same (HSt.out _))))
      | (replace mP:=mP;go_quiet (first
           | (go_at_call 133;exact Calls.quiet_of (HTg.out _))
           | (go_at_call 105;exact Calls.quiet_of_same (HSt.out _))))
     go_wp2;go_meet;exact ⟨by rw [HWm.out],nq,rfl⟩
    case rest=>
     obtain ⟨rfl,q,rfl⟩:=hcut;have hb2:Bw w (wr.drewN q):=below_drewN hb q;generalize wr.drewN q=v2 at hb2 |-;clear r0 r1 hb HTg HSt HWm hsb hf;go_wp2_with fail;rename_i wr0;go_loopw [10] (fun i wr=>∃q:Nat,f<=q∧(q:Int)<=f+ways∧i=VI q∧Hid (∀(q':Nat) x,f<=q'->q'<q->es[q']?=some x->gn va asid l x=false)∧Bw w wr) (fun i _=>f+4-(intOf i).toNat)
     case atStart=>exact ⟨f,nle,by omega,rfl,fun q' x h h'=>absurd h' (by omega),hb2⟩
     case round=>
      obtain ⟨q,hq1,hq2,rfl,HQ,hb3⟩:=hrel;have r1:wr.cell? ⟨b,o+1,none⟩=some (VI ways):=Below.cell2 hb3 c1 hbl;have r2:wr.cell? ⟨b,o+2,none⟩=some (SL g n n):=Below.cell2 hb3 c2 hbl;by_cases hqt:(q:Int)<f+ways
      ·have hqn:q<n:=by omega
       obtain ⟨⟨vv,lv,tg,asd,gl,pt⟩,hx⟩:∃x,es[q]?=some x:=⟨_,geg (by rw [HN.out];exact hqn)⟩;have HXq:Hid (es[q]?=some ⟨vv,lv,tg,asd,gl,pt⟩):=hx;have CE:∀j u,j<6->(dH ⟨vv,lv,tg,asd,gl,pt⟩)[j]?=some u->wr.cell? ⟨g,q*6+j,none⟩=some u:=fun j u hj hu=>fJ (HR.out.keep hb3) HN.out q _ hx j u hj hu;have g0:wr.cell? ⟨g,q*6,none⟩=some (VI lv):=CE 0 _ (by omega) rfl;have g1:wr.cell? ⟨g,q*6+1,none⟩=some (VU tg):=CE 1 _ (by omega) rfl;have g2:wr.cell? ⟨g,q*6+2,none⟩=some (VU asd):=CE 2 _ (by omega) rfl;have g3:wr.cell? ⟨g,q*6+3,none⟩=some (.bool gl):=CE 3 _ (by omega) rfl;have g4:wr.cell? ⟨g,q*6+4,none⟩=some (.bool vv):=CE 4 _ (by omega) rfl;have HNx:Hid (gn va asid l ⟨vv,lv,tg,asd,gl,pt⟩=false->∀(q':Nat) x,f<=q'->q'<q+1->es[q']?=some x->gn va asid l x=false):=fun h q' x h1 h2 h3=>by
        by_cases e:q'=q
        ·subst e;rw [HXq.out] at h3;cases h3;exact h
        ·exact HQ.out q' x h1 (by omega) h3
       clear CE hx;cases vv
       ·go_wp2;go_roundw
        case rel=>exact ⟨q+1,by omega,by omega,by go_num,HNx.out (by simp [gn,gQ]),hb3⟩
        case measure=>simp [intOf];omega
       ·by_cases hlv:lv=l
        ·subst hlv;obtain ⟨fb,hfb⟩:∃fb,((tg == cG va l) && (gl || asd == asid))=fb:=⟨_,rfl⟩;have HFt:Hid (∀u,Calls Tryz.prog 198 #[.agg #[VI l,VU tg,VU asd,.bool gl],VU va,VU asid] u fun e w'=>e=.returned (.bool fb)∧Bw u w'):=fun u=>by
          have:=yI l tg asd va asid gl u hl3 hv0 hv1;rw [hfb] at this;exact this
         have HHb:Hid (gn va asid l ⟨true,l,tg,asd,gl,pt⟩=fb):=by
          show _=_;rw [<-hfb];simp [gn,gQ]
         clear hfb;go_wp2_with fail;refine (HFt.out wr).mono ?_;rintro e v5 ⟨rfl,n5⟩;have A5:=bst hb3 n5;cases fb
         ·go_wp2;go_roundw
          case rel=>exact ⟨q+1,by omega,by omega,by go_num,HNx.out HHb.out,A5⟩
          case measure=>simp [intOf];omega
         ·have hx:X=(true,(q:Int),(l:Int),pt):=by
           rw [<-HX.out];have hfi:=wB (t:=⟨sets,ways,es⟩) (k:=q-f) HV.out HFi.out (by simp only;rw [show f+(q-f)=q by omega];exact HXq.out) HHb.out (fun j y hj hy=>HQ.out (f+j) y (by omega) (by omega) hy);rw [show f+(q-f)=q by omega] at hfi;exact yR ⟨sets,ways,es⟩ va asid l q _ HEi.out (by omega) HF.out hfi
          subst hx;go_wp2_with fail;first
           | (replace mL:=mL;exact bodyPost_ret (v:=.tuple #[VI q,.bool true]) (by simp [results,Tryz.results196,go_sem]) rfl ⟨rfl,A5⟩)
           | (replace mP:=mP;exact bodyPost_ret (v:=.tuple #[VI q,.bool true]) (by simp [results,Tryz.results202,go_sem]) rfl ⟨rfl,A5⟩)
        ·have hlv':(lv == (l:Int))=false:=by simpa using hlv
         go_wp2;go_roundw
         case rel=>exact ⟨q+1,by omega,by omega,by go_num,HNx.out (by simp [gn,hlv]),hb3⟩
         case measure=>simp [intOf];omega
      ·have hqe:(q:Int)=f+ways:=by omega
       have hnn:=wz (t:=⟨sets,ways,es⟩) HV.out HFi.out (fun j x hj hx=>HQ.out (f+j) x (by omega) (by simp only at hj;omega) hx);have HNn:=hid hnn;clear hnn;go_wp2;go_roundw
       case rel=>exact ⟨l+1,by omega,by go_num,fun l' hl'=>by
        by_cases e:l'=l
        ·subst e;exact HNn.out
        ·exact HF.out l' (by omega),hb3⟩
       case measure=>simp [intOf];omega
   ·have hl3:l=3:=by omega
    subst hl3;have hx:X=(false,0,0,0):=by
     rw [<-HX.out];exact vq _ va asid HEi.out HF.out
    subst hx;go_wp2_with fail;first
     | (replace mL:=mL;exact bodyPost_ret (v:=.tuple #[VI 0,.bool false]) (by simp [results,Tryz.results196,go_sem]) rfl ⟨rfl,hb⟩)
     | (replace mP:=mP;exact bodyPost_ret (v:=.tuple #[VI 0,.bool false]) (by simp [results,Tryz.results202,go_sem]) rfl ⟨rfl,hb⟩)
end
theorem jG (lv:Int) (ra:Option Addr) (n rc:Nat) (w:World):
 Calls Tryz.prog 166 #[.agg #[VI lv,VU 0,.slice ra n rc]] w fun e w'=>e=.returned (.slice ra n rc)∧Bw w w':=by
 have n1:=(Below.refl w.heap.size w).alloc nle (Obj.cells #[VI lv,VU 0,.slice ra n rc] 284);go_enter Tryz.func166,Tryz.ntmps166;go_wp2;go_ret;exact ⟨rfl,n1⟩
theorem jH (lv lf:Int) (g n rc:Nat) (w:World) (h:lf≠0) (hn:n<=3) (hn1:n+1<=rc) (hrc:rc<=9223372036854775807):
 Calls Tryz.prog 166 #[.agg #[VI lv,VU lf,SL g (n+1) rc]] w fun e w'=>e=.returned (SL g n rc)∧Bw w w':=by
 have n1:=(Below.refl w.heap.size w).alloc nle (Obj.cells #[VI lv,VU lf,SL g (n+1) rc] 284);have h':(lf == 0)=false:=by simpa using h
 go_enter Tryz.func166,Tryz.ntmps166;go_wp2;go_ret;exact ⟨by simp,n1⟩
theorem rQ (b:Nat) (kind:Int) (w:World):
 Calls Tryz.prog 195 #[PT b 20,VI kind] w fun e w'=>e=.returned (.pointer (some ⟨b,if kind=0 then 20 else 23,none⟩))∧w'=w:=by
 by_cases h:kind=0
 ·subst h;go_enter Tryz.func195,Tryz.ntmps195;go_wp2;go_ret;exact ⟨rfl,rfl⟩
 ·rw [if_neg h];go_enter Tryz.func195,Tryz.ntmps195;go_wp2;go_ret;exact ⟨rfl,rfl⟩
theorem xC (b base gi gd gp:Nat) (k:KM) (sv:Value) (zs:List Int) (satp va:Int) (w:World) (hS:SetM w b base gi gd gp k) (hk:aF k.p true=true) (hko:∀e∈k.p.es,ft e) (hkl:k.p.es.length<=1048576)
 (hB:SrcAt w sv zs) (hv0:0<=va) (hv1:va<=18446744073709551615) (hr0:0<=satp) (hr1:satp<=18446744073709551615):
 Calls Tryz.prog 199 #[PT b 20,sv,VU satp,VU va] w fun e w'=>ua w.heap.size w' e (aE zs satp va (aX k.p va (aB satp)))∧Bw w w':=by
 have HS:=hid hS;have HB:=hid hB;have hb:=hS.lt;obtain ⟨⟨f,i,l,pt⟩,hX⟩:∃X,aX k.p va (aB satp)=X:=⟨_,rfl⟩;have HX:=hid hX;have HGet:Hid (f=true->∃(q:Nat) (x:EntM),k.p.es[q]?=some x∧i=(q:Int)∧l=x.level∧pt=x.pte∧(x.level=1∨x.level=2)):=fun hf=>by
  obtain ⟨q,x,h1,h2,h3,h4,_,h6⟩:=js k.p va (aB satp) (by rw [hX];exact hf);rw [hX] at h2 h3 h4;refine ⟨q,x,h1,h2,h3,h4,?_⟩;have hp:=fx hk q x h1;simp only [bL,Bool.or_eq_true,Bool.and_eq_true,beq_iff_eq] at hp;rcases hp with hp | hp
  ·rw [h6] at hp;simp at hp
  ·have hg:=hp.1;simp only [aH,Bool.and_eq_true,decide_eq_true_eq,beq_iff_eq,lO,if_true] at hg;have hkd:=hg.2;have hlv:=hg.1.1.1.1.1.2;have hlv2:=hg.1.1.1.1.2;rcases (show x.level=0∨x.level=1∨x.level=2 by omega) with h0 | h0 | h0
   ·rw [h0] at hkd;exact absurd hkd (ie _)
   ·exact .inl h0
   ·exact .inr h0
 obtain ⟨R,hR⟩:∃R,aE zs satp va (f,i,l,pt)=R:=⟨_,rfl⟩;have HRs:=hid hR;rw [hX,hR];clear hX hS hB hR;obtain ⟨v1,Ev1,n1,H1,l1⟩:=al1 w #[VI 0,VU 0,SN] 284;go_enter Tryz.func199,Tryz.ntmps199;go_wp2_with fail;rw [Ev1.out];clear Ev1;have HF:Hid (∀u:Lies v1,Calls Tryz.prog 202 #[PT b 26,VU va,VU (aB satp)] u.w fun e w'=>e=.returned (.tuple #[VI i,.bool f])∧Below u.w.heap.size u.w w'):=fun u=>by
  have S:=HS.out.keep (bst n1 u.h);obtain ⟨c0,c1,c2⟩:=S.cellP;have:=lx.2 b 26 gp k.p.es.length k.p va (aB satp) u.w rfl hkl hk S.lt c0 c1 c2 (cT S.2.1.2.2.1) hv0 hv1;rw [HX.out] at this;exact this
 have HA:=hid fun (u:Lies v1)=>gP satp u.w hr0 hr1;generalize aB satp=asd at HF HA;have ne:=dS v1;refine dk (by kernel_rfl) (by kernel_rfl) ?_;repeat (go_big_quiet_step ((first
  | (go_at_call 163;exact jd _ (HA.out _))
  | (go_at_call 202;exact mG _ (HF.out _)))))
 refine wpQuiet_nil ?_;rintro _ ⟨u,rfl⟩;have n2:=u.h;generalize u.w=v2 at n2 |-;have H2:=ae H1 n2;have A2:=bst n1 n2;have l2:=ltl l1 n2.size;clear n1 n2 H1 ne HF HA;obtain ⟨⟨d0,d1,d2⟩,e0,e1,e2⟩:=au H2.out;cases f
 ·have hres:R=aU zs satp va:=by rw [<-HRs.out];simp [aE]
  go_wp2_with fail;refine (eE sv zs va satp v2 (HB.out.keep A2) hv0 hv1 hr0 hr1).mono ?_;rw [<-hres];rintro e v3 ⟨hw,n3⟩;have H3:=ae H2 n3;have A3:=bst A2 n3;obtain ⟨ra,rc,rfl,o3⟩:=hw;clear d0 d1 d2 e0 e1 e2 hres HRs;obtain ⟨⟨d0,d1,d2⟩,e0,e1,e2⟩:=au H3.out;go_wp2_with fail;exact bodyPost_ret (v:=.tuple #[.agg #[VI R.2.1,VU R.2.2.1,.slice ra R.2.2.2.length rc],bg R.1]) (by simp [results,Tryz.results199,go_sem,d0,d1,d2]) rfl ⟨⟨ra,rc,rfl,bD (ao o3 (gb3 v3 w.heap.size _ _ _) l2) (by omega)⟩,iG A3 nle _ _ _⟩
 ·obtain ⟨q,x,hx,rfl,rfl,rfl,hlv⟩:=HGet.out (by trivial);have hok:=hko x (List.mem_of_getElem? hx);have hql:=(List.getElem?_eq_some_iff.1 hx).1;have S2:=HS.out.keep A2;obtain ⟨_,_,p2⟩:=S2.cellP;have p2':=p2;clear p2;have CE:=fun j u (hj:j<6) (hu:(dH x)[j]?=some u)=>fJ (cT S2.2.1.2.2.1) rfl q _ hx j u hj hu;have g0:v2.cell? ⟨gp,q*6,none⟩=some (VI x.level):=CE 0 _ (by omega) rfl;have g1:v2.cell? ⟨gp,q*6+1,none⟩=some (VU x.tag):=CE 1 _ (by omega) rfl;have g2:v2.cell? ⟨gp,q*6+2,none⟩=some (VU x.asid):=CE 2 _ (by omega) rfl;have g3:v2.cell? ⟨gp,q*6+3,none⟩=some (.bool x.glob):=CE 3 _ (by omega) rfl;have g4:v2.cell? ⟨gp,q*6+4,none⟩=some (.bool x.valid):=CE 4 _ (by omega) rfl;have g5:v2.cell? ⟨gp,q*6+5,none⟩=some (VU x.pte):=CE 5 _ (by omega) rfl;obtain ⟨ll,hsub,hl1⟩:∃ll:Nat,x.level-1=(ll:Int)∧ll<=1:=by
   rcases hlv with h | h
   ·exact ⟨0,by rw [h];rfl,by omega⟩
   ·exact ⟨1,by rw [h];rfl,by omega⟩
  have hL1:1<=x.level:=by omega
  have hL2:x.level<=2:=by omega
  have hres:R=aN zs va ll (cx x.pte):=by
   rw [<-HRs.out];simp only [aE,if_true];rw [hsub];simp
  have HRes:Hid (R=aN zs va ll (cx x.pte)):=hres;have hpb:=hok.2.2.2;have htb:Hid (∀u:World,Calls Tryz.prog 203 #[VU x.pte] u fun e w'=>e=.returned (VU (cx x.pte))∧w'=u):=fun u=>yH x.pte u hpb.1 hpb.2;have hpp:=uI x.pte;clear CE hres HRs HX HGet hlv S2 hx;generalize cx x.pte=pp at *;generalize x.level=L0 at *;generalize x.tag=tg at *;generalize x.asid=ad at *;generalize x.glob=gl at *;generalize x.valid=vv at *;generalize x.pte=pt at *;obtain ⟨v3,Ev3,n3,S3,_⟩:=al1 v2 #[VI L0,VU tg,VU ad,.bool gl,.bool vv,VU pt] 221;go_wp2_with fail;rw [Ev3.out];clear Ev3;have H3:=ae H2 n3;have A3:=bst A2 n3;have l3:w.heap.size<v3.heap.size:=ltl l2 n3.size;clear g0 g1 g2 g3 g4 g5 p2' d0 d1 d2 e0 e1 e2 n3 H2 A2;obtain ⟨⟨g0,g1,g2,g3,g4,g5⟩,_⟩:=fz S3.out;have D3:=bdr v3;have nev1:v2.heap.size≠w.heap.size:=by omega
  have nev2:w.heap.size≠v2.heap.size:=by omega
  have hwl:IntKind.i64.wrap (ll:Int)=(ll:Int):=(IntKind.wrap_i64 _).trans (by omega);clear g1 g2 g3 g4 hk hko hkl hb hok hql HS;clear l1 l2 hr0 hr1;go_region_held3 (fun w'=>w'.cell? (AD v2.heap.size 0)=some (VI L0)∧w'.cell? (AD v2.heap.size 5)=some (VU pt)) (go_keep)
   (first
   | (go_at_call 203;refine (htb.out _).mono ?_;rintro e w' ⟨rfl,rfl⟩)
   | (go_at_call 170;refine (kx sv zs va pp ll v3.drew (HB.out.keep (bst A3 D3)) (by omega) hv0 hv1 hpp.1 hpp.2).mono ?_;rw [<-HRes.out];rintro e v4 ⟨hw,n4⟩;obtain ⟨ra,rc,rfl,o4⟩:=hw;have N4:=bst D3 n4;have H4:=ae H3 N4;have S4:=ae S3 N4;have A4:=bst A3 N4;have O4:Hid _:=o4;have kk:=au H4.out;obtain ⟨⟨j0,j1,j2⟩,i0,i1,i2⟩:=kk;have kk2:=fz S4.out;obtain ⟨⟨t0,t1,t2,t3,t4,t5⟩,_⟩:=kk2;clear o4))
  all_goals
   go_wp2_with fail;exact bodyPost_ret (v:=.tuple #[.agg #[VI R.2.1,VU R.2.2.1,.slice ra R.2.2.2.length rc],bg R.1]) (by simp [results,Tryz.results199,go_sem,j0,j1,j2]) rfl ⟨⟨ra,rc,rfl,bD (ao O4.out (gb3 v4 w.heap.size _ _ _) l3) (Nat.le_of_lt l3)⟩,iG A4 nle _ _ _⟩
theorem we (z:EntM) (n:Nat):(madeCells (ky z).toArray (n*6)).toList=bE (List.replicate n z):=by
 apply List.ext_getElem?;intro j;by_cases hj:j<n*6
 ·have hq:j/6<(List.replicate n z).length:=by simp;omega
  have:=nE (List.replicate n z) (j/6) (j%6) hq (by omega);rw [show j/6*6+j%6=j by omega] at this;rw [this];have h6:j%6<(ky z).length:=by simp [ky];omega
  simp only [madeCells,List.getElem_replicate];rw [geg h6];simp [hj,ky];rw [geg (by simpa [ky] using h6)];rfl
 ·rw [List.getElem?_eq_none (by simp [madeCells];omega),List.getElem?_eq_none (by rw [fO];simp;omega)]
theorem uQ (n:Nat) (hn:n<=1048576):∃cs:Array Value,cs.toList=bE (List.replicate n bC)∧∀u:World,(Instr.makeSlice 38 (VI (n:Int)) (VI (n:Int))).run Tryz.prog u=.ok (SL u.heap.size n n) (u.alloc (.cells cs 154)):=by
 obtain ⟨i0,hi,hz0,hz1,hz2⟩:=info_parts Tryz.infoEnt;refine ⟨madeCells (Value.agg #[.bool false,VI 0,VU 0,VU 0,.bool false,VU 0]).cells (n*6),?_,fun u=>?_⟩
 ·exact we bC n
 ·have:=run_make (P:=Tryz.prog) u 38 154 i0 _ Tryz.underlying38 hi hz0 .i64 .i64 n n (by omega) (Int.le_refl _) (by rw [hz2];omega) (by omega);rw [hz1] at this;simpa using this
theorem oF (sets ways:Int) (a:Option Addr) (n cap:Nat) (w:World) (hn:n<=1048576) (hs: -9223372036854775808<=sets∧sets<=9223372036854775807) (hw: -9223372036854775808<=ways∧ways<=9223372036854775807):
 Calls Tryz.prog 101 #[.agg #[VI sets,VI ways,.slice a n cap]] w fun e w'=>e=.returned (.bool (decide ((sets=1∨sets=2∨sets=4∨sets=8)∧1<=ways∧ways<=4∧(n:Int)=sets*ways)))∧Bw w w':=by
 have n1:=(Below.refl w.heap.size w).alloc nle (Obj.cells #[VI sets,VI ways,.slice a n cap] 40);by_cases h1:sets=1∨sets=2∨sets=4∨sets=8
 ·by_cases h2:¬(1<=ways)
  ·rcases h1 with rfl | rfl | rfl | rfl;all_goals
    go_enter Tryz.func101,Tryz.ntmps101;go_wp2;go_ret;exact ⟨aR (by simp;omega),n1⟩
  ·have h2':=Decidable.not_not.1 h2;clear h2;by_cases h3:¬(ways<=4)
   ·rcases h1 with rfl | rfl | rfl | rfl;all_goals
     go_enter Tryz.func101,Tryz.ntmps101;go_wp2;go_ret;exact ⟨aR (by simp;omega),n1⟩
   ·have h3':=Decidable.not_not.1 h3;clear h3;rcases h1 with rfl | rfl | rfl | rfl;all_goals
     go_enter Tryz.func101,Tryz.ntmps101;go_wp2;go_ret;exact ⟨aR (by simp [h2',h3'];rfl),n1⟩
 ·have h1':=h1;simp only [not_or] at h1';obtain ⟨s1,s2,s4,s8⟩:=h1';go_enter Tryz.func101,Tryz.ntmps101;go_wp2;go_ret;exact ⟨aR (by simp [h1]),n1⟩
def ou (e:EntM):Bool:=e.valid == false && e.level == 0 && e.tag == 0 && e.asid == 0 && e.glob == false && e.pte == 0
theorem As (v:Bool) (lv tg asd:Int) (gl:Bool) (pt:Int) (w:World):
 (binOp .eql 154 (.agg #[.bool v,VI lv,VU tg,VU asd,.bool gl,VU pt]) (.agg #[.bool false,VI 0,VU 0,VU 0,.bool false,VU 0])).run Tryz.prog w=.ok (.bool (ou ⟨v,lv,tg,asd,gl,pt⟩)) w:=by
 unfold ou;cases v
 case true=>(go_simp;try simp)
 by_cases h1:lv=0
 case neg=>(have q1:(lv == 0)=false:=by simpa using h1);(go_simp;try simp [q1])
 subst h1;by_cases h2:tg=0
 case neg=>(have q1:(tg == 0)=false:=by simpa using h2);(go_simp;try simp [q1])
 subst h2;by_cases h3:asd=0
 case neg=>(have q1:(asd == 0)=false:=by simpa using h3);(go_simp;try simp [q1])
 subst h3;cases gl
 case true=>(go_simp;try simp)
 by_cases h4:pt=0
 case neg=>(have q1:(pt == 0)=false:=by simpa using h4);(go_simp;try simp [q1])
 subst h4;go_simp;try simp
end Go.Proofs.YthdgiakgepmabaaGreat
