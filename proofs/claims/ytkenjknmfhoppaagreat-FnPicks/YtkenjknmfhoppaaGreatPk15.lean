import Derived.Test.YtkenjknmfhoppaaGreatPk11
namespace Go.Proofs.YtkenjknmfhoppaaGreat
open Go.RowKit
set_option linter.unusedVariables false
set_option maxHeartbeats 6400000
set_option maxRecDepth 20000
theorem lN (w:World) (x y:Obj):Bw w ((w.alloc x).alloc y):=((Below.refl w.heap.size w).alloc nle x).alloc (by simp) y
theorem ou (w:World) (A:Array Value) (T:TypeId) (B:Array Value) (U:TypeId) (k:Nat):∃v2,((w.alloc (Obj.cells A T)).alloc (Obj.cells B U)).drewN k=v2∧Hid (v2.heap[w.heap.size]?=some (.cells A T (0,0)))∧Hid (v2.heap[w.heap.size+1]?=some (.cells B U (0,0)))∧Bw w v2∧v2.heap.size=w.heap.size+2:=by
 refine ⟨_,rfl,?_,?_,below_drewN (lN _ _ _) k,?_⟩
 ·show ((w.alloc (Obj.cells A T)).alloc (Obj.cells B U)).heap[w.heap.size]?=_;rw [zF _ _ (by simp)];exact fE w _
 ·have:=fE (w.alloc (Obj.cells A T)) (Obj.cells B U);simp only [World.size_alloc] at this;exact this
 ·show ((w.alloc (Obj.cells A T)).alloc (Obj.cells B U)).heap.size=_;simp
theorem jP (x:Int) (w:World):(method 444 204 (VU x) "loop.example/s0051/impl.goodAt").run Tryz.prog w=.ok (240,VU x) w:=by kernel_rfl
theorem jQ (x:Int) (w:World):(method 444 207 (VU x) "loop.example/s0051/impl.goodAt").run Tryz.prog w=.ok (241,VU x) w:=by kernel_rfl
def zx (z0:Nat):Prop:=∀(lv tg asd pt tm:Int) (gl:Bool) (w:World),Calls Tryz.prog z0 #[.agg #[.bool false,VI lv,VU tg,VU asd,.bool gl,VU pt]] w fun e w'=>e=.returned (.tuple #[dF cZ,.bool false])∧Bw w w'
theorem Cd:zx 136∧zx 138:=by
 refine ⟨?_,?_⟩;have mL:Hid True:=trivial
 rotate_left
 have mP:Hid True:=trivial
 rotate_left
 all_goals
  intro lv tg asd pt tm gl w;first
   | (replace mL:=mL;go_enter Tryz.func136,Tryz.ntmps136)
   | (replace mP:=mP;go_enter Tryz.func138,Tryz.ntmps138)
  go_wp2;go_quiet (fail);go_wp2_with fail;first
   | (replace mL:=mL;exact bodyPost_ret (v:=.tuple #[dF cZ,.bool false]) (by simp [results,Tryz.results136,go_sem,dF,cZ]) rfl ⟨rfl,ka (below_drewN (lN _ _ _) nq) (by omega) _ _ _ _ _ _⟩)
   | (replace mP:=mP;exact bodyPost_ret (v:=.tuple #[dF cZ,.bool false]) (by simp [results,Tryz.results138,go_sem,dF,cZ]) rfl ⟨rfl,ka (below_drewN (lN _ _ _) nq) (by omega) _ _ _ _ _ _⟩)
def zy (z0:Nat):Prop:=∀(lv tg asd pt tm:Int) (gl:Bool) (w:World) (HKL:Hid (∀w,Calls Tryz.prog 162 #[VI lv] w fun e w'=>e=.returned (.bool false)∧w'=w)),Calls Tryz.prog z0 #[.agg #[.bool true,VI lv,VU tg,VU asd,.bool gl,VU pt]] w fun e w'=>e=.returned (.tuple #[dF cZ,.bool false])∧Bw w w'
theorem Ce:zy 136∧zy 138:=by
 refine ⟨?_,?_⟩;have mL:Hid True:=trivial
 rotate_left
 have mP:Hid True:=trivial
 rotate_left
 all_goals
  intro lv tg asd pt tm gl w HKL;first
   | (replace mL:=mL;go_enter Tryz.func136,Tryz.ntmps136)
   | (replace mP:=mP;go_enter Tryz.func138,Tryz.ntmps138)
  go_wp2;go_quiet ((go_at_call 162;exact Calls.quiet_of_same (HKL.out _)));go_wp2_with fail;first
   | (replace mL:=mL;exact bodyPost_ret (v:=.tuple #[dF cZ,.bool false]) (by simp [results,Tryz.results136,go_sem,dF,cZ]) rfl ⟨rfl,ka (below_drewN (lN _ _ _) nq) (by omega) _ _ _ _ _ _⟩)
   | (replace mP:=mP;exact bodyPost_ret (v:=.tuple #[dF cZ,.bool false]) (by simp [results,Tryz.results138,go_sem,dF,cZ]) rfl ⟨rfl,ka (below_drewN (lN _ _ _) nq) (by omega) _ _ _ _ _ _⟩)
def zz (z0:Nat):Prop:=∀(lv tg asd pt tm:Int) (gl:Bool) (w:World) (HKL:Hid (∀w,Calls Tryz.prog 162 #[VI lv] w fun e w'=>e=.returned (.bool true)∧w'=w)) (HTM:Hid (∀w,Calls Tryz.prog 163 #[VI lv] w fun e w'=>e=.returned (VU tm)∧w'=w)) (h:¬(tg<=tm)),Calls Tryz.prog z0 #[.agg #[.bool true,VI lv,VU tg,VU asd,.bool gl,VU pt]] w fun e w'=>e=.returned (.tuple #[dF cZ,.bool false])∧Bw w w'
theorem Cf:zz 136∧zz 138:=by
 refine ⟨?_,?_⟩;have mL:Hid True:=trivial
 rotate_left
 have mP:Hid True:=trivial
 rotate_left
 all_goals
  intro lv tg asd pt tm gl w HKL HTM h;first
   | (replace mL:=mL;go_enter Tryz.func136,Tryz.ntmps136)
   | (replace mP:=mP;go_enter Tryz.func138,Tryz.ntmps138)
  go_wp2;go_quiet (first
   | (go_at_call 162;exact Calls.quiet_of_same (HKL.out _))
   | (go_at_call 163;exact Calls.quiet_of_same (HTM.out _)))
  go_wp2_with fail;first
   | (replace mL:=mL;exact bodyPost_ret (v:=.tuple #[dF cZ,.bool false]) (by simp [results,Tryz.results136,go_sem,dF,cZ]) rfl ⟨rfl,ka (below_drewN (lN _ _ _) nq) (by omega) _ _ _ _ _ _⟩)
   | (replace mP:=mP;exact bodyPost_ret (v:=.tuple #[dF cZ,.bool false]) (by simp [results,Tryz.results138,go_sem,dF,cZ]) rfl ⟨rfl,ka (below_drewN (lN _ _ _) nq) (by omega) _ _ _ _ _ _⟩)
def zA (z0:Nat):Prop:=∀(lv tg asd pt tm:Int) (gl:Bool) (w:World) (HKL:Hid (∀w,Calls Tryz.prog 162 #[VI lv] w fun e w'=>e=.returned (.bool true)∧w'=w)) (HTM:Hid (∀w,Calls Tryz.prog 163 #[VI lv] w fun e w'=>e=.returned (VU tm)∧w'=w)) (h:tg<=tm) (h2:¬(asd<=65535)),Calls Tryz.prog z0 #[.agg #[.bool true,VI lv,VU tg,VU asd,.bool gl,VU pt]] w fun e w'=>e=.returned (.tuple #[dF cZ,.bool false])∧Bw w w'
theorem Cg:zA 136∧zA 138:=by
 refine ⟨?_,?_⟩;have mL:Hid True:=trivial
 rotate_left
 have mP:Hid True:=trivial
 rotate_left
 all_goals
  intro lv tg asd pt tm gl w HKL HTM h h2;first
   | (replace mL:=mL;go_enter Tryz.func136,Tryz.ntmps136)
   | (replace mP:=mP;go_enter Tryz.func138,Tryz.ntmps138)
  go_wp2;go_quiet (first
   | (go_at_call 162;exact Calls.quiet_of_same (HKL.out _))
   | (go_at_call 163;exact Calls.quiet_of_same (HTM.out _)))
  go_wp2_with fail;first
   | (replace mL:=mL;exact bodyPost_ret (v:=.tuple #[dF cZ,.bool false]) (by simp [results,Tryz.results136,go_sem,dF,cZ]) rfl ⟨rfl,ka (below_drewN (lN _ _ _) nq) (by omega) _ _ _ _ _ _⟩)
   | (replace mP:=mP;exact bodyPost_ret (v:=.tuple #[dF cZ,.bool false]) (by simp [results,Tryz.results138,go_sem,dF,cZ]) rfl ⟨rfl,ka (below_drewN (lN _ _ _) nq) (by omega) _ _ _ _ _ _⟩)
def zB (z0:Nat):Prop:=∀(lv tg asd pt tm:Int) (gl g5:Bool) (w:World) (HKL:Hid (∀w,Calls Tryz.prog 162 #[VI lv] w fun e w'=>e=.returned (.bool true)∧w'=w)) (HTM:Hid (∀w,Calls Tryz.prog 163 #[VI lv] w fun e w'=>e=.returned (VU tm)∧w'=w)) (h:tg<=tm) (h2:asd<=65535) (HB:Hid (∀w,Calls Tryz.prog 164 #[VU pt,VU 32] w fun e w'=>e=.returned (.bool g5)∧w'=w)) (hne:(gl == g5)=false),Calls Tryz.prog z0 #[.agg #[.bool true,VI lv,VU tg,VU asd,.bool gl,VU pt]] w fun e w'=>e=.returned (.tuple #[dF cZ,.bool false])∧Bw w w'
theorem Ch:zB 136∧zB 138:=by
 refine ⟨?_,?_⟩;have mL:Hid True:=trivial
 rotate_left
 have mP:Hid True:=trivial
 rotate_left
 all_goals
  intro lv tg asd pt tm gl g5 w HKL HTM h h2 HB hne;have hne2:(gl != g5)=true:=by simp [bne,hne]
  first
   | (replace mL:=mL;have hm:=jP pt)
   | (replace mP:=mP;have hm:=jQ pt)
  first
   | (replace mL:=mL;go_enter Tryz.func136,Tryz.ntmps136)
   | (replace mP:=mP;go_enter Tryz.func138,Tryz.ntmps138)
  go_wp2;go_quiet (first
   | (go_at_call 162;exact Calls.quiet_of_same (HKL.out _))
   | (go_at_call 163;exact Calls.quiet_of_same (HTM.out _)))
  first
   | (replace mL:=mL;obtain ⟨v2,e2,P1,P2,B1,S1⟩:=ou w #[.bool true,VI lv,VU tg,VU asd,.bool gl,VU pt] 127 #[VI 0,VU 0,VU 0,.bool false,.bool false,VU 0] 246 nq)
   | (replace mP:=mP;obtain ⟨v2,e2,P1,P2,B1,S1⟩:=ou w #[.bool true,VI lv,VU tg,VU asd,.bool gl,VU pt] 127 #[VI 0,VU 0,VU 0,.bool false,.bool false,VU 0] 251 nq)
  rw [e2];clear e2;obtain ⟨⟨x0,x1,x2,x3,x4,x5⟩,_⟩:=jg P1.out;obtain ⟨⟨y0,y1,y2,y3,y4,y5⟩,z0,z1,z2,z3,z4,z5⟩:=jg P2.out;have ne1:v2.heap.size≠w.heap.size:=by omega
  have ne2:v2.heap.size≠w.heap.size+1:=by omega
  have ne3:w.heap.size<v2.heap.size:=by omega
  have ne4:w.heap.size+1<v2.heap.size:=by omega
  clear HKL HTM;go_wp2;go_quiet ((go_at_call 164;exact Calls.quiet_of_same (HB.out _)));go_wp2_with fail;first
   | (replace mL:=mL;exact bodyPost_ret (v:=.tuple #[dF cZ,.bool false]) (by simp [results,Tryz.results136,go_sem,dF,cZ,y0,y1,y2,y3,y4,y5]) rfl ⟨rfl,ka (below_drewN B1 _) (by omega) _ _ _ _ _ _⟩)
   | (replace mP:=mP;exact bodyPost_ret (v:=.tuple #[dF cZ,.bool false]) (by simp [results,Tryz.results138,go_sem,dF,cZ,y0,y1,y2,y3,y4,y5]) rfl ⟨rfl,ka (below_drewN B1 _) (by omega) _ _ _ _ _ _⟩)
def zC (z0:Nat) (z1:Nat):Prop:=∀(lv tg asd pt tm:Int) (gl:Bool) (w:World) (HKL:Hid (∀w,Calls Tryz.prog 162 #[VI lv] w fun e w'=>e=.returned (.bool true)∧w'=w)) (HTM:Hid (∀w,Calls Tryz.prog 163 #[VI lv] w fun e w'=>e=.returned (VU tm)∧w'=w)) (h:tg<=tm) (h2:asd<=65535) (HB:Hid (∀w,Calls Tryz.prog 164 #[VU pt,VU 32] w fun e w'=>e=.returned (.bool gl)∧w'=w)) (HGD:Hid (∀w,Calls Tryz.prog z0 #[VU pt,VI lv] w fun e w'=>e=.returned (.bool false)∧w'=w)),Calls Tryz.prog z1 #[.agg #[.bool true,VI lv,VU tg,VU asd,.bool gl,VU pt]] w fun e w'=>e=.returned (.tuple #[dF cZ,.bool false])∧Bw w w'
theorem Ci:zC 240 136∧zC 241 138:=by
 refine ⟨?_,?_⟩;have mL:Hid True:=trivial
 rotate_left
 have mP:Hid True:=trivial
 rotate_left
 all_goals
  intro lv tg asd pt tm gl w HKL HTM h h2 HB HGD;have hne2:(gl != gl)=false:=by simp
  first
   | (replace mL:=mL;have hm:=jP pt)
   | (replace mP:=mP;have hm:=jQ pt)
  first
   | (replace mL:=mL;go_enter Tryz.func136,Tryz.ntmps136)
   | (replace mP:=mP;go_enter Tryz.func138,Tryz.ntmps138)
  go_wp2;go_quiet (first
   | (go_at_call 162;exact Calls.quiet_of_same (HKL.out _))
   | (go_at_call 163;exact Calls.quiet_of_same (HTM.out _)))
  first
   | (replace mL:=mL;obtain ⟨v2,e2,P1,P2,B1,S1⟩:=ou w #[.bool true,VI lv,VU tg,VU asd,.bool gl,VU pt] 127 #[VI 0,VU 0,VU 0,.bool false,.bool false,VU 0] 246 nq)
   | (replace mP:=mP;obtain ⟨v2,e2,P1,P2,B1,S1⟩:=ou w #[.bool true,VI lv,VU tg,VU asd,.bool gl,VU pt] 127 #[VI 0,VU 0,VU 0,.bool false,.bool false,VU 0] 251 nq)
  rw [e2];clear e2;obtain ⟨⟨x0,x1,x2,x3,x4,x5⟩,_⟩:=jg P1.out;obtain ⟨⟨y0,y1,y2,y3,y4,y5⟩,z0,z1,z2,z3,z4,z5⟩:=jg P2.out;have ne1:v2.heap.size≠w.heap.size:=by omega
  have ne2:v2.heap.size≠w.heap.size+1:=by omega
  have ne3:w.heap.size<v2.heap.size:=by omega
  have ne4:w.heap.size+1<v2.heap.size:=by omega
  clear HKL HTM;go_wp2_with fail;first
   | (replace mL:=mL;go_quiet (first
          | (go_at_call 164;exact Calls.quiet_of_same (HB.out _))
          | (go_at_call 240;exact Calls.quiet_of_same (HGD.out _))))
   | (replace mP:=mP;go_quiet (first
          | (go_at_call 164;exact Calls.quiet_of_same (HB.out _))
          | (go_at_call 241;exact Calls.quiet_of_same (HGD.out _))))
  go_wp2_with fail;first
   | (replace mL:=mL;exact bodyPost_ret (v:=.tuple #[dF cZ,.bool false]) (by simp [results,Tryz.results136,go_sem,dF,cZ,y0,y1,y2,y3,y4,y5]) rfl ⟨rfl,ka (below_drewN B1 _) (by omega) _ _ _ _ _ _⟩)
   | (replace mP:=mP;exact bodyPost_ret (v:=.tuple #[dF cZ,.bool false]) (by simp [results,Tryz.results138,go_sem,dF,cZ,y0,y1,y2,y3,y4,y5]) rfl ⟨rfl,ka (below_drewN B1 _) (by omega) _ _ _ _ _ _⟩)
def vu (z0:Nat) (z1:Nat):Prop:=∀(lv tg asd pt tm:Int) (gl:Bool) (w:World) (HKL:Hid (∀w,Calls Tryz.prog 162 #[VI lv] w fun e w'=>e=.returned (.bool true)∧w'=w)) (HTM:Hid (∀w,Calls Tryz.prog 163 #[VI lv] w fun e w'=>e=.returned (VU tm)∧w'=w)) (h:tg<=tm) (h2:asd<=65535) (HB:Hid (∀w,Calls Tryz.prog 164 #[VU pt,VU 32] w fun e w'=>e=.returned (.bool gl)∧w'=w)) (HGD:Hid (∀w,Calls Tryz.prog z0 #[VU pt,VI lv] w fun e w'=>e=.returned (.bool true)∧w'=w)),Calls Tryz.prog z1 #[.agg #[.bool true,VI lv,VU tg,VU asd,.bool gl,VU pt]] w fun e w'=>e=.returned (.tuple #[dF ⟨true,lv,tg,asd,gl,pt⟩,.bool true])∧Bw w w'
theorem zD:vu 240 136∧vu 241 138:=by
 refine ⟨?_,?_⟩;have mL:Hid True:=trivial
 rotate_left
 have mP:Hid True:=trivial
 rotate_left
 all_goals
  intro lv tg asd pt tm gl w HKL HTM h h2 HB HGD;have hne2:(gl != gl)=false:=by simp
  first
   | (replace mL:=mL;have hm:=jP pt)
   | (replace mP:=mP;have hm:=jQ pt)
  first
   | (replace mL:=mL;go_enter Tryz.func136,Tryz.ntmps136)
   | (replace mP:=mP;go_enter Tryz.func138,Tryz.ntmps138)
  go_wp2;go_quiet (first
   | (go_at_call 162;exact Calls.quiet_of_same (HKL.out _))
   | (go_at_call 163;exact Calls.quiet_of_same (HTM.out _)))
  first
   | (replace mL:=mL;obtain ⟨v2,e2,P1,P2,B1,S1⟩:=ou w #[.bool true,VI lv,VU tg,VU asd,.bool gl,VU pt] 127 #[VI 0,VU 0,VU 0,.bool false,.bool false,VU 0] 246 nq)
   | (replace mP:=mP;obtain ⟨v2,e2,P1,P2,B1,S1⟩:=ou w #[.bool true,VI lv,VU tg,VU asd,.bool gl,VU pt] 127 #[VI 0,VU 0,VU 0,.bool false,.bool false,VU 0] 251 nq)
  rw [e2];clear e2;obtain ⟨⟨x0,x1,x2,x3,x4,x5⟩,_⟩:=jg P1.out;obtain ⟨⟨y0,y1,y2,y3,y4,y5⟩,z0,z1,z2,z3,z4,z5⟩:=jg P2.out;have ne1:v2.heap.size≠w.heap.size:=by omega
  have ne2:v2.heap.size≠w.heap.size+1:=by omega
  have ne3:w.heap.size<v2.heap.size:=by omega
  have ne4:w.heap.size+1<v2.heap.size:=by omega
  clear HKL HTM;go_wp2_with fail;first
   | (replace mL:=mL;go_quiet (first
          | (go_at_call 164;exact Calls.quiet_of_same (HB.out _))
          | (go_at_call 240;exact Calls.quiet_of_same (HGD.out _))))
   | (replace mP:=mP;go_quiet (first
          | (go_at_call 164;exact Calls.quiet_of_same (HB.out _))
          | (go_at_call 241;exact Calls.quiet_of_same (HGD.out _))))
  go_wp2_with fail;first
   | (replace mL:=mL;exact bodyPost_ret (v:=.tuple #[dF ⟨true,lv,tg,asd,gl,pt⟩,.bool true]) (by simp [results,Tryz.results136,go_sem,dF,y0,y1,y2,y3,y4,y5,ne4]) rfl ⟨rfl,(ka (below_drewN B1 nq) (by omega) _ _ _ _ _ _).alloc (by simp;omega) _⟩)
   | (replace mP:=mP;exact bodyPost_ret (v:=.tuple #[dF ⟨true,lv,tg,asd,gl,pt⟩,.bool true]) (by simp [results,Tryz.results138,go_sem,dF,y0,y1,y2,y3,y4,y5,ne4]) rfl ⟨rfl,(ka (below_drewN B1 nq) (by omega) _ _ _ _ _ _).alloc (by simp;omega) _⟩)
def qi (z0:Nat) (z1:Bool):Prop:=∀(x:EntM) (w:World) (hx:iW x),Calls Tryz.prog z0 #[Jl x] w fun e w'=>e=.returned (.tuple #[dF (if bK x z1=true then x else cZ),.bool (bK x z1)])∧Bw w w'
theorem rI:qi 136 false∧qi 138 true:=by
 refine ⟨?_,?_⟩;have mL:Hid True:=trivial
 rotate_left
 have mP:Hid True:=trivial
 rotate_left
 all_goals
  intro x w hx;obtain ⟨v,lv,tg,asd,gl,pt⟩:=x;obtain ⟨⟨a1,a2⟩,⟨b1,b2⟩,⟨c1,c2⟩,d1,d2⟩:=hx;simp only at a1 a2 b1 b2 c1 c2 d1 d2;unfold Jl;simp only;cases v
  ·first
    | (replace mL:=mL;rw [show bK ⟨false,lv,tg,asd,gl,pt⟩ false=false by simp [bK]])
    | (replace mP:=mP;rw [show bK ⟨false,lv,tg,asd,gl,pt⟩ true=false by simp [bK]])
   first
    | (replace mL:=mL;exact Cd.1 lv tg asd pt 0 gl w)
    | (replace mP:=mP;exact Cd.2 lv tg asd pt 0 gl w)
  by_cases h0:¬(0<=lv∧lv<=2)
  ·first
    | (replace mL:=mL;rw [show bK ⟨true,lv,tg,asd,gl,pt⟩ false=false by simp [bK];omega])
    | (replace mP:=mP;rw [show bK ⟨true,lv,tg,asd,gl,pt⟩ true=false by simp [bK];omega])
   first
    | (replace mL:=mL;exact Ce.1 lv tg asd pt 0 gl w (fun w=>by
         have:=dN lv w
         rw [show decide (0<=lv∧lv<=2)=false by simpa using h0] at this
         exact this))
    | (replace mP:=mP;exact Ce.2 lv tg asd pt 0 gl w (fun w=>by
         have:=dN lv w
         rw [show decide (0<=lv∧lv<=2)=false by simpa using h0] at this
         exact this))
  have h0':0<=lv∧lv<=2:=Decidable.not_not.1 h0;have HKL:Hid (∀w,Calls Tryz.prog 162 #[VI lv] w fun e w'=>e=.returned (.bool true)∧w'=w):=fun w=>by
   have:=dN lv w;rw [show decide (0<=lv∧lv<=2)=true by simpa using h0'] at this;exact this
  obtain ⟨tm,htm⟩:∃tm,AE lv-1=tm:=⟨_,rfl⟩;have HTM:Hid (∀w,Calls Tryz.prog 163 #[VI lv] w fun e w'=>e=.returned (VU tm)∧w'=w):=fun w=>by
   have:=lA lv w (by omega);rw [htm] at this;exact this
  by_cases h1:¬(tg<=tm)
  ·first
    | (replace mL:=mL;rw [show bK ⟨true,lv,tg,asd,gl,pt⟩ false=false by simp [bK];omega])
    | (replace mP:=mP;rw [show bK ⟨true,lv,tg,asd,gl,pt⟩ true=false by simp [bK];omega])
   first
    | (replace mL:=mL;exact Cf.1 lv tg asd pt tm gl w HKL HTM h1)
    | (replace mP:=mP;exact Cf.2 lv tg asd pt tm gl w HKL HTM h1)
  have h1':tg<=tm:=Decidable.not_not.1 h1;by_cases h2:¬(asd<=65535)
  ·first
    | (replace mL:=mL;rw [show bK ⟨true,lv,tg,asd,gl,pt⟩ false=false by simp [bK];omega])
    | (replace mP:=mP;rw [show bK ⟨true,lv,tg,asd,gl,pt⟩ true=false by simp [bK];omega])
   first
    | (replace mL:=mL;exact Cg.1 lv tg asd pt tm gl w HKL HTM h1' h2)
    | (replace mP:=mP;exact Cg.2 lv tg asd pt tm gl w HKL HTM h1' h2)
  have h2':asd<=65535:=Decidable.not_not.1 h2;first
   | (replace mL:=mL;have hgood:bK ⟨true,lv,tg,asd,gl,pt⟩ false=((gl == bU pt 32) && (aW pt lv == 2)):=by
        simp only [bK,rC]
        simp [h0'.1,h0'.2,h2',show tg<AE lv by omega])
   | (replace mP:=mP;have hgood:bK ⟨true,lv,tg,asd,gl,pt⟩ true=((gl == bU pt 32) && (aW pt lv == 1)):=by
        simp only [bK,rC]
        simp [h0'.1,h0'.2,h2',show tg<AE lv by omega])
  rw [hgood];obtain ⟨g5,hg5⟩:∃g5,bU pt 32=g5:=⟨_,rfl⟩;first
   | (replace mL:=mL;obtain ⟨gd,hgd⟩:∃gd,(aW pt lv == 2)=gd:=⟨_,rfl⟩)
   | (replace mP:=mP;obtain ⟨gd,hgd⟩:∃gd,(aW pt lv == 1)=gd:=⟨_,rfl⟩)
  have HB:Hid (∀w,Calls Tryz.prog 164 #[VU pt,VU 32] w fun e w'=>e=.returned (.bool g5)∧w'=w):=fun w=>by
   have:=dL pt 32 w;rw [dS 5 pt 32 rfl (by omega) d1 d2,hg5] at this;exact this
  first
   | (replace mL:=mL;have HGD:Hid (∀w,Calls Tryz.prog 240 #[VU pt,VI lv] w fun e w'=>e=.returned (.bool gd)∧w'=w):=fun w=>by
        have:=Az pt lv w d1 d2
        rw [hgd] at this
        exact this)
   | (replace mP:=mP;have HGD:Hid (∀w,Calls Tryz.prog 241 #[VU pt,VI lv] w fun e w'=>e=.returned (.bool gd)∧w'=w):=fun w=>by
        have:=AA pt lv w d1 d2
        rw [hgd] at this
        exact this)
  rw [hg5,hgd];cases hq:(gl == g5)
  ·first
    | (replace mL:=mL;exact Ch.1 lv tg asd pt tm gl g5 w HKL HTM h1' h2' HB hq)
    | (replace mP:=mP;exact Ch.2 lv tg asd pt tm gl g5 w HKL HTM h1' h2' HB hq)
  ·have hq':gl=g5:=by simpa using hq
   subst hq';cases gd
   ·first
     | (replace mL:=mL;exact Ci.1 lv tg asd pt tm gl w HKL HTM h1' h2' HB HGD)
     | (replace mP:=mP;exact Ci.2 lv tg asd pt tm gl w HKL HTM h1' h2' HB HGD)
   ·first
     | (replace mL:=mL;exact zD.1 lv tg asd pt tm gl w HKL HTM h1' h2' HB HGD)
     | (replace mP:=mP;exact zD.2 lv tg asd pt tm gl w HKL HTM h1' h2' HB HGD)
end Go.Proofs.YtkenjknmfhoppaaGreat
