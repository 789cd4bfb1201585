import Derived.Test.YtgnnmgfgfihljaaGreatPk18
namespace Go.Proofs.YtgnnmgfgfihljaaGreat
open Go.RowKit
set_option linter.unusedVariables false
set_option maxHeartbeats 6400000
set_option maxRecDepth 20000
theorem jl (w:World) (x y:Obj):Below w.heap.size w ((w.alloc x).alloc y):=((Below.refl w.heap.size w).alloc nle x).alloc (by simp) y
theorem kM (w:World) (A:Array Value) (T:TypeId) (B:Array Value) (U:TypeId) (k:Nat):∃v2,((w.alloc (Obj.cells A T)).alloc (Obj.cells B U)).drewN k=v2∧Hid (v2.heap[w.heap.size]?=some (.cells A T (0,0)))∧Hid (v2.heap[w.heap.size+1]?=some (.cells B U (0,0)))∧Below w.heap.size w v2∧v2.heap.size=w.heap.size+2:=by
 refine ⟨_,rfl,?_,?_,below_drewN (jl _ _ _) k,?_⟩
 ·show ((w.alloc (Obj.cells A T)).alloc (Obj.cells B U)).heap[w.heap.size]?=_;rw [heap_alloc_old _ _ (by simp)];exact heap_alloc_new w _
 ·have:=heap_alloc_new (w.alloc (Obj.cells A T)) (Obj.cells B U);simp only [World.size_alloc] at this;exact this
 ·show ((w.alloc (Obj.cells A T)).alloc (Obj.cells B U)).heap.size=_;simp
theorem il (x:Int) (w:World):(method 428 166 (.int .u64 x) "loop.example/s0051/impl.goodAt").run Tryz.prog w=.ok (226,.int .u64 x) w:=by kernel_rfl
theorem io (x:Int) (w:World):(method 428 169 (.int .u64 x) "loop.example/s0051/impl.goodAt").run Tryz.prog w=.ok (227,.int .u64 x) w:=by kernel_rfl
def ve (z0:Nat):Prop:=∀(lv tg asd pt tm:Int) (gl:Bool) (w:World),Calls Tryz.prog z0 #[.agg #[.bool false,.int .i64 lv,.int .u64 tg,.int .u64 asd,.bool gl,.int .u64 pt]] w fun e w'=>e=.returned (.tuple #[db cO,.bool false])∧Below w.heap.size w w'
theorem xJ:ve 128∧ve 130:=by
 refine ⟨?_,?_⟩;have mL:Hid True:=trivial
 rotate_left
 have mP:Hid True:=trivial
 rotate_left
 all_goals
  intro lv tg asd pt tm gl w;first
   | (replace mL:=mL;go_enter Tryz.func128,Tryz.ntmps128)
   | (replace mP:=mP;go_enter Tryz.func130,Tryz.ntmps130)
  go_wp2_with fail;go_quiet (fail);go_wp2_with fail;first
   | (replace mL:=mL;exact bodyPost_ret (v:=.tuple #[db cO,.bool false]) (by simp [results,Tryz.results128,go_sem,db,cO]) rfl ⟨rfl,iw (below_drewN (jl _ _ _) nq) (by omega) _ _ _ _ _ _⟩)
   | (replace mP:=mP;exact bodyPost_ret (v:=.tuple #[db cO,.bool false]) (by simp [results,Tryz.results130,go_sem,db,cO]) rfl ⟨rfl,iw (below_drewN (jl _ _ _) nq) (by omega) _ _ _ _ _ _⟩)
def vf (z0:Nat):Prop:=∀(lv tg asd pt tm:Int) (gl:Bool) (w:World) (HKL:Hid (∀w,Calls Tryz.prog 164 #[.int .i64 lv] w fun e w'=>e=.returned (.bool false)∧w'=w)),Calls Tryz.prog z0 #[.agg #[.bool true,.int .i64 lv,.int .u64 tg,.int .u64 asd,.bool gl,.int .u64 pt]] w fun e w'=>e=.returned (.tuple #[db cO,.bool false])∧Below w.heap.size w w'
theorem xK:vf 128∧vf 130:=by
 refine ⟨?_,?_⟩;have mL:Hid True:=trivial
 rotate_left
 have mP:Hid True:=trivial
 rotate_left
 all_goals
  intro lv tg asd pt tm gl w HKL;first
   | (replace mL:=mL;go_enter Tryz.func128,Tryz.ntmps128)
   | (replace mP:=mP;go_enter Tryz.func130,Tryz.ntmps130)
  go_wp2_with fail;go_quiet ((go_at_call 164;exact Calls.quiet_of_same (HKL.out _)));go_wp2_with fail;first
   | (replace mL:=mL;exact bodyPost_ret (v:=.tuple #[db cO,.bool false]) (by simp [results,Tryz.results128,go_sem,db,cO]) rfl ⟨rfl,iw (below_drewN (jl _ _ _) nq) (by omega) _ _ _ _ _ _⟩)
   | (replace mP:=mP;exact bodyPost_ret (v:=.tuple #[db cO,.bool false]) (by simp [results,Tryz.results130,go_sem,db,cO]) rfl ⟨rfl,iw (below_drewN (jl _ _ _) nq) (by omega) _ _ _ _ _ _⟩)
def vg (z0:Nat):Prop:=∀(lv tg asd pt tm:Int) (gl:Bool) (w:World) (HKL:Hid (∀w,Calls Tryz.prog 164 #[.int .i64 lv] w fun e w'=>e=.returned (.bool true)∧w'=w)) (HTM:Hid (∀w,Calls Tryz.prog 165 #[.int .i64 lv] w fun e w'=>e=.returned (.int .u64 tm)∧w'=w)) (h:¬(tg<=tm)),Calls Tryz.prog z0 #[.agg #[.bool true,.int .i64 lv,.int .u64 tg,.int .u64 asd,.bool gl,.int .u64 pt]] w fun e w'=>e=.returned (.tuple #[db cO,.bool false])∧Below w.heap.size w w'
theorem xL:vg 128∧vg 130:=by
 refine ⟨?_,?_⟩;have mL:Hid True:=trivial
 rotate_left
 have mP:Hid True:=trivial
 rotate_left
 all_goals
  intro lv tg asd pt tm gl w HKL HTM h;first
   | (replace mL:=mL;go_enter Tryz.func128,Tryz.ntmps128)
   | (replace mP:=mP;go_enter Tryz.func130,Tryz.ntmps130)
  go_wp2_with fail;go_quiet (first
   | (go_at_call 164;exact Calls.quiet_of_same (HKL.out _))
   | (go_at_call 165;exact Calls.quiet_of_same (HTM.out _)))
  go_wp2_with fail;first
   | (replace mL:=mL;exact bodyPost_ret (v:=.tuple #[db cO,.bool false]) (by simp [results,Tryz.results128,go_sem,db,cO]) rfl ⟨rfl,iw (below_drewN (jl _ _ _) nq) (by omega) _ _ _ _ _ _⟩)
   | (replace mP:=mP;exact bodyPost_ret (v:=.tuple #[db cO,.bool false]) (by simp [results,Tryz.results130,go_sem,db,cO]) rfl ⟨rfl,iw (below_drewN (jl _ _ _) nq) (by omega) _ _ _ _ _ _⟩)
def vh (z0:Nat):Prop:=∀(lv tg asd pt tm:Int) (gl:Bool) (w:World) (HKL:Hid (∀w,Calls Tryz.prog 164 #[.int .i64 lv] w fun e w'=>e=.returned (.bool true)∧w'=w)) (HTM:Hid (∀w,Calls Tryz.prog 165 #[.int .i64 lv] w fun e w'=>e=.returned (.int .u64 tm)∧w'=w)) (h:tg<=tm) (h2:¬(asd<=65535)),Calls Tryz.prog z0 #[.agg #[.bool true,.int .i64 lv,.int .u64 tg,.int .u64 asd,.bool gl,.int .u64 pt]] w fun e w'=>e=.returned (.tuple #[db cO,.bool false])∧Below w.heap.size w w'
theorem xM:vh 128∧vh 130:=by
 refine ⟨?_,?_⟩;have mL:Hid True:=trivial
 rotate_left
 have mP:Hid True:=trivial
 rotate_left
 all_goals
  intro lv tg asd pt tm gl w HKL HTM h h2;first
   | (replace mL:=mL;go_enter Tryz.func128,Tryz.ntmps128)
   | (replace mP:=mP;go_enter Tryz.func130,Tryz.ntmps130)
  go_wp2_with fail;go_quiet (first
   | (go_at_call 164;exact Calls.quiet_of_same (HKL.out _))
   | (go_at_call 165;exact Calls.quiet_of_same (HTM.out _)))
  go_wp2_with fail;first
   | (replace mL:=mL;exact bodyPost_ret (v:=.tuple #[db cO,.bool false]) (by simp [results,Tryz.results128,go_sem,db,cO]) rfl ⟨rfl,iw (below_drewN (jl _ _ _) nq) (by omega) _ _ _ _ _ _⟩)
   | (replace mP:=mP;exact bodyPost_ret (v:=.tuple #[db cO,.bool false]) (by simp [results,Tryz.results130,go_sem,db,cO]) rfl ⟨rfl,iw (below_drewN (jl _ _ _) nq) (by omega) _ _ _ _ _ _⟩)
def vi (z0:Nat):Prop:=∀(lv tg asd pt tm:Int) (gl g5:Bool) (w:World) (HKL:Hid (∀w,Calls Tryz.prog 164 #[.int .i64 lv] w fun e w'=>e=.returned (.bool true)∧w'=w)) (HTM:Hid (∀w,Calls Tryz.prog 165 #[.int .i64 lv] w fun e w'=>e=.returned (.int .u64 tm)∧w'=w)) (h:tg<=tm) (h2:asd<=65535) (HB:Hid (∀w,Calls Tryz.prog 166 #[.int .u64 pt,.int .u64 32] w fun e w'=>e=.returned (.bool g5)∧w'=w)) (hne:(gl == g5)=false),Calls Tryz.prog z0 #[.agg #[.bool true,.int .i64 lv,.int .u64 tg,.int .u64 asd,.bool gl,.int .u64 pt]] w fun e w'=>e=.returned (.tuple #[db cO,.bool false])∧Below w.heap.size w w'
theorem xN:vi 128∧vi 130:=by
 refine ⟨?_,?_⟩;have mL:Hid True:=trivial
 rotate_left
 have mP:Hid True:=trivial
 rotate_left
 all_goals
  intro lv tg asd pt tm gl g5 w HKL HTM h h2 HB hne;have hne2:(gl != g5)=true:=by simp [bne,hne]
  first
   | (replace mL:=mL;have hm:=il pt)
   | (replace mP:=mP;have hm:=io pt)
  first
   | (replace mL:=mL;go_enter Tryz.func128,Tryz.ntmps128)
   | (replace mP:=mP;go_enter Tryz.func130,Tryz.ntmps130)
  go_wp2_with fail;go_quiet (first
   | (go_at_call 164;exact Calls.quiet_of_same (HKL.out _))
   | (go_at_call 165;exact Calls.quiet_of_same (HTM.out _)))
  first
   | (replace mL:=mL;obtain ⟨v2,e2,P1,P2,B1,S1⟩:=kM w #[.bool true,.int .i64 lv,.int .u64 tg,.int .u64 asd,.bool gl,.int .u64 pt] 153 #[.int .i64 0,.int .u64 0,.int .u64 0,.bool false,.bool false,.int .u64 0] 224 nq)
   | (replace mP:=mP;obtain ⟨v2,e2,P1,P2,B1,S1⟩:=kM w #[.bool true,.int .i64 lv,.int .u64 tg,.int .u64 asd,.bool gl,.int .u64 pt] 153 #[.int .i64 0,.int .u64 0,.int .u64 0,.bool false,.bool false,.int .u64 0] 229 nq)
  rw [e2];clear e2;obtain ⟨⟨x0,x1,x2,x3,x4,x5⟩,_⟩:=gI P1.out;obtain ⟨⟨y0,y1,y2,y3,y4,y5⟩,z0,z1,z2,z3,z4,z5⟩:=gI P2.out;have ne1:v2.heap.size≠w.heap.size:=by omega
  have ne2:v2.heap.size≠w.heap.size+1:=by omega
  have ne3:w.heap.size<v2.heap.size:=by omega
  have ne4:w.heap.size+1<v2.heap.size:=by omega
  clear HKL HTM;go_wp2_with fail;go_quiet ((go_at_call 166;exact Calls.quiet_of_same (HB.out _)));go_wp2_with fail;first
   | (replace mL:=mL;exact bodyPost_ret (v:=.tuple #[db cO,.bool false]) (by simp [results,Tryz.results128,go_sem,db,cO,y0,y1,y2,y3,y4,y5]) rfl ⟨rfl,iw (below_drewN B1 _) (by omega) _ _ _ _ _ _⟩)
   | (replace mP:=mP;exact bodyPost_ret (v:=.tuple #[db cO,.bool false]) (by simp [results,Tryz.results130,go_sem,db,cO,y0,y1,y2,y3,y4,y5]) rfl ⟨rfl,iw (below_drewN B1 _) (by omega) _ _ _ _ _ _⟩)
def vj (z0:Nat) (z1:Nat):Prop:=∀(lv tg asd pt tm:Int) (gl:Bool) (w:World) (HKL:Hid (∀w,Calls Tryz.prog 164 #[.int .i64 lv] w fun e w'=>e=.returned (.bool true)∧w'=w)) (HTM:Hid (∀w,Calls Tryz.prog 165 #[.int .i64 lv] w fun e w'=>e=.returned (.int .u64 tm)∧w'=w)) (h:tg<=tm) (h2:asd<=65535) (HB:Hid (∀w,Calls Tryz.prog 166 #[.int .u64 pt,.int .u64 32] w fun e w'=>e=.returned (.bool gl)∧w'=w)) (HGD:Hid (∀w,Calls Tryz.prog z0 #[.int .u64 pt,.int .i64 lv] w fun e w'=>e=.returned (.bool false)∧w'=w)),Calls Tryz.prog z1 #[.agg #[.bool true,.int .i64 lv,.int .u64 tg,.int .u64 asd,.bool gl,.int .u64 pt]] w fun e w'=>e=.returned (.tuple #[db cO,.bool false])∧Below w.heap.size w w'
theorem xO:vj 226 128∧vj 227 130:=by
 refine ⟨?_,?_⟩;have mL:Hid True:=trivial
 rotate_left
 have mP:Hid True:=trivial
 rotate_left
 all_goals
  intro lv tg asd pt tm gl w HKL HTM h h2 HB HGD;have hne2:(gl != gl)=false:=by simp
  first
   | (replace mL:=mL;have hm:=il pt)
   | (replace mP:=mP;have hm:=io pt)
  first
   | (replace mL:=mL;go_enter Tryz.func128,Tryz.ntmps128)
   | (replace mP:=mP;go_enter Tryz.func130,Tryz.ntmps130)
  go_wp2_with fail;go_quiet (first
   | (go_at_call 164;exact Calls.quiet_of_same (HKL.out _))
   | (go_at_call 165;exact Calls.quiet_of_same (HTM.out _)))
  first
   | (replace mL:=mL;obtain ⟨v2,e2,P1,P2,B1,S1⟩:=kM w #[.bool true,.int .i64 lv,.int .u64 tg,.int .u64 asd,.bool gl,.int .u64 pt] 153 #[.int .i64 0,.int .u64 0,.int .u64 0,.bool false,.bool false,.int .u64 0] 224 nq)
   | (replace mP:=mP;obtain ⟨v2,e2,P1,P2,B1,S1⟩:=kM w #[.bool true,.int .i64 lv,.int .u64 tg,.int .u64 asd,.bool gl,.int .u64 pt] 153 #[.int .i64 0,.int .u64 0,.int .u64 0,.bool false,.bool false,.int .u64 0] 229 nq)
  rw [e2];clear e2;obtain ⟨⟨x0,x1,x2,x3,x4,x5⟩,_⟩:=gI P1.out;obtain ⟨⟨y0,y1,y2,y3,y4,y5⟩,z0,z1,z2,z3,z4,z5⟩:=gI P2.out;have ne1:v2.heap.size≠w.heap.size:=by omega
  have ne2:v2.heap.size≠w.heap.size+1:=by omega
  have ne3:w.heap.size<v2.heap.size:=by omega
  have ne4:w.heap.size+1<v2.heap.size:=by omega
  clear HKL HTM;go_wp2_with fail;first
   | (replace mL:=mL;go_quiet (first
          | (go_at_call 166;exact Calls.quiet_of_same (HB.out _))
          | (go_at_call 226;exact Calls.quiet_of_same (HGD.out _))))
   | (replace mP:=mP;go_quiet (first
          | (go_at_call 166;exact Calls.quiet_of_same (HB.out _))
          | (go_at_call 227;exact Calls.quiet_of_same (HGD.out _))))
  go_wp2_with fail;first
   | (replace mL:=mL;exact bodyPost_ret (v:=.tuple #[db cO,.bool false]) (by simp [results,Tryz.results128,go_sem,db,cO,y0,y1,y2,y3,y4,y5]) rfl ⟨rfl,iw (below_drewN B1 _) (by omega) _ _ _ _ _ _⟩)
   | (replace mP:=mP;exact bodyPost_ret (v:=.tuple #[db cO,.bool false]) (by simp [results,Tryz.results130,go_sem,db,cO,y0,y1,y2,y3,y4,y5]) rfl ⟨rfl,iw (below_drewN B1 _) (by omega) _ _ _ _ _ _⟩)
def sA (z0:Nat) (z1:Nat):Prop:=∀(lv tg asd pt tm:Int) (gl:Bool) (w:World) (HKL:Hid (∀w,Calls Tryz.prog 164 #[.int .i64 lv] w fun e w'=>e=.returned (.bool true)∧w'=w)) (HTM:Hid (∀w,Calls Tryz.prog 165 #[.int .i64 lv] w fun e w'=>e=.returned (.int .u64 tm)∧w'=w)) (h:tg<=tm) (h2:asd<=65535) (HB:Hid (∀w,Calls Tryz.prog 166 #[.int .u64 pt,.int .u64 32] w fun e w'=>e=.returned (.bool gl)∧w'=w)) (HGD:Hid (∀w,Calls Tryz.prog z0 #[.int .u64 pt,.int .i64 lv] w fun e w'=>e=.returned (.bool true)∧w'=w)),Calls Tryz.prog z1 #[.agg #[.bool true,.int .i64 lv,.int .u64 tg,.int .u64 asd,.bool gl,.int .u64 pt]] w fun e w'=>e=.returned (.tuple #[db ⟨true,lv,tg,asd,gl,pt⟩,.bool true])∧Below w.heap.size w w'
theorem vk:sA 226 128∧sA 227 130:=by
 refine ⟨?_,?_⟩;have mL:Hid True:=trivial
 rotate_left
 have mP:Hid True:=trivial
 rotate_left
 all_goals
  intro lv tg asd pt tm gl w HKL HTM h h2 HB HGD;have hne2:(gl != gl)=false:=by simp
  first
   | (replace mL:=mL;have hm:=il pt)
   | (replace mP:=mP;have hm:=io pt)
  first
   | (replace mL:=mL;go_enter Tryz.func128,Tryz.ntmps128)
   | (replace mP:=mP;go_enter Tryz.func130,Tryz.ntmps130)
  go_wp2_with fail;go_quiet (first
   | (go_at_call 164;exact Calls.quiet_of_same (HKL.out _))
   | (go_at_call 165;exact Calls.quiet_of_same (HTM.out _)))
  first
   | (replace mL:=mL;obtain ⟨v2,e2,P1,P2,B1,S1⟩:=kM w #[.bool true,.int .i64 lv,.int .u64 tg,.int .u64 asd,.bool gl,.int .u64 pt] 153 #[.int .i64 0,.int .u64 0,.int .u64 0,.bool false,.bool false,.int .u64 0] 224 nq)
   | (replace mP:=mP;obtain ⟨v2,e2,P1,P2,B1,S1⟩:=kM w #[.bool true,.int .i64 lv,.int .u64 tg,.int .u64 asd,.bool gl,.int .u64 pt] 153 #[.int .i64 0,.int .u64 0,.int .u64 0,.bool false,.bool false,.int .u64 0] 229 nq)
  rw [e2];clear e2;obtain ⟨⟨x0,x1,x2,x3,x4,x5⟩,_⟩:=gI P1.out;obtain ⟨⟨y0,y1,y2,y3,y4,y5⟩,z0,z1,z2,z3,z4,z5⟩:=gI P2.out;have ne1:v2.heap.size≠w.heap.size:=by omega
  have ne2:v2.heap.size≠w.heap.size+1:=by omega
  have ne3:w.heap.size<v2.heap.size:=by omega
  have ne4:w.heap.size+1<v2.heap.size:=by omega
  clear HKL HTM;go_wp2_with fail;first
   | (replace mL:=mL;go_quiet (first
          | (go_at_call 166;exact Calls.quiet_of_same (HB.out _))
          | (go_at_call 226;exact Calls.quiet_of_same (HGD.out _))))
   | (replace mP:=mP;go_quiet (first
          | (go_at_call 166;exact Calls.quiet_of_same (HB.out _))
          | (go_at_call 227;exact Calls.quiet_of_same (HGD.out _))))
  go_wp2_with fail;first
   | (replace mL:=mL;exact bodyPost_ret (v:=.tuple #[db ⟨true,lv,tg,asd,gl,pt⟩,.bool true]) (by simp [results,Tryz.results128,go_sem,db,y0,y1,y2,y3,y4,y5,ne4]) rfl ⟨rfl,(iw (below_drewN B1 nq) (by omega) _ _ _ _ _ _).alloc (by simp;omega) _⟩)
   | (replace mP:=mP;exact bodyPost_ret (v:=.tuple #[db ⟨true,lv,tg,asd,gl,pt⟩,.bool true]) (by simp [results,Tryz.results130,go_sem,db,y0,y1,y2,y3,y4,y5,ne4]) rfl ⟨rfl,(iw (below_drewN B1 nq) (by omega) _ _ _ _ _ _).alloc (by simp;omega) _⟩)
def mH (z0:Nat) (z1:Bool):Prop:=∀(x:EntM) (w:World) (hx:dS x),Calls Tryz.prog z0 #[kW x] w fun e w'=>e=.returned (.tuple #[db (if aW x z1=true then x else cO),.bool (aW x z1)])∧Below w.heap.size w w'
theorem oK:mH 128 false∧mH 130 true:=by
 refine ⟨?_,?_⟩;have mL:Hid True:=trivial
 rotate_left
 have mP:Hid True:=trivial
 rotate_left
 all_goals
  intro x w hx;obtain ⟨v,lv,tg,asd,gl,pt⟩:=x;obtain ⟨⟨a1,a2⟩,⟨b1,b2⟩,⟨c1,c2⟩,d1,d2⟩:=hx;simp only at a1 a2 b1 b2 c1 c2 d1 d2;unfold kW;simp only;cases v
  ·first
    | (replace mL:=mL;rw [show aW ⟨false,lv,tg,asd,gl,pt⟩ false=false by simp [aW]])
    | (replace mP:=mP;rw [show aW ⟨false,lv,tg,asd,gl,pt⟩ true=false by simp [aW]])
   first
    | (replace mL:=mL;exact xJ.1 lv tg asd pt 0 gl w)
    | (replace mP:=mP;exact xJ.2 lv tg asd pt 0 gl w)
  by_cases h0:¬(0<=lv∧lv<=2)
  ·first
    | (replace mL:=mL;rw [show aW ⟨true,lv,tg,asd,gl,pt⟩ false=false by simp [aW];omega])
    | (replace mP:=mP;rw [show aW ⟨true,lv,tg,asd,gl,pt⟩ true=false by simp [aW];omega])
   first
    | (replace mL:=mL;exact xK.1 lv tg asd pt 0 gl w (fun w=>by
         have:=dl lv w
         rw [show decide (0<=lv∧lv<=2)=false by simpa using h0] at this
         exact this))
    | (replace mP:=mP;exact xK.2 lv tg asd pt 0 gl w (fun w=>by
         have:=dl lv w
         rw [show decide (0<=lv∧lv<=2)=false by simpa using h0] at this
         exact this))
  have h0':0<=lv∧lv<=2:=Decidable.not_not.1 h0;have HKL:Hid (∀w,Calls Tryz.prog 164 #[.int .i64 lv] w fun e w'=>e=.returned (.bool true)∧w'=w):=fun w=>by
   have:=dl lv w;rw [show decide (0<=lv∧lv<=2)=true by simpa using h0'] at this;exact this
  obtain ⟨tm,htm⟩:∃tm,jR lv-1=tm:=⟨_,rfl⟩;have HTM:Hid (∀w,Calls Tryz.prog 165 #[.int .i64 lv] w fun e w'=>e=.returned (.int .u64 tm)∧w'=w):=fun w=>by
   have:=jd lv w (by omega);rw [htm] at this;exact this
  by_cases h1:¬(tg<=tm)
  ·first
    | (replace mL:=mL;rw [show aW ⟨true,lv,tg,asd,gl,pt⟩ false=false by simp [aW];omega])
    | (replace mP:=mP;rw [show aW ⟨true,lv,tg,asd,gl,pt⟩ true=false by simp [aW];omega])
   first
    | (replace mL:=mL;exact xL.1 lv tg asd pt tm gl w HKL HTM h1)
    | (replace mP:=mP;exact xL.2 lv tg asd pt tm gl w HKL HTM h1)
  have h1':tg<=tm:=Decidable.not_not.1 h1;by_cases h2:¬(asd<=65535)
  ·first
    | (replace mL:=mL;rw [show aW ⟨true,lv,tg,asd,gl,pt⟩ false=false by simp [aW];omega])
    | (replace mP:=mP;rw [show aW ⟨true,lv,tg,asd,gl,pt⟩ true=false by simp [aW];omega])
   first
    | (replace mL:=mL;exact xM.1 lv tg asd pt tm gl w HKL HTM h1' h2)
    | (replace mP:=mP;exact xM.2 lv tg asd pt tm gl w HKL HTM h1' h2)
  have h2':asd<=65535:=Decidable.not_not.1 h2;first
   | (replace mL:=mL;have hgood:aW ⟨true,lv,tg,asd,gl,pt⟩ false=((gl == bj pt 32) && (bu pt lv == 2)):=by
        simp only [aW,gD]
        simp [h0'.1,h0'.2,h2',show tg<jR lv by omega])
   | (replace mP:=mP;have hgood:aW ⟨true,lv,tg,asd,gl,pt⟩ true=((gl == bj pt 32) && (bu pt lv == 1)):=by
        simp only [aW,gD]
        simp [h0'.1,h0'.2,h2',show tg<jR lv by omega])
  rw [hgood];obtain ⟨g5,hg5⟩:∃g5,bj pt 32=g5:=⟨_,rfl⟩;first
   | (replace mL:=mL;obtain ⟨gd,hgd⟩:∃gd,(bu pt lv == 2)=gd:=⟨_,rfl⟩)
   | (replace mP:=mP;obtain ⟨gd,hgd⟩:∃gd,(bu pt lv == 1)=gd:=⟨_,rfl⟩)
  have HB:Hid (∀w,Calls Tryz.prog 166 #[.int .u64 pt,.int .u64 32] w fun e w'=>e=.returned (.bool g5)∧w'=w):=fun w=>by
   have:=dp pt 32 w;rw [dz 5 pt 32 rfl (by omega) d1 d2,hg5] at this;exact this
  first
   | (replace mL:=mL;have HGD:Hid (∀w,Calls Tryz.prog 226 #[.int .u64 pt,.int .i64 lv] w fun e w'=>e=.returned (.bool gd)∧w'=w):=fun w=>by
        have:=wF pt lv w d1 d2
        rw [hgd] at this
        exact this)
   | (replace mP:=mP;have HGD:Hid (∀w,Calls Tryz.prog 227 #[.int .u64 pt,.int .i64 lv] w fun e w'=>e=.returned (.bool gd)∧w'=w):=fun w=>by
        have:=wG pt lv w d1 d2
        rw [hgd] at this
        exact this)
  rw [hg5,hgd];cases hq:(gl == g5)
  ·first
    | (replace mL:=mL;exact xN.1 lv tg asd pt tm gl g5 w HKL HTM h1' h2' HB hq)
    | (replace mP:=mP;exact xN.2 lv tg asd pt tm gl g5 w HKL HTM h1' h2' HB hq)
  ·have hq':gl=g5:=by simpa using hq
   subst hq';cases gd
   ·first
     | (replace mL:=mL;exact xO.1 lv tg asd pt tm gl w HKL HTM h1' h2' HB HGD)
     | (replace mP:=mP;exact xO.2 lv tg asd pt tm gl w HKL HTM h1' h2' HB HGD)
   ·first
     | (replace mL:=mL;exact vk.1 lv tg asd pt tm gl w HKL HTM h1' h2' HB HGD)
     | (replace mP:=mP;exact vk.2 lv tg asd pt tm gl w HKL HTM h1' h2' HB HGD)
theorem nv (b o:Nat) (sets tag:Int) (w:World) (hs:sets=1∨sets=2∨sets=4∨sets=8) (c0:w.cell? ⟨b,o,none⟩=some (.int .i64 sets)) (ht:0<=tag) (ht1:tag<=18446744073709551615):
 Calls Tryz.prog 129 #[.pointer (some ⟨b,o,none⟩),.int .u64 tag] w fun e w'=>e=.returned (.int .i64 (tag%sets))∧w'=w:=by
 rcases hs with rfl | rfl | rfl | rfl;all_goals
  go_enter Tryz.func129,Tryz.ntmps129;go_wp2_with fail;go_ret;exact ⟨cw (by omega),rfl⟩
theorem nw (b o:Nat) (sets tag:Int) (w:World) (hs:sets=1∨sets=2∨sets=4∨sets=8) (c0:w.cell? ⟨b,o,none⟩=some (.int .i64 sets)) (ht:0<=tag) (ht1:tag<=18446744073709551615):
 Calls Tryz.prog 131 #[.pointer (some ⟨b,o,none⟩),.int .u64 tag] w fun e w'=>e=.returned (.int .i64 (tag%sets))∧w'=w:=by
 rcases hs with rfl | rfl | rfl | rfl;all_goals
  go_enter Tryz.func131,Tryz.ntmps131;go_wp2_with fail;go_ret;exact ⟨cw (by omega),rfl⟩
theorem qV (sets ways:Int) (a:Option Addr) (n cap:Nat) (w:World) (hn:n<=1048576) (hs: -9223372036854775808<=sets∧sets<=9223372036854775807) (hw: -9223372036854775808<=ways∧ways<=9223372036854775807):
 Calls Tryz.prog 127 #[.agg #[.int .i64 sets,.int .i64 ways,.slice a n cap]] w fun e w'=>e=.returned (.bool (decide ((sets=1∨sets=2∨sets=4∨sets=8)∧1<=ways∧ways<=4∧(n:Int)=sets*ways)))∧Below w.heap.size w w':=by
 have n1:=(Below.refl w.heap.size w).alloc nle (Obj.cells #[.int .i64 sets,.int .i64 ways,.slice a n cap] 35);by_cases h1:sets=1∨sets=2∨sets=4∨sets=8
 ·by_cases h2:¬(1<=ways)
  ·rcases h1 with rfl | rfl | rfl | rfl;all_goals
    go_enter Tryz.func127,Tryz.ntmps127;go_wp2_with fail;go_ret;exact ⟨aB (by simp;omega),n1⟩
  ·have h2':=Decidable.not_not.1 h2;clear h2;by_cases h3:¬(ways<=4)
   ·rcases h1 with rfl | rfl | rfl | rfl;all_goals
     go_enter Tryz.func127,Tryz.ntmps127;go_wp2_with fail;go_ret;exact ⟨aB (by simp;omega),n1⟩
   ·have h3':=Decidable.not_not.1 h3;clear h3;rcases h1 with rfl | rfl | rfl | rfl;all_goals
     go_enter Tryz.func127,Tryz.ntmps127;go_wp2_with fail;go_ret;exact ⟨aB (by simp [h2',h3'];rfl),n1⟩
 ·have h1':=h1;simp only [not_or] at h1';obtain ⟨s1,s2,s4,s8⟩:=h1';go_enter Tryz.func127,Tryz.ntmps127;go_wp2_with fail;go_ret;exact ⟨aB (by simp [h1]),n1⟩
def qL (e:EntM):Bool:=e.valid == false && e.level == 0 && e.tag == 0 && e.asid == 0 && e.glob == false && e.pte == 0
theorem BA (v:Bool) (lv tg asd:Int) (gl:Bool) (pt:Int) (w:World):
 (binOp .eql 153 (.agg #[.bool v,.int .i64 lv,.int .u64 tg,.int .u64 asd,.bool gl,.int .u64 pt]) (.agg #[.bool false,.int .i64 0,.int .u64 0,.int .u64 0,.bool false,.int .u64 0])).run Tryz.prog w=.ok (.bool (qL ⟨v,lv,tg,asd,gl,pt⟩)) w:=by
 unfold qL;cases v
 case true=>(go_simp;try simp)
 by_cases h1:lv=0
 case neg=>(have q1:(lv == 0)=false:=by simpa using h1);(go_simp;try simp [q1])
 subst h1;by_cases h2:tg=0
 case neg=>(have q1:(tg == 0)=false:=by simpa using h2);(go_simp;try simp [q1])
 subst h2;by_cases h3:asd=0
 case neg=>(have q1:(asd == 0)=false:=by simpa using h3);(go_simp;try simp [q1])
 subst h3;cases gl
 case true=>(go_simp;try simp)
 by_cases h4:pt=0
 case neg=>(have q1:(pt == 0)=false:=by simpa using h4);(go_simp;try simp [q1])
 subst h4;go_simp;try simp
end Go.Proofs.YtgnnmgfgfihljaaGreat
