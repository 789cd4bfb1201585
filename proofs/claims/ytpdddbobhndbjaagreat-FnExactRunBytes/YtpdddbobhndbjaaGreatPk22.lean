import Derived.Test.YtpdddbobhndbjaaGreatPk21
namespace Go.Proofs.YtpdddbobhndbjaaGreat
open Go.RowKit
set_option linter.unusedVariables false
set_option maxHeartbeats 6400000
set_option maxRecDepth 20000
theorem kg (w:World) (x y:Obj):Bw w ((w.alloc x).alloc y):=((Below.refl w.heap.size w).alloc nle x).alloc (by simp) y
theorem lY (w:World) (A:Array Value) (T:TypeId) (B:Array Value) (U:TypeId) (k:Nat):∃v2,((w.alloc (Obj.cells A T)).alloc (Obj.cells B U)).drewN k=v2∧Hid (v2.heap[w.heap.size]?=some (.cells A T (0,0)))∧Hid (v2.heap[w.heap.size+1]?=some (.cells B U (0,0)))∧Bw w v2∧v2.heap.size=w.heap.size+2:=by
 refine ⟨_,rfl,?_,?_,below_drewN (kg _ _ _) k,?_⟩
 ·show ((w.alloc (Obj.cells A T)).alloc (Obj.cells B U)).heap[w.heap.size]?=_;rw [heap_alloc_old _ _ (by simp)];exact heap_alloc_new w _
 ·have:=heap_alloc_new (w.alloc (Obj.cells A T)) (Obj.cells B U);simp only [World.size_alloc] at this;exact this
 ·show ((w.alloc (Obj.cells A T)).alloc (Obj.cells B U)).heap.size=_;simp
theorem iZ (x:Int) (w:World):(method 395 141 (.int .u64 x) "loop.example/s0051/impl.goodAt").run Tryz.prog w=.ok (192,.int .u64 x) w:=by kernel_rfl
theorem ja (x:Int) (w:World):(method 395 144 (.int .u64 x) "loop.example/s0051/impl.goodAt").run Tryz.prog w=.ok (193,.int .u64 x) w:=by kernel_rfl
def wC (z0:Nat):Prop:=∀(lv tg asd pt tm:Int) (gl:Bool) (w:World),Calls Tryz.prog z0 #[.agg #[.bool false,.int .i64 lv,.int .u64 tg,.int .u64 asd,.bool gl,.int .u64 pt]] w fun e w'=>e=.returned (.tuple #[dp cK,.bool false])∧Bw w w'
theorem yF:wC 95∧wC 97:=by
 refine ⟨?_,?_⟩;have mL:Hid True:=trivial
 rotate_left
 have mP:Hid True:=trivial
 rotate_left
 all_goals
  intro lv tg asd pt tm gl w;first
   | (replace mL:=mL;go_enter Tryz.func95,Tryz.ntmps95)
   | (replace mP:=mP;go_enter Tryz.func97,Tryz.ntmps97)
  go_wp2_with fail;go_quiet (fail);go_wp2_with fail;first
   | (replace mL:=mL;exact bodyPost_ret (v:=.tuple #[dp cK,.bool false]) (by simp [results,Tryz.results95,go_sem,dp,cK]) rfl ⟨rfl,ji (below_drewN (kg _ _ _) nq) (by omega) _ _ _ _ _ _⟩)
   | (replace mP:=mP;exact bodyPost_ret (v:=.tuple #[dp cK,.bool false]) (by simp [results,Tryz.results97,go_sem,dp,cK]) rfl ⟨rfl,ji (below_drewN (kg _ _ _) nq) (by omega) _ _ _ _ _ _⟩)
def wD (z0:Nat):Prop:=∀(lv tg asd pt tm:Int) (gl:Bool) (w:World) (HKL:Hid (∀w,Calls Tryz.prog 128 #[.int .i64 lv] w fun e w'=>e=.returned (.bool false)∧w'=w)),Calls Tryz.prog z0 #[.agg #[.bool true,.int .i64 lv,.int .u64 tg,.int .u64 asd,.bool gl,.int .u64 pt]] w fun e w'=>e=.returned (.tuple #[dp cK,.bool false])∧Bw w w'
theorem yG:wD 95∧wD 97:=by
 refine ⟨?_,?_⟩;have mL:Hid True:=trivial
 rotate_left
 have mP:Hid True:=trivial
 rotate_left
 all_goals
  intro lv tg asd pt tm gl w HKL;first
   | (replace mL:=mL;go_enter Tryz.func95,Tryz.ntmps95)
   | (replace mP:=mP;go_enter Tryz.func97,Tryz.ntmps97)
  go_wp2_with fail;go_quiet ((go_at_call 128;exact Calls.quiet_of_same (HKL.out _)));go_wp2_with fail;first
   | (replace mL:=mL;exact bodyPost_ret (v:=.tuple #[dp cK,.bool false]) (by simp [results,Tryz.results95,go_sem,dp,cK]) rfl ⟨rfl,ji (below_drewN (kg _ _ _) nq) (by omega) _ _ _ _ _ _⟩)
   | (replace mP:=mP;exact bodyPost_ret (v:=.tuple #[dp cK,.bool false]) (by simp [results,Tryz.results97,go_sem,dp,cK]) rfl ⟨rfl,ji (below_drewN (kg _ _ _) nq) (by omega) _ _ _ _ _ _⟩)
def wE (z0:Nat):Prop:=∀(lv tg asd pt tm:Int) (gl:Bool) (w:World) (HKL:Hid (∀w,Calls Tryz.prog 128 #[.int .i64 lv] w fun e w'=>e=.returned (.bool true)∧w'=w)) (HTM:Hid (∀w,Calls Tryz.prog 129 #[.int .i64 lv] w fun e w'=>e=.returned (.int .u64 tm)∧w'=w)) (h:¬(tg<=tm)),Calls Tryz.prog z0 #[.agg #[.bool true,.int .i64 lv,.int .u64 tg,.int .u64 asd,.bool gl,.int .u64 pt]] w fun e w'=>e=.returned (.tuple #[dp cK,.bool false])∧Bw w w'
theorem yH:wE 95∧wE 97:=by
 refine ⟨?_,?_⟩;have mL:Hid True:=trivial
 rotate_left
 have mP:Hid True:=trivial
 rotate_left
 all_goals
  intro lv tg asd pt tm gl w HKL HTM h;first
   | (replace mL:=mL;go_enter Tryz.func95,Tryz.ntmps95)
   | (replace mP:=mP;go_enter Tryz.func97,Tryz.ntmps97)
  go_wp2_with fail;go_quiet (first
   | (go_at_call 128;exact Calls.quiet_of_same (HKL.out _))
   | (go_at_call 129;exact Calls.quiet_of_same (HTM.out _)))
  go_wp2_with fail;first
   | (replace mL:=mL;exact bodyPost_ret (v:=.tuple #[dp cK,.bool false]) (by simp [results,Tryz.results95,go_sem,dp,cK]) rfl ⟨rfl,ji (below_drewN (kg _ _ _) nq) (by omega) _ _ _ _ _ _⟩)
   | (replace mP:=mP;exact bodyPost_ret (v:=.tuple #[dp cK,.bool false]) (by simp [results,Tryz.results97,go_sem,dp,cK]) rfl ⟨rfl,ji (below_drewN (kg _ _ _) nq) (by omega) _ _ _ _ _ _⟩)
def wF (z0:Nat):Prop:=∀(lv tg asd pt tm:Int) (gl:Bool) (w:World) (HKL:Hid (∀w,Calls Tryz.prog 128 #[.int .i64 lv] w fun e w'=>e=.returned (.bool true)∧w'=w)) (HTM:Hid (∀w,Calls Tryz.prog 129 #[.int .i64 lv] w fun e w'=>e=.returned (.int .u64 tm)∧w'=w)) (h:tg<=tm) (h2:¬(asd<=65535)),Calls Tryz.prog z0 #[.agg #[.bool true,.int .i64 lv,.int .u64 tg,.int .u64 asd,.bool gl,.int .u64 pt]] w fun e w'=>e=.returned (.tuple #[dp cK,.bool false])∧Bw w w'
theorem yI:wF 95∧wF 97:=by
 refine ⟨?_,?_⟩;have mL:Hid True:=trivial
 rotate_left
 have mP:Hid True:=trivial
 rotate_left
 all_goals
  intro lv tg asd pt tm gl w HKL HTM h h2;first
   | (replace mL:=mL;go_enter Tryz.func95,Tryz.ntmps95)
   | (replace mP:=mP;go_enter Tryz.func97,Tryz.ntmps97)
  go_wp2_with fail;go_quiet (first
   | (go_at_call 128;exact Calls.quiet_of_same (HKL.out _))
   | (go_at_call 129;exact Calls.quiet_of_same (HTM.out _)))
  go_wp2_with fail;first
   | (replace mL:=mL;exact bodyPost_ret (v:=.tuple #[dp cK,.bool false]) (by simp [results,Tryz.results95,go_sem,dp,cK]) rfl ⟨rfl,ji (below_drewN (kg _ _ _) nq) (by omega) _ _ _ _ _ _⟩)
   | (replace mP:=mP;exact bodyPost_ret (v:=.tuple #[dp cK,.bool false]) (by simp [results,Tryz.results97,go_sem,dp,cK]) rfl ⟨rfl,ji (below_drewN (kg _ _ _) nq) (by omega) _ _ _ _ _ _⟩)
def wG (z0:Nat):Prop:=∀(lv tg asd pt tm:Int) (gl g5:Bool) (w:World) (HKL:Hid (∀w,Calls Tryz.prog 128 #[.int .i64 lv] w fun e w'=>e=.returned (.bool true)∧w'=w)) (HTM:Hid (∀w,Calls Tryz.prog 129 #[.int .i64 lv] w fun e w'=>e=.returned (.int .u64 tm)∧w'=w)) (h:tg<=tm) (h2:asd<=65535) (HB:Hid (∀w,Calls Tryz.prog 130 #[.int .u64 pt,.int .u64 32] w fun e w'=>e=.returned (.bool g5)∧w'=w)) (hne:(gl == g5)=false),Calls Tryz.prog z0 #[.agg #[.bool true,.int .i64 lv,.int .u64 tg,.int .u64 asd,.bool gl,.int .u64 pt]] w fun e w'=>e=.returned (.tuple #[dp cK,.bool false])∧Bw w w'
theorem yJ:wG 95∧wG 97:=by
 refine ⟨?_,?_⟩;have mL:Hid True:=trivial
 rotate_left
 have mP:Hid True:=trivial
 rotate_left
 all_goals
  intro lv tg asd pt tm gl g5 w HKL HTM h h2 HB hne;have hne2:(gl != g5)=true:=by simp [bne,hne]
  first
   | (replace mL:=mL;have hm:=iZ pt)
   | (replace mP:=mP;have hm:=ja pt)
  first
   | (replace mL:=mL;go_enter Tryz.func95,Tryz.ntmps95)
   | (replace mP:=mP;go_enter Tryz.func97,Tryz.ntmps97)
  go_wp2_with fail;go_quiet (first
   | (go_at_call 128;exact Calls.quiet_of_same (HKL.out _))
   | (go_at_call 129;exact Calls.quiet_of_same (HTM.out _)))
  first
   | (replace mL:=mL;obtain ⟨v2,e2,P1,P2,B1,S1⟩:=lY w #[.bool true,.int .i64 lv,.int .u64 tg,.int .u64 asd,.bool gl,.int .u64 pt] 121 #[.int .i64 0,.int .u64 0,.int .u64 0,.bool false,.bool false,.int .u64 0] 190 nq)
   | (replace mP:=mP;obtain ⟨v2,e2,P1,P2,B1,S1⟩:=lY w #[.bool true,.int .i64 lv,.int .u64 tg,.int .u64 asd,.bool gl,.int .u64 pt] 121 #[.int .i64 0,.int .u64 0,.int .u64 0,.bool false,.bool false,.int .u64 0] 195 nq)
  rw [e2];clear e2;obtain ⟨⟨x0,x1,x2,x3,x4,x5⟩,_⟩:=iB P1.out;obtain ⟨⟨y0,y1,y2,y3,y4,y5⟩,z0,z1,z2,z3,z4,z5⟩:=iB P2.out;have ne1:v2.heap.size≠w.heap.size:=by omega
  have ne2:v2.heap.size≠w.heap.size+1:=by omega
  have ne3:w.heap.size<v2.heap.size:=by omega
  have ne4:w.heap.size+1<v2.heap.size:=by omega
  clear HKL HTM;go_wp2_with fail;go_quiet ((go_at_call 130;exact Calls.quiet_of_same (HB.out _)));go_wp2_with fail;first
   | (replace mL:=mL;exact bodyPost_ret (v:=.tuple #[dp cK,.bool false]) (by simp [results,Tryz.results95,go_sem,dp,cK,y0,y1,y2,y3,y4,y5]) rfl ⟨rfl,ji (below_drewN B1 _) (by omega) _ _ _ _ _ _⟩)
   | (replace mP:=mP;exact bodyPost_ret (v:=.tuple #[dp cK,.bool false]) (by simp [results,Tryz.results97,go_sem,dp,cK,y0,y1,y2,y3,y4,y5]) rfl ⟨rfl,ji (below_drewN B1 _) (by omega) _ _ _ _ _ _⟩)
def wH (z0:Nat) (z1:Nat):Prop:=∀(lv tg asd pt tm:Int) (gl:Bool) (w:World) (HKL:Hid (∀w,Calls Tryz.prog 128 #[.int .i64 lv] w fun e w'=>e=.returned (.bool true)∧w'=w)) (HTM:Hid (∀w,Calls Tryz.prog 129 #[.int .i64 lv] w fun e w'=>e=.returned (.int .u64 tm)∧w'=w)) (h:tg<=tm) (h2:asd<=65535) (HB:Hid (∀w,Calls Tryz.prog 130 #[.int .u64 pt,.int .u64 32] w fun e w'=>e=.returned (.bool gl)∧w'=w)) (HGD:Hid (∀w,Calls Tryz.prog z0 #[.int .u64 pt,.int .i64 lv] w fun e w'=>e=.returned (.bool false)∧w'=w)),Calls Tryz.prog z1 #[.agg #[.bool true,.int .i64 lv,.int .u64 tg,.int .u64 asd,.bool gl,.int .u64 pt]] w fun e w'=>e=.returned (.tuple #[dp cK,.bool false])∧Bw w w'
theorem yK:wH 192 95∧wH 193 97:=by
 refine ⟨?_,?_⟩;have mL:Hid True:=trivial
 rotate_left
 have mP:Hid True:=trivial
 rotate_left
 all_goals
  intro lv tg asd pt tm gl w HKL HTM h h2 HB HGD;have hne2:(gl != gl)=false:=by simp
  first
   | (replace mL:=mL;have hm:=iZ pt)
   | (replace mP:=mP;have hm:=ja pt)
  first
   | (replace mL:=mL;go_enter Tryz.func95,Tryz.ntmps95)
   | (replace mP:=mP;go_enter Tryz.func97,Tryz.ntmps97)
  go_wp2_with fail;go_quiet (first
   | (go_at_call 128;exact Calls.quiet_of_same (HKL.out _))
   | (go_at_call 129;exact Calls.quiet_of_same (HTM.out _)))
  first
   | (replace mL:=mL;obtain ⟨v2,e2,P1,P2,B1,S1⟩:=lY w #[.bool true,.int .i64 lv,.int .u64 tg,.int .u64 asd,.bool gl,.int .u64 pt] 121 #[.int .i64 0,.int .u64 0,.int .u64 0,.bool false,.bool false,.int .u64 0] 190 nq)
   | (replace mP:=mP;obtain ⟨v2,e2,P1,P2,B1,S1⟩:=lY w #[.bool true,.int .i64 lv,.int .u64 tg,.int .u64 asd,.bool gl,.int .u64 pt] 121 #[.int .i64 0,.int .u64 0,.int .u64 0,.bool false,.bool false,.int .u64 0] 195 nq)
  rw [e2];clear e2;obtain ⟨⟨x0,x1,x2,x3,x4,x5⟩,_⟩:=iB P1.out;obtain ⟨⟨y0,y1,y2,y3,y4,y5⟩,z0,z1,z2,z3,z4,z5⟩:=iB P2.out;have ne1:v2.heap.size≠w.heap.size:=by omega
  have ne2:v2.heap.size≠w.heap.size+1:=by omega
  have ne3:w.heap.size<v2.heap.size:=by omega
  have ne4:w.heap.size+1<v2.heap.size:=by omega
  clear HKL HTM;go_wp2_with fail;first
   | (replace mL:=mL;go_quiet (first
          | (go_at_call 130;exact Calls.quiet_of_same (HB.out _))
          | (go_at_call 192;exact Calls.quiet_of_same (HGD.out _))))
   | (replace mP:=mP;go_quiet (first
          | (go_at_call 130;exact Calls.quiet_of_same (HB.out _))
          | (go_at_call 193;exact Calls.quiet_of_same (HGD.out _))))
  go_wp2_with fail;first
   | (replace mL:=mL;exact bodyPost_ret (v:=.tuple #[dp cK,.bool false]) (by simp [results,Tryz.results95,go_sem,dp,cK,y0,y1,y2,y3,y4,y5]) rfl ⟨rfl,ji (below_drewN B1 _) (by omega) _ _ _ _ _ _⟩)
   | (replace mP:=mP;exact bodyPost_ret (v:=.tuple #[dp cK,.bool false]) (by simp [results,Tryz.results97,go_sem,dp,cK,y0,y1,y2,y3,y4,y5]) rfl ⟨rfl,ji (below_drewN B1 _) (by omega) _ _ _ _ _ _⟩)
def tO (z0:Nat) (z1:Nat):Prop:=∀(lv tg asd pt tm:Int) (gl:Bool) (w:World) (HKL:Hid (∀w,Calls Tryz.prog 128 #[.int .i64 lv] w fun e w'=>e=.returned (.bool true)∧w'=w)) (HTM:Hid (∀w,Calls Tryz.prog 129 #[.int .i64 lv] w fun e w'=>e=.returned (.int .u64 tm)∧w'=w)) (h:tg<=tm) (h2:asd<=65535) (HB:Hid (∀w,Calls Tryz.prog 130 #[.int .u64 pt,.int .u64 32] w fun e w'=>e=.returned (.bool gl)∧w'=w)) (HGD:Hid (∀w,Calls Tryz.prog z0 #[.int .u64 pt,.int .i64 lv] w fun e w'=>e=.returned (.bool true)∧w'=w)),Calls Tryz.prog z1 #[.agg #[.bool true,.int .i64 lv,.int .u64 tg,.int .u64 asd,.bool gl,.int .u64 pt]] w fun e w'=>e=.returned (.tuple #[dp ⟨true,lv,tg,asd,gl,pt⟩,.bool true])∧Bw w w'
theorem wI:tO 192 95∧tO 193 97:=by
 refine ⟨?_,?_⟩;have mL:Hid True:=trivial
 rotate_left
 have mP:Hid True:=trivial
 rotate_left
 all_goals
  intro lv tg asd pt tm gl w HKL HTM h h2 HB HGD;have hne2:(gl != gl)=false:=by simp
  first
   | (replace mL:=mL;have hm:=iZ pt)
   | (replace mP:=mP;have hm:=ja pt)
  first
   | (replace mL:=mL;go_enter Tryz.func95,Tryz.ntmps95)
   | (replace mP:=mP;go_enter Tryz.func97,Tryz.ntmps97)
  go_wp2_with fail;go_quiet (first
   | (go_at_call 128;exact Calls.quiet_of_same (HKL.out _))
   | (go_at_call 129;exact Calls.quiet_of_same (HTM.out _)))
  first
   | (replace mL:=mL;obtain ⟨v2,e2,P1,P2,B1,S1⟩:=lY w #[.bool true,.int .i64 lv,.int .u64 tg,.int .u64 asd,.bool gl,.int .u64 pt] 121 #[.int .i64 0,.int .u64 0,.int .u64 0,.bool false,.bool false,.int .u64 0] 190 nq)
   | (replace mP:=mP;obtain ⟨v2,e2,P1,P2,B1,S1⟩:=lY w #[.bool true,.int .i64 lv,.int .u64 tg,.int .u64 asd,.bool gl,.int .u64 pt] 121 #[.int .i64 0,.int .u64 0,.int .u64 0,.bool false,.bool false,.int .u64 0] 195 nq)
  rw [e2];clear e2;obtain ⟨⟨x0,x1,x2,x3,x4,x5⟩,_⟩:=iB P1.out;obtain ⟨⟨y0,y1,y2,y3,y4,y5⟩,z0,z1,z2,z3,z4,z5⟩:=iB P2.out;have ne1:v2.heap.size≠w.heap.size:=by omega
  have ne2:v2.heap.size≠w.heap.size+1:=by omega
  have ne3:w.heap.size<v2.heap.size:=by omega
  have ne4:w.heap.size+1<v2.heap.size:=by omega
  clear HKL HTM;go_wp2_with fail;first
   | (replace mL:=mL;go_quiet (first
          | (go_at_call 130;exact Calls.quiet_of_same (HB.out _))
          | (go_at_call 192;exact Calls.quiet_of_same (HGD.out _))))
   | (replace mP:=mP;go_quiet (first
          | (go_at_call 130;exact Calls.quiet_of_same (HB.out _))
          | (go_at_call 193;exact Calls.quiet_of_same (HGD.out _))))
  go_wp2_with fail;first
   | (replace mL:=mL;exact bodyPost_ret (v:=.tuple #[dp ⟨true,lv,tg,asd,gl,pt⟩,.bool true]) (by simp [results,Tryz.results95,go_sem,dp,y0,y1,y2,y3,y4,y5,ne4]) rfl ⟨rfl,(ji (below_drewN B1 nq) (by omega) _ _ _ _ _ _).alloc (by simp;omega) _⟩)
   | (replace mP:=mP;exact bodyPost_ret (v:=.tuple #[dp ⟨true,lv,tg,asd,gl,pt⟩,.bool true]) (by simp [results,Tryz.results97,go_sem,dp,y0,y1,y2,y3,y4,y5,ne4]) rfl ⟨rfl,(ji (below_drewN B1 nq) (by omega) _ _ _ _ _ _).alloc (by simp;omega) _⟩)
def oz (z0:Nat) (z1:Bool):Prop:=∀(x:EntM) (w:World) (hx:eU x),Calls Tryz.prog z0 #[mq x] w fun e w'=>e=.returned (.tuple #[dp (if aY x z1=true then x else cK),.bool (aY x z1)])∧Bw w w'
theorem qh:oz 95 false∧oz 97 true:=by
 refine ⟨?_,?_⟩;have mL:Hid True:=trivial
 rotate_left
 have mP:Hid True:=trivial
 rotate_left
 all_goals
  intro x w hx;obtain ⟨v,lv,tg,asd,gl,pt⟩:=x;obtain ⟨⟨a1,a2⟩,⟨b1,b2⟩,⟨c1,c2⟩,d1,d2⟩:=hx;simp only at a1 a2 b1 b2 c1 c2 d1 d2;unfold mq;simp only;cases v
  ·first
    | (replace mL:=mL;rw [show aY ⟨false,lv,tg,asd,gl,pt⟩ false=false by simp [aY]])
    | (replace mP:=mP;rw [show aY ⟨false,lv,tg,asd,gl,pt⟩ true=false by simp [aY]])
   first
    | (replace mL:=mL;exact yF.1 lv tg asd pt 0 gl w)
    | (replace mP:=mP;exact yF.2 lv tg asd pt 0 gl w)
  by_cases h0:¬(0<=lv∧lv<=2)
  ·first
    | (replace mL:=mL;rw [show aY ⟨true,lv,tg,asd,gl,pt⟩ false=false by simp [aY];omega])
    | (replace mP:=mP;rw [show aY ⟨true,lv,tg,asd,gl,pt⟩ true=false by simp [aY];omega])
   first
    | (replace mL:=mL;exact yG.1 lv tg asd pt 0 gl w (fun w=>by
         have:=dB lv w
         rw [show decide (0<=lv∧lv<=2)=false by simpa using h0] at this
         exact this))
    | (replace mP:=mP;exact yG.2 lv tg asd pt 0 gl w (fun w=>by
         have:=dB lv w
         rw [show decide (0<=lv∧lv<=2)=false by simpa using h0] at this
         exact this))
  have h0':0<=lv∧lv<=2:=Decidable.not_not.1 h0;have HKL:Hid (∀w,Calls Tryz.prog 128 #[.int .i64 lv] w fun e w'=>e=.returned (.bool true)∧w'=w):=fun w=>by
   have:=dB lv w;rw [show decide (0<=lv∧lv<=2)=true by simpa using h0'] at this;exact this
  obtain ⟨tm,htm⟩:∃tm,kQ lv-1=tm:=⟨_,rfl⟩;have HTM:Hid (∀w,Calls Tryz.prog 129 #[.int .i64 lv] w fun e w'=>e=.returned (.int .u64 tm)∧w'=w):=fun w=>by
   have:=jX lv w (by omega);rw [htm] at this;exact this
  by_cases h1:¬(tg<=tm)
  ·first
    | (replace mL:=mL;rw [show aY ⟨true,lv,tg,asd,gl,pt⟩ false=false by simp [aY];omega])
    | (replace mP:=mP;rw [show aY ⟨true,lv,tg,asd,gl,pt⟩ true=false by simp [aY];omega])
   first
    | (replace mL:=mL;exact yH.1 lv tg asd pt tm gl w HKL HTM h1)
    | (replace mP:=mP;exact yH.2 lv tg asd pt tm gl w HKL HTM h1)
  have h1':tg<=tm:=Decidable.not_not.1 h1;by_cases h2:¬(asd<=65535)
  ·first
    | (replace mL:=mL;rw [show aY ⟨true,lv,tg,asd,gl,pt⟩ false=false by simp [aY];omega])
    | (replace mP:=mP;rw [show aY ⟨true,lv,tg,asd,gl,pt⟩ true=false by simp [aY];omega])
   first
    | (replace mL:=mL;exact yI.1 lv tg asd pt tm gl w HKL HTM h1' h2)
    | (replace mP:=mP;exact yI.2 lv tg asd pt tm gl w HKL HTM h1' h2)
  have h2':asd<=65535:=Decidable.not_not.1 h2;first
   | (replace mL:=mL;have hgood:aY ⟨true,lv,tg,asd,gl,pt⟩ false=((gl == bR pt 32) && (bC pt lv == 2)):=by
        simp only [aY,iu]
        simp [h0'.1,h0'.2,h2',show tg<kQ lv by omega])
   | (replace mP:=mP;have hgood:aY ⟨true,lv,tg,asd,gl,pt⟩ true=((gl == bR pt 32) && (bC pt lv == 1)):=by
        simp only [aY,iu]
        simp [h0'.1,h0'.2,h2',show tg<kQ lv by omega])
  rw [hgood];obtain ⟨g5,hg5⟩:∃g5,bR pt 32=g5:=⟨_,rfl⟩;first
   | (replace mL:=mL;obtain ⟨gd,hgd⟩:∃gd,(bC pt lv == 2)=gd:=⟨_,rfl⟩)
   | (replace mP:=mP;obtain ⟨gd,hgd⟩:∃gd,(bC pt lv == 1)=gd:=⟨_,rfl⟩)
  have HB:Hid (∀w,Calls Tryz.prog 130 #[.int .u64 pt,.int .u64 32] w fun e w'=>e=.returned (.bool g5)∧w'=w):=fun w=>by
   have:=dE pt 32 w;rw [dI 5 pt 32 rfl (by omega) d1 d2,hg5] at this;exact this
  first
   | (replace mL:=mL;have HGD:Hid (∀w,Calls Tryz.prog 192 #[.int .u64 pt,.int .i64 lv] w fun e w'=>e=.returned (.bool gd)∧w'=w):=fun w=>by
        have:=xK pt lv w d1 d2
        rw [hgd] at this
        exact this)
   | (replace mP:=mP;have HGD:Hid (∀w,Calls Tryz.prog 193 #[.int .u64 pt,.int .i64 lv] w fun e w'=>e=.returned (.bool gd)∧w'=w):=fun w=>by
        have:=xL pt lv w d1 d2
        rw [hgd] at this
        exact this)
  rw [hg5,hgd];cases hq:(gl == g5)
  ·first
    | (replace mL:=mL;exact yJ.1 lv tg asd pt tm gl g5 w HKL HTM h1' h2' HB hq)
    | (replace mP:=mP;exact yJ.2 lv tg asd pt tm gl g5 w HKL HTM h1' h2' HB hq)
  ·have hq':gl=g5:=by simpa using hq
   subst hq';cases gd
   ·first
     | (replace mL:=mL;exact yK.1 lv tg asd pt tm gl w HKL HTM h1' h2' HB HGD)
     | (replace mP:=mP;exact yK.2 lv tg asd pt tm gl w HKL HTM h1' h2' HB HGD)
   ·first
     | (replace mL:=mL;exact wI.1 lv tg asd pt tm gl w HKL HTM h1' h2' HB HGD)
     | (replace mP:=mP;exact wI.2 lv tg asd pt tm gl w HKL HTM h1' h2' HB HGD)
theorem ph (b o:Nat) (sets tag:Int) (w:World) (hs:sets=1∨sets=2∨sets=4∨sets=8) (c0:w.cell? ⟨b,o,none⟩=some (.int .i64 sets)) (ht:0<=tag) (ht1:tag<=18446744073709551615):
 Calls Tryz.prog 96 #[.pointer (some ⟨b,o,none⟩),.int .u64 tag] w fun e w'=>e=.returned (.int .i64 (tag%sets))∧w'=w:=by
 rcases hs with rfl | rfl | rfl | rfl;all_goals
  go_enter Tryz.func96,Tryz.ntmps96;go_wp2_with fail;go_ret;exact ⟨cx (by omega),rfl⟩
theorem pj (b o:Nat) (sets tag:Int) (w:World) (hs:sets=1∨sets=2∨sets=4∨sets=8) (c0:w.cell? ⟨b,o,none⟩=some (.int .i64 sets)) (ht:0<=tag) (ht1:tag<=18446744073709551615):
 Calls Tryz.prog 98 #[.pointer (some ⟨b,o,none⟩),.int .u64 tag] w fun e w'=>e=.returned (.int .i64 (tag%sets))∧w'=w:=by
 rcases hs with rfl | rfl | rfl | rfl;all_goals
  go_enter Tryz.func98,Tryz.ntmps98;go_wp2_with fail;go_ret;exact ⟨cx (by omega),rfl⟩
section
attribute [local go_sem ↓] Go.wp_at_zero Go.wp_at_succ
def sq (z0:Nat) (z1:Bool):Prop:=∀(b o g n:Nat) (t:TlbM) (va asid:Int) (w:World) (hn:t.es.length=n) (hn1:n<=1048576) (hv:aQ t z1=true) (hbl:b<w.heap.size)
 (c0:w.cell? ⟨b,o,none⟩=some (.int .i64 t.sets)) (c1:w.cell? ⟨b,o+1,none⟩=some (.int .i64 t.ways)) (c2:w.cell? ⟨b,o+2,none⟩=some (.slice (some ⟨g,0,none⟩) n n)) (hr:RowC w (some ⟨g,0,none⟩) n 6 (aH t.es)) (hv0:0<=va) (hv1:va<=18446744073709551615),Calls Tryz.prog z0 #[.pointer (some ⟨b,o,none⟩),.int .u64 va,.int .u64 asid] w fun e w'=>e=.returned (.tuple #[.int .i64 (ba t va asid).2.1,.bool (ba t va asid).1])∧Bw w w'
theorem pF:sq 163 false∧sq 174 true:=by
 refine ⟨?_,?_⟩;have mL:=trivial
 rotate_left
 have mP:=trivial
 rotate_left
 all_goals
  intro b o g n t va asid w hn hn1 hv hbl c0 c1 c2 hr hv0 hv1;obtain ⟨hs4,hw1,hw4,hnw⟩:=wy hv;first
   | (replace mL:=mL;have HV:Hid (aQ t false=true):=hv)
   | (replace mP:=mP;have HV:Hid (aQ t true=true):=hv)
  have HEi:=hid (dM hv);have HR:=hid hr;have HN:=hid hn;have HNw:Hid ((n:Int)=t.sets*t.ways):=by show _=_;rw [<-hn];exact hnw
  obtain ⟨X,hX⟩:∃X,ba t va asid=X:=⟨_,rfl⟩;have HX:=hid hX;rw [hX];clear hX hv hr hnw hn;obtain ⟨sets,ways,es⟩:=t;simp only at *;first
   | (replace mL:=mL;go_enter Tryz.func163,Tryz.ntmps163)
   | (replace mP:=mP;go_enter Tryz.func174,Tryz.ntmps174)
  go_wp2_with fail;go_loopw [12] (fun i wr=>∃l:Nat,l<=3∧i=.int .i64 l∧Hid (∀l':Nat,l'<l->dR va asid l' 0 es=none)∧Bw w wr) (fun i _=>3-(intOf i).toNat)
  case atStart=>exact ⟨0,by omega,rfl,fun l' h=>absurd h (by omega),Below.refl _ _⟩
  case round=>
   obtain ⟨l,hl,rfl,HF,hb⟩:=hrel;by_cases hlt:l<3
   ·have hl3:(l:Int)=0∨(l:Int)=1∨(l:Int)=2:=by omega
    obtain ⟨tm,htm⟩:∃tm,fJ va l=tm:=⟨_,rfl⟩;have htb:=sf va l hl3;rw [htm] at htb;obtain ⟨sx,hsx⟩:∃sx,tm%sets=sx:=⟨_,rfl⟩;have hsb:0<=sx∧sx<sets:=by rw [<-hsx];exact ⟨Int.emod_nonneg _ (by omega),Int.emod_lt_of_pos _ (by omega)⟩
    obtain ⟨f,hf⟩:∃f:Nat,(f:Int)=sx*ways:=⟨(sx*ways).toNat,Int.toNat_of_nonneg (Int.mul_nonneg hsb.1 (by omega))⟩;have hfn:(f:Int)+ways<=n:=by
     rw [HNw.out,hf];have:(sx+1)*ways<=sets*ways:=Int.mul_le_mul_of_nonneg_right (by omega) (by omega);rw [Int.add_mul,Int.one_mul] at this;exact this
    have HFi:Hid ((f:Int)=fJ va l%sets*ways):=by show _=_;rw [htm,hsx];exact hf
    have HWm:=hid hf.symm;have r0:=Below.cell2 hb c0 hbl;have r1:=Below.cell2 hb c1 hbl;have HTg:Hid (∀u,Calls Tryz.prog 134 #[.int .u64 va,.int .i64 l] u fun e w'=>e=.returned (.int .u64 tm)∧∃q,w'=u.drewN q):=fun u=>by
     have:=xJ va l u hv0 hv1 hl3;rw [htm] at this;exact this
    first
     | (replace mL:=mL;have HSt:Hid (∀q,Calls Tryz.prog 96 #[.pointer (some ⟨b,o,none⟩),.int .u64 tm] (wr.drewN q) fun e w'=>e=.returned (.int .i64 sx)∧w'=wr.drewN q):=fun q=>by
          have:=ph b o sets tm (wr.drewN q) hs4 r0 htb.1 (by omega)
          rw [hsx] at this
          exact this)
     | (replace mP:=mP;have HSt:Hid (∀q,Calls Tryz.prog 98 #[.pointer (some ⟨b,o,none⟩),.int .u64 tm] (wr.drewN q) fun e w'=>e=.returned (.int .i64 sx)∧w'=wr.drewN q):=fun q=>by
          have:=pj b o sets tm (wr.drewN q) hs4 r0 htb.1 (by omega)
          rw [hsx] at this
          exact this)
    clear htm hsx;go_wp2_with fail;go_cut [9] (fun s9 wx=>s9=.int .i64 f∧∃q,wx=wr.drewN q)
    case first=>
     first
      | (replace mL:=mL;go_quiet (first
           | (go_at_call 134;exact Calls.quiet_of (HTg.out _))
           | (go_at_call 96;exact Calls.quiet_of_same (HSt.out _))))
      | (replace mP:=mP;go_quiet (first
           | (go_at_call 134;exact Calls.quiet_of (HTg.out _))
           | (go_at_call 98;exact Calls.quiet_of_same (HSt.out _))))
     go_wp2_with fail;go_meet;exact ⟨by rw [HWm.out],nq,rfl⟩
    case rest=>
     obtain ⟨rfl,q,rfl⟩:=hcut;have hb2:Bw w (wr.drewN q):=below_drewN hb q;generalize wr.drewN q=v2 at hb2 |-;clear r0 r1 hb HTg HSt HWm hsb hf;go_wp2_with fail;rename_i wr0;go_loopw [10] (fun i wr=>∃q:Nat,f<=q∧(q:Int)<=f+ways∧i=.int .i64 q∧Hid (∀(q':Nat) x,f<=q'->q'<q->es[q']?=some x->gW va asid l x=false)∧Bw w wr) (fun i _=>f+4-(intOf i).toNat)
     case atStart=>exact ⟨f,nle,by omega,rfl,fun q' x h h'=>absurd h' (by omega),hb2⟩
     case round=>
      obtain ⟨q,hq1,hq2,rfl,HQ,hb3⟩:=hrel;have r1:wr.cell? ⟨b,o+1,none⟩=some (.int .i64 ways):=Below.cell2 hb3 c1 hbl;have r2:wr.cell? ⟨b,o+2,none⟩=some (.slice (some ⟨g,0,none⟩) n n):=Below.cell2 hb3 c2 hbl;by_cases hqt:(q:Int)<f+ways
      ·have hqn:q<n:=by omega
       obtain ⟨⟨vv,lv,tg,asd,gl,pt⟩,hx⟩:∃x,es[q]?=some x:=⟨_,List.getElem?_eq_getElem (by rw [HN.out];exact hqn)⟩;have HXq:Hid (es[q]?=some ⟨vv,lv,tg,asd,gl,pt⟩):=hx;have CE:∀j u,j<6->(fz ⟨vv,lv,tg,asd,gl,pt⟩)[j]?=some u->wr.cell? ⟨g,q*6+j,none⟩=some u:=fun j u hj hu=>iM (HR.out.keep hb3) HN.out q _ hx j u hj hu;have g0:wr.cell? ⟨g,q*6,none⟩=some (.int .i64 lv):=CE 0 _ (by omega) rfl;have g1:wr.cell? ⟨g,q*6+1,none⟩=some (.int .u64 tg):=CE 1 _ (by omega) rfl;have g2:wr.cell? ⟨g,q*6+2,none⟩=some (.int .u64 asd):=CE 2 _ (by omega) rfl;have g3:wr.cell? ⟨g,q*6+3,none⟩=some (.bool gl):=CE 3 _ (by omega) rfl;have g4:wr.cell? ⟨g,q*6+4,none⟩=some (.bool vv):=CE 4 _ (by omega) rfl;have HNx:Hid (gW va asid l ⟨vv,lv,tg,asd,gl,pt⟩=false->∀(q':Nat) x,f<=q'->q'<q+1->es[q']?=some x->gW va asid l x=false):=fun h q' x h1 h2 h3=>by
        by_cases e:q'=q
        ·subst e;rw [HXq.out] at h3;cases h3;exact h
        ·exact HQ.out q' x h1 (by omega) h3
       clear CE hx;cases vv
       ·go_wp2_with fail;go_roundw
        case rel=>exact ⟨q+1,by omega,by omega,by go_num,HNx.out (by simp [gW,kR]),hb3⟩
        case measure=>simp [intOf];omega
       ·by_cases hlv:lv=l
        ·subst hlv;obtain ⟨fb,hfb⟩:∃fb,((tg == fJ va l) && (gl || asd == asid))=fb:=⟨_,rfl⟩;have HFt:Hid (∀u,Calls Tryz.prog 167 #[.agg #[.int .i64 l,.int .u64 tg,.int .u64 asd,.bool gl],.int .u64 va,.int .u64 asid] u fun e w'=>e=.returned (.bool fb)∧Bw u w'):=fun u=>by
          have:=BD l tg asd va asid gl u hl3 hv0 hv1;rw [hfb] at this;exact this
         have HHb:Hid (gW va asid l ⟨true,l,tg,asd,gl,pt⟩=fb):=by
          show _=_;rw [<-hfb];simp [gW,kR]
         clear hfb;go_wp2_with fail;refine (HFt.out wr).mono ?_;rintro e v5 ⟨rfl,n5⟩;have A5:=bst hb3 n5;cases fb
         ·go_wp2_with fail;go_roundw
          case rel=>exact ⟨q+1,by omega,by omega,by go_num,HNx.out HHb.out,A5⟩
          case measure=>simp [intOf];omega
         ·have hx:X=(true,(q:Int),(l:Int),pt):=by
           rw [<-HX.out];have hfi:=zM (t:=⟨sets,ways,es⟩) (k:=q-f) HV.out HFi.out (by simp only;rw [show f+(q-f)=q by omega];exact HXq.out) HHb.out (fun j y hj hy=>HQ.out (f+j) y (by omega) (by omega) hy);rw [show f+(q-f)=q by omega] at hfi;exact yl ⟨sets,ways,es⟩ va asid l q _ HEi.out (by omega) HF.out hfi
          subst hx;go_wp2_with fail;first
           | (replace mL:=mL;exact bodyPost_ret (v:=.tuple #[.int .i64 q,.bool true]) (by simp [results,Tryz.results163,go_sem]) rfl ⟨rfl,A5⟩)
           | (replace mP:=mP;exact bodyPost_ret (v:=.tuple #[.int .i64 q,.bool true]) (by simp [results,Tryz.results174,go_sem]) rfl ⟨rfl,A5⟩)
        ·have hlv':(lv == (l:Int))=false:=by simpa using hlv
         go_wp2_with fail;go_roundw
         case rel=>exact ⟨q+1,by omega,by omega,by go_num,HNx.out (by simp [gW,hlv]),hb3⟩
         case measure=>simp [intOf];omega
      ·have hqe:(q:Int)=f+ways:=by omega
       have hnn:=zL (t:=⟨sets,ways,es⟩) HV.out HFi.out (fun j x hj hx=>HQ.out (f+j) x (by omega) (by simp only at hj;omega) hx);have HNn:=hid hnn;clear hnn;go_wp2_with fail;go_roundw
       case rel=>exact ⟨l+1,by omega,by go_num,fun l' hl'=>by
        by_cases e:l'=l
        ·subst e;exact HNn.out
        ·exact HF.out l' (by omega),hb3⟩
       case measure=>simp [intOf];omega
   ·have hl3:l=3:=by omega
    subst hl3;have hx:X=(false,0,0,0):=by
     rw [<-HX.out];exact tn _ va asid HEi.out HF.out
    subst hx;go_wp2_with fail;first
     | (replace mL:=mL;exact bodyPost_ret (v:=.tuple #[.int .i64 0,.bool false]) (by simp [results,Tryz.results163,go_sem]) rfl ⟨rfl,hb⟩)
     | (replace mP:=mP;exact bodyPost_ret (v:=.tuple #[.int .i64 0,.bool false]) (by simp [results,Tryz.results174,go_sem]) rfl ⟨rfl,hb⟩)
end
theorem sU (lv:Int) (ra:Option Addr) (n rc:Nat) (w:World):
 Calls Tryz.prog 169 #[.agg #[.int .i64 lv,.int .u64 0,.slice ra n rc]] w fun e w'=>e=.returned (.slice ra n rc)∧Bw w w':=by
 have n1:=(Below.refl w.heap.size w).alloc nle (Obj.cells #[.int .i64 lv,.int .u64 0,.slice ra n rc] 276);go_enter Tryz.func169,Tryz.ntmps169;go_wp2_with fail;go_ret;exact ⟨rfl,n1⟩
theorem sV (lv lf:Int) (g n rc:Nat) (w:World) (h:lf≠0) (hn:n<=3) (hn1:n+1<=rc) (hrc:rc<=9223372036854775807):
 Calls Tryz.prog 169 #[.agg #[.int .i64 lv,.int .u64 lf,.slice (some ⟨g,0,none⟩) (n+1) rc]] w fun e w'=>e=.returned (.slice (some ⟨g,0,none⟩) n rc)∧Bw w w':=by
 have n1:=(Below.refl w.heap.size w).alloc nle (Obj.cells #[.int .i64 lv,.int .u64 lf,.slice (some ⟨g,0,none⟩) (n+1) rc] 276);have h':(lf == 0)=false:=by simpa using h
 go_enter Tryz.func169,Tryz.ntmps169;go_wp2_with fail;go_ret;exact ⟨by simp,n1⟩
end Go.Proofs.YtpdddbobhndbjaaGreat
