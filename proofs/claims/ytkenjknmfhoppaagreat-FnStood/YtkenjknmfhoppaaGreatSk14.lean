import Derived.Test.YtkenjknmfhoppaaGreatSk13
namespace Go.Proofs.YtkenjknmfhoppaaGreat
open Go.RowKit
set_option linter.unusedVariables false
set_option maxHeartbeats 6400000
set_option maxRecDepth 20000
theorem kY (w:World) (x y:Obj):Bw w ((w.alloc x).alloc y):=((Below.refl w.heap.size w).alloc nle x).alloc (by simp) y
theorem nl (w:World) (A:Array Value) (T:TypeId) (B:Array Value) (U:TypeId) (k:Nat):∃v2,((w.alloc (Obj.cells A T)).alloc (Obj.cells B U)).drewN k=v2∧Hid (v2.heap[w.heap.size]?=some (.cells A T (0,0)))∧Hid (v2.heap[w.heap.size+1]?=some (.cells B U (0,0)))∧Bw w v2∧v2.heap.size=w.heap.size+2:=by
 refine ⟨_,rfl,?_,?_,below_drewN (kY _ _ _) k,?_⟩
 ·show ((w.alloc (Obj.cells A T)).alloc (Obj.cells B U)).heap[w.heap.size]?=_;rw [rf _ _ (by simp)];exact er w _
 ·have:=er (w.alloc (Obj.cells A T)) (Obj.cells B U);simp only [World.size_alloc] at this;exact this
 ·show ((w.alloc (Obj.cells A T)).alloc (Obj.cells B U)).heap.size=_;simp
theorem jG (x:Int) (w:World):(method 444 204 (VU x) "loop.example/s0051/impl.goodAt").run Tryz.prog w=.ok (240,VU x) w:=by kernel_rfl
theorem jH (x:Int) (w:World):(method 444 207 (VU x) "loop.example/s0051/impl.goodAt").run Tryz.prog w=.ok (241,VU x) w:=by kernel_rfl
def yo (z0:Nat):Prop:=∀(lv tg asd pt tm:Int) (gl:Bool) (w:World),Calls Tryz.prog z0 #[.agg #[.bool false,VI lv,VU tg,VU asd,.bool gl,VU pt]] w fun e w'=>e=.returned (.tuple #[dy cH,.bool false])∧Bw w w'
theorem Aq:yo 136∧yo 138:=by
 refine ⟨?_,?_⟩;have mL:Hid True:=trivial
 rotate_left
 have mP:Hid True:=trivial
 rotate_left
 all_goals
  intro lv tg asd pt tm gl w;first
   | (replace mL:=mL;go_enter Tryz.func136,Tryz.ntmps136)
   | (replace mP:=mP;go_enter Tryz.func138,Tryz.ntmps138)
  go_wp2;go_quiet (fail);go_wp2_with fail;first
   | (replace mL:=mL;exact bodyPost_ret (v:=.tuple #[dy cH,.bool false]) (by simp [results,Tryz.results136,go_sem,dy,cH]) rfl ⟨rfl,jO (below_drewN (kY _ _ _) nq) (by omega) _ _ _ _ _ _⟩)
   | (replace mP:=mP;exact bodyPost_ret (v:=.tuple #[dy cH,.bool false]) (by simp [results,Tryz.results138,go_sem,dy,cH]) rfl ⟨rfl,jO (below_drewN (kY _ _ _) nq) (by omega) _ _ _ _ _ _⟩)
def yp (z0:Nat):Prop:=∀(lv tg asd pt tm:Int) (gl:Bool) (w:World) (HKL:Hid (∀w,Calls Tryz.prog 162 #[VI lv] w fun e w'=>e=.returned (.bool false)∧w'=w)),Calls Tryz.prog z0 #[.agg #[.bool true,VI lv,VU tg,VU asd,.bool gl,VU pt]] w fun e w'=>e=.returned (.tuple #[dy cH,.bool false])∧Bw w w'
theorem Ar:yp 136∧yp 138:=by
 refine ⟨?_,?_⟩;have mL:Hid True:=trivial
 rotate_left
 have mP:Hid True:=trivial
 rotate_left
 all_goals
  intro lv tg asd pt tm gl w HKL;first
   | (replace mL:=mL;go_enter Tryz.func136,Tryz.ntmps136)
   | (replace mP:=mP;go_enter Tryz.func138,Tryz.ntmps138)
  go_wp2;go_quiet ((go_at_call 162;exact Calls.quiet_of_same (HKL.out _)));go_wp2_with fail;first
   | (replace mL:=mL;exact bodyPost_ret (v:=.tuple #[dy cH,.bool false]) (by simp [results,Tryz.results136,go_sem,dy,cH]) rfl ⟨rfl,jO (below_drewN (kY _ _ _) nq) (by omega) _ _ _ _ _ _⟩)
   | (replace mP:=mP;exact bodyPost_ret (v:=.tuple #[dy cH,.bool false]) (by simp [results,Tryz.results138,go_sem,dy,cH]) rfl ⟨rfl,jO (below_drewN (kY _ _ _) nq) (by omega) _ _ _ _ _ _⟩)
def yq (z0:Nat):Prop:=∀(lv tg asd pt tm:Int) (gl:Bool) (w:World) (HKL:Hid (∀w,Calls Tryz.prog 162 #[VI lv] w fun e w'=>e=.returned (.bool true)∧w'=w)) (HTM:Hid (∀w,Calls Tryz.prog 163 #[VI lv] w fun e w'=>e=.returned (VU tm)∧w'=w)) (h:¬(tg<=tm)),Calls Tryz.prog z0 #[.agg #[.bool true,VI lv,VU tg,VU asd,.bool gl,VU pt]] w fun e w'=>e=.returned (.tuple #[dy cH,.bool false])∧Bw w w'
theorem As:yq 136∧yq 138:=by
 refine ⟨?_,?_⟩;have mL:Hid True:=trivial
 rotate_left
 have mP:Hid True:=trivial
 rotate_left
 all_goals
  intro lv tg asd pt tm gl w HKL HTM h;first
   | (replace mL:=mL;go_enter Tryz.func136,Tryz.ntmps136)
   | (replace mP:=mP;go_enter Tryz.func138,Tryz.ntmps138)
  go_wp2;go_quiet (first
   | (go_at_call 162;exact Calls.quiet_of_same (HKL.out _))
   | (go_at_call 163;exact Calls.quiet_of_same (HTM.out _)))
  go_wp2_with fail;first
   | (replace mL:=mL;exact bodyPost_ret (v:=.tuple #[dy cH,.bool false]) (by simp [results,Tryz.results136,go_sem,dy,cH]) rfl ⟨rfl,jO (below_drewN (kY _ _ _) nq) (by omega) _ _ _ _ _ _⟩)
   | (replace mP:=mP;exact bodyPost_ret (v:=.tuple #[dy cH,.bool false]) (by simp [results,Tryz.results138,go_sem,dy,cH]) rfl ⟨rfl,jO (below_drewN (kY _ _ _) nq) (by omega) _ _ _ _ _ _⟩)
def yr (z0:Nat):Prop:=∀(lv tg asd pt tm:Int) (gl:Bool) (w:World) (HKL:Hid (∀w,Calls Tryz.prog 162 #[VI lv] w fun e w'=>e=.returned (.bool true)∧w'=w)) (HTM:Hid (∀w,Calls Tryz.prog 163 #[VI lv] w fun e w'=>e=.returned (VU tm)∧w'=w)) (h:tg<=tm) (h2:¬(asd<=65535)),Calls Tryz.prog z0 #[.agg #[.bool true,VI lv,VU tg,VU asd,.bool gl,VU pt]] w fun e w'=>e=.returned (.tuple #[dy cH,.bool false])∧Bw w w'
theorem At:yr 136∧yr 138:=by
 refine ⟨?_,?_⟩;have mL:Hid True:=trivial
 rotate_left
 have mP:Hid True:=trivial
 rotate_left
 all_goals
  intro lv tg asd pt tm gl w HKL HTM h h2;first
   | (replace mL:=mL;go_enter Tryz.func136,Tryz.ntmps136)
   | (replace mP:=mP;go_enter Tryz.func138,Tryz.ntmps138)
  go_wp2;go_quiet (first
   | (go_at_call 162;exact Calls.quiet_of_same (HKL.out _))
   | (go_at_call 163;exact Calls.quiet_of_same (HTM.out _)))
  go_wp2_with fail;first
   | (replace mL:=mL;exact bodyPost_ret (v:=.tuple #[dy cH,.bool false]) (by simp [results,Tryz.results136,go_sem,dy,cH]) rfl ⟨rfl,jO (below_drewN (kY _ _ _) nq) (by omega) _ _ _ _ _ _⟩)
   | (replace mP:=mP;exact bodyPost_ret (v:=.tuple #[dy cH,.bool false]) (by simp [results,Tryz.results138,go_sem,dy,cH]) rfl ⟨rfl,jO (below_drewN (kY _ _ _) nq) (by omega) _ _ _ _ _ _⟩)
def yt (z0:Nat):Prop:=∀(lv tg asd pt tm:Int) (gl g5:Bool) (w:World) (HKL:Hid (∀w,Calls Tryz.prog 162 #[VI lv] w fun e w'=>e=.returned (.bool true)∧w'=w)) (HTM:Hid (∀w,Calls Tryz.prog 163 #[VI lv] w fun e w'=>e=.returned (VU tm)∧w'=w)) (h:tg<=tm) (h2:asd<=65535) (HB:Hid (∀w,Calls Tryz.prog 164 #[VU pt,VU 32] w fun e w'=>e=.returned (.bool g5)∧w'=w)) (hne:(gl == g5)=false),Calls Tryz.prog z0 #[.agg #[.bool true,VI lv,VU tg,VU asd,.bool gl,VU pt]] w fun e w'=>e=.returned (.tuple #[dy cH,.bool false])∧Bw w w'
theorem Au:yt 136∧yt 138:=by
 refine ⟨?_,?_⟩;have mL:Hid True:=trivial
 rotate_left
 have mP:Hid True:=trivial
 rotate_left
 all_goals
  intro lv tg asd pt tm gl g5 w HKL HTM h h2 HB hne;have hne2:(gl != g5)=true:=by simp [bne,hne]
  first
   | (replace mL:=mL;have hm:=jG pt)
   | (replace mP:=mP;have hm:=jH pt)
  first
   | (replace mL:=mL;go_enter Tryz.func136,Tryz.ntmps136)
   | (replace mP:=mP;go_enter Tryz.func138,Tryz.ntmps138)
  go_wp2;go_quiet (first
   | (go_at_call 162;exact Calls.quiet_of_same (HKL.out _))
   | (go_at_call 163;exact Calls.quiet_of_same (HTM.out _)))
  first
   | (replace mL:=mL;obtain ⟨v2,e2,P1,P2,B1,S1⟩:=nl w #[.bool true,VI lv,VU tg,VU asd,.bool gl,VU pt] 127 #[VI 0,VU 0,VU 0,.bool false,.bool false,VU 0] 246 nq)
   | (replace mP:=mP;obtain ⟨v2,e2,P1,P2,B1,S1⟩:=nl w #[.bool true,VI lv,VU tg,VU asd,.bool gl,VU pt] 127 #[VI 0,VU 0,VU 0,.bool false,.bool false,VU 0] 251 nq)
  rw [e2];clear e2;obtain ⟨⟨x0,x1,x2,x3,x4,x5⟩,_⟩:=iY P1.out;obtain ⟨⟨y0,y1,y2,y3,y4,y5⟩,z0,z1,z2,z3,z4,z5⟩:=iY P2.out;have ne1:v2.heap.size≠w.heap.size:=by omega
  have ne2:v2.heap.size≠w.heap.size+1:=by omega
  have ne3:w.heap.size<v2.heap.size:=by omega
  have ne4:w.heap.size+1<v2.heap.size:=by omega
  clear HKL HTM;go_wp2;go_quiet ((go_at_call 164;exact Calls.quiet_of_same (HB.out _)));go_wp2_with fail;first
   | (replace mL:=mL;exact bodyPost_ret (v:=.tuple #[dy cH,.bool false]) (by simp [results,Tryz.results136,go_sem,dy,cH,y0,y1,y2,y3,y4,y5]) rfl ⟨rfl,jO (below_drewN B1 _) (by omega) _ _ _ _ _ _⟩)
   | (replace mP:=mP;exact bodyPost_ret (v:=.tuple #[dy cH,.bool false]) (by simp [results,Tryz.results138,go_sem,dy,cH,y0,y1,y2,y3,y4,y5]) rfl ⟨rfl,jO (below_drewN B1 _) (by omega) _ _ _ _ _ _⟩)
def yu (z0:Nat) (z1:Nat):Prop:=∀(lv tg asd pt tm:Int) (gl:Bool) (w:World) (HKL:Hid (∀w,Calls Tryz.prog 162 #[VI lv] w fun e w'=>e=.returned (.bool true)∧w'=w)) (HTM:Hid (∀w,Calls Tryz.prog 163 #[VI lv] w fun e w'=>e=.returned (VU tm)∧w'=w)) (h:tg<=tm) (h2:asd<=65535) (HB:Hid (∀w,Calls Tryz.prog 164 #[VU pt,VU 32] w fun e w'=>e=.returned (.bool gl)∧w'=w)) (HGD:Hid (∀w,Calls Tryz.prog z0 #[VU pt,VI lv] w fun e w'=>e=.returned (.bool false)∧w'=w)),Calls Tryz.prog z1 #[.agg #[.bool true,VI lv,VU tg,VU asd,.bool gl,VU pt]] w fun e w'=>e=.returned (.tuple #[dy cH,.bool false])∧Bw w w'
theorem Av:yu 240 136∧yu 241 138:=by
 refine ⟨?_,?_⟩;have mL:Hid True:=trivial
 rotate_left
 have mP:Hid True:=trivial
 rotate_left
 all_goals
  intro lv tg asd pt tm gl w HKL HTM h h2 HB HGD;have hne2:(gl != gl)=false:=by simp
  first
   | (replace mL:=mL;have hm:=jG pt)
   | (replace mP:=mP;have hm:=jH pt)
  first
   | (replace mL:=mL;go_enter Tryz.func136,Tryz.ntmps136)
   | (replace mP:=mP;go_enter Tryz.func138,Tryz.ntmps138)
  go_wp2;go_quiet (first
   | (go_at_call 162;exact Calls.quiet_of_same (HKL.out _))
   | (go_at_call 163;exact Calls.quiet_of_same (HTM.out _)))
  first
   | (replace mL:=mL;obtain ⟨v2,e2,P1,P2,B1,S1⟩:=nl w #[.bool true,VI lv,VU tg,VU asd,.bool gl,VU pt] 127 #[VI 0,VU 0,VU 0,.bool false,.bool false,VU 0] 246 nq)
   | (replace mP:=mP;obtain ⟨v2,e2,P1,P2,B1,S1⟩:=nl w #[.bool true,VI lv,VU tg,VU asd,.bool gl,VU pt] 127 #[VI 0,VU 0,VU 0,.bool false,.bool false,VU 0] 251 nq)
  rw [e2];clear e2;obtain ⟨⟨x0,x1,x2,x3,x4,x5⟩,_⟩:=iY P1.out;obtain ⟨⟨y0,y1,y2,y3,y4,y5⟩,z0,z1,z2,z3,z4,z5⟩:=iY P2.out;have ne1:v2.heap.size≠w.heap.size:=by omega
  have ne2:v2.heap.size≠w.heap.size+1:=by omega
  have ne3:w.heap.size<v2.heap.size:=by omega
  have ne4:w.heap.size+1<v2.heap.size:=by omega
  clear HKL HTM;go_wp2_with fail;first
   | (replace mL:=mL;go_quiet (first
          | (go_at_call 164;exact Calls.quiet_of_same (HB.out _))
          | (go_at_call 240;exact Calls.quiet_of_same (HGD.out _))))
   | (replace mP:=mP;go_quiet (first
          | (go_at_call 164;exact Calls.quiet_of_same (HB.out _))
          | (go_at_call 241;exact Calls.quiet_of_same (HGD.out _))))
  go_wp2_with fail;first
   | (replace mL:=mL;exact bodyPost_ret (v:=.tuple #[dy cH,.bool false]) (by simp [results,Tryz.results136,go_sem,dy,cH,y0,y1,y2,y3,y4,y5]) rfl ⟨rfl,jO (below_drewN B1 _) (by omega) _ _ _ _ _ _⟩)
   | (replace mP:=mP;exact bodyPost_ret (v:=.tuple #[dy cH,.bool false]) (by simp [results,Tryz.results138,go_sem,dy,cH,y0,y1,y2,y3,y4,y5]) rfl ⟨rfl,jO (below_drewN B1 _) (by omega) _ _ _ _ _ _⟩)
def uM (z0:Nat) (z1:Nat):Prop:=∀(lv tg asd pt tm:Int) (gl:Bool) (w:World) (HKL:Hid (∀w,Calls Tryz.prog 162 #[VI lv] w fun e w'=>e=.returned (.bool true)∧w'=w)) (HTM:Hid (∀w,Calls Tryz.prog 163 #[VI lv] w fun e w'=>e=.returned (VU tm)∧w'=w)) (h:tg<=tm) (h2:asd<=65535) (HB:Hid (∀w,Calls Tryz.prog 164 #[VU pt,VU 32] w fun e w'=>e=.returned (.bool gl)∧w'=w)) (HGD:Hid (∀w,Calls Tryz.prog z0 #[VU pt,VI lv] w fun e w'=>e=.returned (.bool true)∧w'=w)),Calls Tryz.prog z1 #[.agg #[.bool true,VI lv,VU tg,VU asd,.bool gl,VU pt]] w fun e w'=>e=.returned (.tuple #[dy ⟨true,lv,tg,asd,gl,pt⟩,.bool true])∧Bw w w'
theorem yv:uM 240 136∧uM 241 138:=by
 refine ⟨?_,?_⟩;have mL:Hid True:=trivial
 rotate_left
 have mP:Hid True:=trivial
 rotate_left
 all_goals
  intro lv tg asd pt tm gl w HKL HTM h h2 HB HGD;have hne2:(gl != gl)=false:=by simp
  first
   | (replace mL:=mL;have hm:=jG pt)
   | (replace mP:=mP;have hm:=jH pt)
  first
   | (replace mL:=mL;go_enter Tryz.func136,Tryz.ntmps136)
   | (replace mP:=mP;go_enter Tryz.func138,Tryz.ntmps138)
  go_wp2;go_quiet (first
   | (go_at_call 162;exact Calls.quiet_of_same (HKL.out _))
   | (go_at_call 163;exact Calls.quiet_of_same (HTM.out _)))
  first
   | (replace mL:=mL;obtain ⟨v2,e2,P1,P2,B1,S1⟩:=nl w #[.bool true,VI lv,VU tg,VU asd,.bool gl,VU pt] 127 #[VI 0,VU 0,VU 0,.bool false,.bool false,VU 0] 246 nq)
   | (replace mP:=mP;obtain ⟨v2,e2,P1,P2,B1,S1⟩:=nl w #[.bool true,VI lv,VU tg,VU asd,.bool gl,VU pt] 127 #[VI 0,VU 0,VU 0,.bool false,.bool false,VU 0] 251 nq)
  rw [e2];clear e2;obtain ⟨⟨x0,x1,x2,x3,x4,x5⟩,_⟩:=iY P1.out;obtain ⟨⟨y0,y1,y2,y3,y4,y5⟩,z0,z1,z2,z3,z4,z5⟩:=iY P2.out;have ne1:v2.heap.size≠w.heap.size:=by omega
  have ne2:v2.heap.size≠w.heap.size+1:=by omega
  have ne3:w.heap.size<v2.heap.size:=by omega
  have ne4:w.heap.size+1<v2.heap.size:=by omega
  clear HKL HTM;go_wp2_with fail;first
   | (replace mL:=mL;go_quiet (first
          | (go_at_call 164;exact Calls.quiet_of_same (HB.out _))
          | (go_at_call 240;exact Calls.quiet_of_same (HGD.out _))))
   | (replace mP:=mP;go_quiet (first
          | (go_at_call 164;exact Calls.quiet_of_same (HB.out _))
          | (go_at_call 241;exact Calls.quiet_of_same (HGD.out _))))
  go_wp2_with fail;first
   | (replace mL:=mL;exact bodyPost_ret (v:=.tuple #[dy ⟨true,lv,tg,asd,gl,pt⟩,.bool true]) (by simp [results,Tryz.results136,go_sem,dy,y0,y1,y2,y3,y4,y5,ne4]) rfl ⟨rfl,(jO (below_drewN B1 nq) (by omega) _ _ _ _ _ _).alloc (by simp;omega) _⟩)
   | (replace mP:=mP;exact bodyPost_ret (v:=.tuple #[dy ⟨true,lv,tg,asd,gl,pt⟩,.bool true]) (by simp [results,Tryz.results138,go_sem,dy,y0,y1,y2,y3,y4,y5,ne4]) rfl ⟨rfl,(jO (below_drewN B1 nq) (by omega) _ _ _ _ _ _).alloc (by simp;omega) _⟩)
def pT (z0:Nat) (z1:Bool):Prop:=∀(x:EntM) (w:World) (hx:fq x),Calls Tryz.prog z0 #[nX x] w fun e w'=>e=.returned (.tuple #[dy (if aZ x z1=true then x else cH),.bool (aZ x z1)])∧Bw w w'
theorem re:pT 136 false∧pT 138 true:=by
 refine ⟨?_,?_⟩;have mL:Hid True:=trivial
 rotate_left
 have mP:Hid True:=trivial
 rotate_left
 all_goals
  intro x w hx;obtain ⟨v,lv,tg,asd,gl,pt⟩:=x;obtain ⟨⟨a1,a2⟩,⟨b1,b2⟩,⟨c1,c2⟩,d1,d2⟩:=hx;simp only at a1 a2 b1 b2 c1 c2 d1 d2;unfold nX;simp only;cases v
  ·first
    | (replace mL:=mL;rw [show aZ ⟨false,lv,tg,asd,gl,pt⟩ false=false by simp [aZ]])
    | (replace mP:=mP;rw [show aZ ⟨false,lv,tg,asd,gl,pt⟩ true=false by simp [aZ]])
   first
    | (replace mL:=mL;exact Aq.1 lv tg asd pt 0 gl w)
    | (replace mP:=mP;exact Aq.2 lv tg asd pt 0 gl w)
  by_cases h0:¬(0<=lv∧lv<=2)
  ·first
    | (replace mL:=mL;rw [show aZ ⟨true,lv,tg,asd,gl,pt⟩ false=false by simp [aZ];omega])
    | (replace mP:=mP;rw [show aZ ⟨true,lv,tg,asd,gl,pt⟩ true=false by simp [aZ];omega])
   first
    | (replace mL:=mL;exact Ar.1 lv tg asd pt 0 gl w (fun w=>by
         have:=dJ lv w
         rw [show decide (0<=lv∧lv<=2)=false by simpa using h0] at this
         exact this))
    | (replace mP:=mP;exact Ar.2 lv tg asd pt 0 gl w (fun w=>by
         have:=dJ lv w
         rw [show decide (0<=lv∧lv<=2)=false by simpa using h0] at this
         exact this))
  have h0':0<=lv∧lv<=2:=Decidable.not_not.1 h0;have HKL:Hid (∀w,Calls Tryz.prog 162 #[VI lv] w fun e w'=>e=.returned (.bool true)∧w'=w):=fun w=>by
   have:=dJ lv w;rw [show decide (0<=lv∧lv<=2)=true by simpa using h0'] at this;exact this
  obtain ⟨tm,htm⟩:∃tm,mh lv-1=tm:=⟨_,rfl⟩;have HTM:Hid (∀w,Calls Tryz.prog 163 #[VI lv] w fun e w'=>e=.returned (VU tm)∧w'=w):=fun w=>by
   have:=kO lv w (by omega);rw [htm] at this;exact this
  by_cases h1:¬(tg<=tm)
  ·first
    | (replace mL:=mL;rw [show aZ ⟨true,lv,tg,asd,gl,pt⟩ false=false by simp [aZ];omega])
    | (replace mP:=mP;rw [show aZ ⟨true,lv,tg,asd,gl,pt⟩ true=false by simp [aZ];omega])
   first
    | (replace mL:=mL;exact As.1 lv tg asd pt tm gl w HKL HTM h1)
    | (replace mP:=mP;exact As.2 lv tg asd pt tm gl w HKL HTM h1)
  have h1':tg<=tm:=Decidable.not_not.1 h1;by_cases h2:¬(asd<=65535)
  ·first
    | (replace mL:=mL;rw [show aZ ⟨true,lv,tg,asd,gl,pt⟩ false=false by simp [aZ];omega])
    | (replace mP:=mP;rw [show aZ ⟨true,lv,tg,asd,gl,pt⟩ true=false by simp [aZ];omega])
   first
    | (replace mL:=mL;exact At.1 lv tg asd pt tm gl w HKL HTM h1' h2)
    | (replace mP:=mP;exact At.2 lv tg asd pt tm gl w HKL HTM h1' h2)
  have h2':asd<=65535:=Decidable.not_not.1 h2;first
   | (replace mL:=mL;have hgood:aZ ⟨true,lv,tg,asd,gl,pt⟩ false=((gl == bX pt 32) && (bH pt lv == 2)):=by
        simp only [aZ,iT]
        simp [h0'.1,h0'.2,h2',show tg<mh lv by omega])
   | (replace mP:=mP;have hgood:aZ ⟨true,lv,tg,asd,gl,pt⟩ true=((gl == bX pt 32) && (bH pt lv == 1)):=by
        simp only [aZ,iT]
        simp [h0'.1,h0'.2,h2',show tg<mh lv by omega])
  rw [hgood];obtain ⟨g5,hg5⟩:∃g5,bX pt 32=g5:=⟨_,rfl⟩;first
   | (replace mL:=mL;obtain ⟨gd,hgd⟩:∃gd,(bH pt lv == 2)=gd:=⟨_,rfl⟩)
   | (replace mP:=mP;obtain ⟨gd,hgd⟩:∃gd,(bH pt lv == 1)=gd:=⟨_,rfl⟩)
  have HB:Hid (∀w,Calls Tryz.prog 164 #[VU pt,VU 32] w fun e w'=>e=.returned (.bool g5)∧w'=w):=fun w=>by
   have:=dR pt 32 w;rw [dX 5 pt 32 rfl (by omega) d1 d2,hg5] at this;exact this
  first
   | (replace mL:=mL;have HGD:Hid (∀w,Calls Tryz.prog 240 #[VU pt,VI lv] w fun e w'=>e=.returned (.bool gd)∧w'=w):=fun w=>by
        have:=zm pt lv w d1 d2
        rw [hgd] at this
        exact this)
   | (replace mP:=mP;have HGD:Hid (∀w,Calls Tryz.prog 241 #[VU pt,VI lv] w fun e w'=>e=.returned (.bool gd)∧w'=w):=fun w=>by
        have:=zn pt lv w d1 d2
        rw [hgd] at this
        exact this)
  rw [hg5,hgd];cases hq:(gl == g5)
  ·first
    | (replace mL:=mL;exact Au.1 lv tg asd pt tm gl g5 w HKL HTM h1' h2' HB hq)
    | (replace mP:=mP;exact Au.2 lv tg asd pt tm gl g5 w HKL HTM h1' h2' HB hq)
  ·have hq':gl=g5:=by simpa using hq
   subst hq';cases gd
   ·first
     | (replace mL:=mL;exact Av.1 lv tg asd pt tm gl w HKL HTM h1' h2' HB HGD)
     | (replace mP:=mP;exact Av.2 lv tg asd pt tm gl w HKL HTM h1' h2' HB HGD)
   ·first
     | (replace mL:=mL;exact yv.1 lv tg asd pt tm gl w HKL HTM h1' h2' HB HGD)
     | (replace mP:=mP;exact yv.2 lv tg asd pt tm gl w HKL HTM h1' h2' HB HGD)
end Go.Proofs.YtkenjknmfhoppaaGreat
