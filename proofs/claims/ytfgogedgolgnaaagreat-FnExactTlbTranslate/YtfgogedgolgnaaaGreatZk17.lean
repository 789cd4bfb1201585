import Derived.Test.YtfgogedgolgnaaaGreatZk16
import Derived.Laws.CopyRow
namespace Go.Proofs.YtfgogedgolgnaaaGreat
open Go.RowKit
set_option linter.unusedVariables false
set_option maxHeartbeats 6400000
set_option maxRecDepth 20000
theorem dg (x:Int) (w:World):(method 300 122 (.int .u64 x) "loop.example/s0051/impl.goodAt").run Tryz.prog w=.ok (143,.int .u64 x) w:=by kernel_rfl
theorem lX (lv tg asd pt tm:Int) (gl:Bool) (w:World):
 Calls Tryz.prog 82 #[.agg #[.bool false,.int .i64 lv,.int .u64 tg,.int .u64 asd,.bool gl,.int .u64 pt]] w fun e w'=>e=.returned (.tuple #[aW aZ,.bool false])∧Below w.heap.size w w':=by
 have n1:=((Below.refl w.heap.size w).alloc (Nat.le_refl _) (Obj.cells #[.bool false,.int .i64 lv,.int .u64 tg,.int .u64 asd,.bool gl,.int .u64 pt] 74)).alloc (by simp) (Obj.cells #[.int .i64 0,.int .u64 0,.int .u64 0,.bool false,.bool false,.int .u64 0] 151);go_enter Tryz.func82,Tryz.ntmps82;go_wp2_with fail;go_quiet (fail);go_wp2_with fail;exact bodyPost_ret (v:=.tuple #[aW aZ,.bool false]) (by simp [results,Tryz.results82,go_sem,aW,aZ]) rfl ⟨rfl,di (below_drewN n1 nq) (by omega) _ _ _ _ _ _⟩
theorem lY (lv tg asd pt tm:Int) (gl:Bool) (w:World) (HKL:Hid (∀w,Calls Tryz.prog 98 #[.int .i64 lv] w fun e w'=>e=.returned (.bool false)∧w'=w)):
 Calls Tryz.prog 82 #[.agg #[.bool true,.int .i64 lv,.int .u64 tg,.int .u64 asd,.bool gl,.int .u64 pt]] w fun e w'=>e=.returned (.tuple #[aW aZ,.bool false])∧Below w.heap.size w w':=by
 have n1:=((Below.refl w.heap.size w).alloc (Nat.le_refl _) (Obj.cells #[.bool true,.int .i64 lv,.int .u64 tg,.int .u64 asd,.bool gl,.int .u64 pt] 74)).alloc (by simp) (Obj.cells #[.int .i64 0,.int .u64 0,.int .u64 0,.bool false,.bool false,.int .u64 0] 151);go_enter Tryz.func82,Tryz.ntmps82;go_wp2_with fail;go_quiet ((go_at_call 98;exact Calls.quiet_of_same (HKL.out _)));go_wp2_with fail;exact bodyPost_ret (v:=.tuple #[aW aZ,.bool false]) (by simp [results,Tryz.results82,go_sem,aW,aZ]) rfl ⟨rfl,di (below_drewN n1 nq) (by omega) _ _ _ _ _ _⟩
theorem ma (lv tg asd pt tm:Int) (gl:Bool) (w:World) (HKL:Hid (∀w,Calls Tryz.prog 98 #[.int .i64 lv] w fun e w'=>e=.returned (.bool true)∧w'=w)) (HTM:Hid (∀w,Calls Tryz.prog 99 #[.int .i64 lv] w fun e w'=>e=.returned (.int .u64 tm)∧w'=w)) (h:¬(tg<=tm)):
 Calls Tryz.prog 82 #[.agg #[.bool true,.int .i64 lv,.int .u64 tg,.int .u64 asd,.bool gl,.int .u64 pt]] w fun e w'=>e=.returned (.tuple #[aW aZ,.bool false])∧Below w.heap.size w w':=by
 have n1:=((Below.refl w.heap.size w).alloc (Nat.le_refl _) (Obj.cells #[.bool true,.int .i64 lv,.int .u64 tg,.int .u64 asd,.bool gl,.int .u64 pt] 74)).alloc (by simp) (Obj.cells #[.int .i64 0,.int .u64 0,.int .u64 0,.bool false,.bool false,.int .u64 0] 151);go_enter Tryz.func82,Tryz.ntmps82;go_wp2_with fail;go_quiet (first
  | (go_at_call 98;exact Calls.quiet_of_same (HKL.out _))
  | (go_at_call 99;exact Calls.quiet_of_same (HTM.out _)))
 go_wp2_with fail;exact bodyPost_ret (v:=.tuple #[aW aZ,.bool false]) (by simp [results,Tryz.results82,go_sem,aW,aZ]) rfl ⟨rfl,di (below_drewN n1 nq) (by omega) _ _ _ _ _ _⟩
theorem mb (lv tg asd pt tm:Int) (gl:Bool) (w:World) (HKL:Hid (∀w,Calls Tryz.prog 98 #[.int .i64 lv] w fun e w'=>e=.returned (.bool true)∧w'=w)) (HTM:Hid (∀w,Calls Tryz.prog 99 #[.int .i64 lv] w fun e w'=>e=.returned (.int .u64 tm)∧w'=w)) (h:tg<=tm) (h2:¬(asd<=65535)):
 Calls Tryz.prog 82 #[.agg #[.bool true,.int .i64 lv,.int .u64 tg,.int .u64 asd,.bool gl,.int .u64 pt]] w fun e w'=>e=.returned (.tuple #[aW aZ,.bool false])∧Below w.heap.size w w':=by
 have n1:=((Below.refl w.heap.size w).alloc (Nat.le_refl _) (Obj.cells #[.bool true,.int .i64 lv,.int .u64 tg,.int .u64 asd,.bool gl,.int .u64 pt] 74)).alloc (by simp) (Obj.cells #[.int .i64 0,.int .u64 0,.int .u64 0,.bool false,.bool false,.int .u64 0] 151);go_enter Tryz.func82,Tryz.ntmps82;go_wp2_with fail;go_quiet (first
  | (go_at_call 98;exact Calls.quiet_of_same (HKL.out _))
  | (go_at_call 99;exact Calls.quiet_of_same (HTM.out _)))
 go_wp2_with fail;exact bodyPost_ret (v:=.tuple #[aW aZ,.bool false]) (by simp [results,Tryz.results82,go_sem,aW,aZ]) rfl ⟨rfl,di (below_drewN n1 nq) (by omega) _ _ _ _ _ _⟩
theorem mc (lv tg asd pt tm:Int) (gl g5:Bool) (w:World) (HKL:Hid (∀w,Calls Tryz.prog 98 #[.int .i64 lv] w fun e w'=>e=.returned (.bool true)∧w'=w)) (HTM:Hid (∀w,Calls Tryz.prog 99 #[.int .i64 lv] w fun e w'=>e=.returned (.int .u64 tm)∧w'=w)) (h:tg<=tm) (h2:asd<=65535) (HB:Hid (∀w,Calls Tryz.prog 100 #[.int .u64 pt,.int .u64 32] w fun e w'=>e=.returned (.bool g5)∧w'=w)) (hne:(gl == g5)=false):
 Calls Tryz.prog 82 #[.agg #[.bool true,.int .i64 lv,.int .u64 tg,.int .u64 asd,.bool gl,.int .u64 pt]] w fun e w'=>e=.returned (.tuple #[aW aZ,.bool false])∧Below w.heap.size w w':=by
 have hne2:(gl != g5)=true:=by simp [bne,hne]
 have H1:Hid (∀k,(((w.alloc (Obj.cells #[.bool true,.int .i64 lv,.int .u64 tg,.int .u64 asd,.bool gl,.int .u64 pt] 74)).alloc (Obj.cells #[.int .i64 0,.int .u64 0,.int .u64 0,.bool false,.bool false,.int .u64 0] 151)).drewN k).heap[w.heap.size]?=some (.cells #[.bool true,.int .i64 lv,.int .u64 tg,.int .u64 asd,.bool gl,.int .u64 pt] 74 (0,0))):=by
  intro k;show ((w.alloc (Obj.cells #[.bool true,.int .i64 lv,.int .u64 tg,.int .u64 asd,.bool gl,.int .u64 pt] 74)).alloc (Obj.cells #[.int .i64 0,.int .u64 0,.int .u64 0,.bool false,.bool false,.int .u64 0] 151)).heap[w.heap.size]?=_;rw [heap_alloc_old _ _ (by simp)];exact heap_alloc_new w _
 have H2:Hid (∀k,(((w.alloc (Obj.cells #[.bool true,.int .i64 lv,.int .u64 tg,.int .u64 asd,.bool gl,.int .u64 pt] 74)).alloc (Obj.cells #[.int .i64 0,.int .u64 0,.int .u64 0,.bool false,.bool false,.int .u64 0] 151)).drewN k).heap[w.heap.size+1]?=some (.cells #[.int .i64 0,.int .u64 0,.int .u64 0,.bool false,.bool false,.int .u64 0] 151 (0,0))):=by
  intro k;have:=heap_alloc_new (w.alloc (Obj.cells #[.bool true,.int .i64 lv,.int .u64 tg,.int .u64 asd,.bool gl,.int .u64 pt] 74)) (Obj.cells #[.int .i64 0,.int .u64 0,.int .u64 0,.bool false,.bool false,.int .u64 0] 151);simp only [World.size_alloc] at this;exact this
 have n1:=((Below.refl w.heap.size w).alloc (Nat.le_refl _) (Obj.cells #[.bool true,.int .i64 lv,.int .u64 tg,.int .u64 asd,.bool gl,.int .u64 pt] 74)).alloc (by simp) (Obj.cells #[.int .i64 0,.int .u64 0,.int .u64 0,.bool false,.bool false,.int .u64 0] 151);have HW:Hid (∀k,Below w.heap.size w (((w.alloc (Obj.cells #[.bool true,.int .i64 lv,.int .u64 tg,.int .u64 asd,.bool gl,.int .u64 pt] 74)).alloc (Obj.cells #[.int .i64 0,.int .u64 0,.int .u64 0,.bool false,.bool false,.int .u64 0] 151)).drewN k)):=fun k=>below_drewN n1 k;have HS:Hid (∀k,(((w.alloc (Obj.cells #[.bool true,.int .i64 lv,.int .u64 tg,.int .u64 asd,.bool gl,.int .u64 pt] 74)).alloc (Obj.cells #[.int .i64 0,.int .u64 0,.int .u64 0,.bool false,.bool false,.int .u64 0] 151)).drewN k).heap.size=w.heap.size+2):=fun k=>by show ((w.alloc (Obj.cells #[.bool true,.int .i64 lv,.int .u64 tg,.int .u64 asd,.bool gl,.int .u64 pt] 74)).alloc (Obj.cells #[.int .i64 0,.int .u64 0,.int .u64 0,.bool false,.bool false,.int .u64 0] 151)).heap.size=_;simp
 have hm:=dg pt;clear n1;go_enter Tryz.func82,Tryz.ntmps82;go_wp2_with fail;go_quiet (first
  | (go_at_call 98;exact Calls.quiet_of_same (HKL.out _))
  | (go_at_call 99;exact Calls.quiet_of_same (HTM.out _)))
 have K1:=H1.out nq;have K2:=H2.out nq;have B1:=HW.out nq;have S1:=HS.out nq;generalize ((w.alloc (Obj.cells #[.bool true,.int .i64 lv,.int .u64 tg,.int .u64 asd,.bool gl,.int .u64 pt] 74)).alloc (Obj.cells #[.int .i64 0,.int .u64 0,.int .u64 0,.bool false,.bool false,.int .u64 0] 151)).drewN nq=v2 at K1 K2 B1 S1 |-;have P1:Hid _:=K1;have P2:Hid _:=K2;clear H1 H2 HW HS K1 K2;obtain ⟨⟨x0,x1,x2,x3,x4,x5⟩,_⟩:=bG P1.out;obtain ⟨⟨y0,y1,y2,y3,y4,y5⟩,z0,z1,z2,z3,z4,z5⟩:=bG P2.out;have ne1:v2.heap.size≠w.heap.size:=by omega
 have ne2:v2.heap.size≠w.heap.size+1:=by omega
 have ne3:w.heap.size<v2.heap.size:=by omega
 have ne4:w.heap.size+1<v2.heap.size:=by omega
 clear HKL HTM;go_wp2_with fail;go_quiet ((go_at_call 100;exact Calls.quiet_of_same (HB.out _)));go_wp2_with fail;exact bodyPost_ret (v:=.tuple #[aW aZ,.bool false]) (by simp [results,Tryz.results82,go_sem,aW,aZ,y0,y1,y2,y3,y4,y5]) rfl ⟨rfl,di (below_drewN B1 _) (by omega) _ _ _ _ _ _⟩
theorem md (lv tg asd pt tm:Int) (gl:Bool) (w:World) (HKL:Hid (∀w,Calls Tryz.prog 98 #[.int .i64 lv] w fun e w'=>e=.returned (.bool true)∧w'=w)) (HTM:Hid (∀w,Calls Tryz.prog 99 #[.int .i64 lv] w fun e w'=>e=.returned (.int .u64 tm)∧w'=w)) (h:tg<=tm) (h2:asd<=65535) (HB:Hid (∀w,Calls Tryz.prog 100 #[.int .u64 pt,.int .u64 32] w fun e w'=>e=.returned (.bool gl)∧w'=w)) (HGD:Hid (∀w,Calls Tryz.prog 143 #[.int .u64 pt,.int .i64 lv] w fun e w'=>e=.returned (.bool false)∧w'=w)):
 Calls Tryz.prog 82 #[.agg #[.bool true,.int .i64 lv,.int .u64 tg,.int .u64 asd,.bool gl,.int .u64 pt]] w fun e w'=>e=.returned (.tuple #[aW aZ,.bool false])∧Below w.heap.size w w':=by
 have hne2:(gl != gl)=false:=by simp
 have H1:Hid (∀k,(((w.alloc (Obj.cells #[.bool true,.int .i64 lv,.int .u64 tg,.int .u64 asd,.bool gl,.int .u64 pt] 74)).alloc (Obj.cells #[.int .i64 0,.int .u64 0,.int .u64 0,.bool false,.bool false,.int .u64 0] 151)).drewN k).heap[w.heap.size]?=some (.cells #[.bool true,.int .i64 lv,.int .u64 tg,.int .u64 asd,.bool gl,.int .u64 pt] 74 (0,0))):=by
  intro k;show ((w.alloc (Obj.cells #[.bool true,.int .i64 lv,.int .u64 tg,.int .u64 asd,.bool gl,.int .u64 pt] 74)).alloc (Obj.cells #[.int .i64 0,.int .u64 0,.int .u64 0,.bool false,.bool false,.int .u64 0] 151)).heap[w.heap.size]?=_;rw [heap_alloc_old _ _ (by simp)];exact heap_alloc_new w _
 have H2:Hid (∀k,(((w.alloc (Obj.cells #[.bool true,.int .i64 lv,.int .u64 tg,.int .u64 asd,.bool gl,.int .u64 pt] 74)).alloc (Obj.cells #[.int .i64 0,.int .u64 0,.int .u64 0,.bool false,.bool false,.int .u64 0] 151)).drewN k).heap[w.heap.size+1]?=some (.cells #[.int .i64 0,.int .u64 0,.int .u64 0,.bool false,.bool false,.int .u64 0] 151 (0,0))):=by
  intro k;have:=heap_alloc_new (w.alloc (Obj.cells #[.bool true,.int .i64 lv,.int .u64 tg,.int .u64 asd,.bool gl,.int .u64 pt] 74)) (Obj.cells #[.int .i64 0,.int .u64 0,.int .u64 0,.bool false,.bool false,.int .u64 0] 151);simp only [World.size_alloc] at this;exact this
 have n1:=((Below.refl w.heap.size w).alloc (Nat.le_refl _) (Obj.cells #[.bool true,.int .i64 lv,.int .u64 tg,.int .u64 asd,.bool gl,.int .u64 pt] 74)).alloc (by simp) (Obj.cells #[.int .i64 0,.int .u64 0,.int .u64 0,.bool false,.bool false,.int .u64 0] 151);have HW:Hid (∀k,Below w.heap.size w (((w.alloc (Obj.cells #[.bool true,.int .i64 lv,.int .u64 tg,.int .u64 asd,.bool gl,.int .u64 pt] 74)).alloc (Obj.cells #[.int .i64 0,.int .u64 0,.int .u64 0,.bool false,.bool false,.int .u64 0] 151)).drewN k)):=fun k=>below_drewN n1 k;have HS:Hid (∀k,(((w.alloc (Obj.cells #[.bool true,.int .i64 lv,.int .u64 tg,.int .u64 asd,.bool gl,.int .u64 pt] 74)).alloc (Obj.cells #[.int .i64 0,.int .u64 0,.int .u64 0,.bool false,.bool false,.int .u64 0] 151)).drewN k).heap.size=w.heap.size+2):=fun k=>by show ((w.alloc (Obj.cells #[.bool true,.int .i64 lv,.int .u64 tg,.int .u64 asd,.bool gl,.int .u64 pt] 74)).alloc (Obj.cells #[.int .i64 0,.int .u64 0,.int .u64 0,.bool false,.bool false,.int .u64 0] 151)).heap.size=_;simp
 have hm:=dg pt;clear n1;go_enter Tryz.func82,Tryz.ntmps82;go_wp2_with fail;go_quiet (first
  | (go_at_call 98;exact Calls.quiet_of_same (HKL.out _))
  | (go_at_call 99;exact Calls.quiet_of_same (HTM.out _)))
 have K1:=H1.out nq;have K2:=H2.out nq;have B1:=HW.out nq;have S1:=HS.out nq;generalize ((w.alloc (Obj.cells #[.bool true,.int .i64 lv,.int .u64 tg,.int .u64 asd,.bool gl,.int .u64 pt] 74)).alloc (Obj.cells #[.int .i64 0,.int .u64 0,.int .u64 0,.bool false,.bool false,.int .u64 0] 151)).drewN nq=v2 at K1 K2 B1 S1 |-;have P1:Hid _:=K1;have P2:Hid _:=K2;clear H1 H2 HW HS K1 K2;obtain ⟨⟨x0,x1,x2,x3,x4,x5⟩,_⟩:=bG P1.out;obtain ⟨⟨y0,y1,y2,y3,y4,y5⟩,z0,z1,z2,z3,z4,z5⟩:=bG P2.out;have ne1:v2.heap.size≠w.heap.size:=by omega
 have ne2:v2.heap.size≠w.heap.size+1:=by omega
 have ne3:w.heap.size<v2.heap.size:=by omega
 have ne4:w.heap.size+1<v2.heap.size:=by omega
 clear HKL HTM;go_wp2_with fail;go_quiet (first
  | (go_at_call 100;exact Calls.quiet_of_same (HB.out _))
  | (go_at_call 143;exact Calls.quiet_of_same (HGD.out _)))
 go_wp2_with fail;exact bodyPost_ret (v:=.tuple #[aW aZ,.bool false]) (by simp [results,Tryz.results82,go_sem,aW,aZ,y0,y1,y2,y3,y4,y5]) rfl ⟨rfl,di (below_drewN B1 _) (by omega) _ _ _ _ _ _⟩
theorem lz (lv tg asd pt tm:Int) (gl:Bool) (w:World) (HKL:Hid (∀w,Calls Tryz.prog 98 #[.int .i64 lv] w fun e w'=>e=.returned (.bool true)∧w'=w)) (HTM:Hid (∀w,Calls Tryz.prog 99 #[.int .i64 lv] w fun e w'=>e=.returned (.int .u64 tm)∧w'=w)) (h:tg<=tm) (h2:asd<=65535) (HB:Hid (∀w,Calls Tryz.prog 100 #[.int .u64 pt,.int .u64 32] w fun e w'=>e=.returned (.bool gl)∧w'=w)) (HGD:Hid (∀w,Calls Tryz.prog 143 #[.int .u64 pt,.int .i64 lv] w fun e w'=>e=.returned (.bool true)∧w'=w)):
 Calls Tryz.prog 82 #[.agg #[.bool true,.int .i64 lv,.int .u64 tg,.int .u64 asd,.bool gl,.int .u64 pt]] w fun e w'=>e=.returned (.tuple #[aW ⟨true,lv,tg,asd,gl,pt⟩,.bool true])∧Below w.heap.size w w':=by
 have hne2:(gl != gl)=false:=by simp
 have H1:Hid (∀k,(((w.alloc (Obj.cells #[.bool true,.int .i64 lv,.int .u64 tg,.int .u64 asd,.bool gl,.int .u64 pt] 74)).alloc (Obj.cells #[.int .i64 0,.int .u64 0,.int .u64 0,.bool false,.bool false,.int .u64 0] 151)).drewN k).heap[w.heap.size]?=some (.cells #[.bool true,.int .i64 lv,.int .u64 tg,.int .u64 asd,.bool gl,.int .u64 pt] 74 (0,0))):=by
  intro k;show ((w.alloc (Obj.cells #[.bool true,.int .i64 lv,.int .u64 tg,.int .u64 asd,.bool gl,.int .u64 pt] 74)).alloc (Obj.cells #[.int .i64 0,.int .u64 0,.int .u64 0,.bool false,.bool false,.int .u64 0] 151)).heap[w.heap.size]?=_;rw [heap_alloc_old _ _ (by simp)];exact heap_alloc_new w _
 have H2:Hid (∀k,(((w.alloc (Obj.cells #[.bool true,.int .i64 lv,.int .u64 tg,.int .u64 asd,.bool gl,.int .u64 pt] 74)).alloc (Obj.cells #[.int .i64 0,.int .u64 0,.int .u64 0,.bool false,.bool false,.int .u64 0] 151)).drewN k).heap[w.heap.size+1]?=some (.cells #[.int .i64 0,.int .u64 0,.int .u64 0,.bool false,.bool false,.int .u64 0] 151 (0,0))):=by
  intro k;have:=heap_alloc_new (w.alloc (Obj.cells #[.bool true,.int .i64 lv,.int .u64 tg,.int .u64 asd,.bool gl,.int .u64 pt] 74)) (Obj.cells #[.int .i64 0,.int .u64 0,.int .u64 0,.bool false,.bool false,.int .u64 0] 151);simp only [World.size_alloc] at this;exact this
 have n1:=((Below.refl w.heap.size w).alloc (Nat.le_refl _) (Obj.cells #[.bool true,.int .i64 lv,.int .u64 tg,.int .u64 asd,.bool gl,.int .u64 pt] 74)).alloc (by simp) (Obj.cells #[.int .i64 0,.int .u64 0,.int .u64 0,.bool false,.bool false,.int .u64 0] 151);have HW:Hid (∀k,Below w.heap.size w (((w.alloc (Obj.cells #[.bool true,.int .i64 lv,.int .u64 tg,.int .u64 asd,.bool gl,.int .u64 pt] 74)).alloc (Obj.cells #[.int .i64 0,.int .u64 0,.int .u64 0,.bool false,.bool false,.int .u64 0] 151)).drewN k)):=fun k=>below_drewN n1 k;have HS:Hid (∀k,(((w.alloc (Obj.cells #[.bool true,.int .i64 lv,.int .u64 tg,.int .u64 asd,.bool gl,.int .u64 pt] 74)).alloc (Obj.cells #[.int .i64 0,.int .u64 0,.int .u64 0,.bool false,.bool false,.int .u64 0] 151)).drewN k).heap.size=w.heap.size+2):=fun k=>by show ((w.alloc (Obj.cells #[.bool true,.int .i64 lv,.int .u64 tg,.int .u64 asd,.bool gl,.int .u64 pt] 74)).alloc (Obj.cells #[.int .i64 0,.int .u64 0,.int .u64 0,.bool false,.bool false,.int .u64 0] 151)).heap.size=_;simp
 have hm:=dg pt;clear n1;go_enter Tryz.func82,Tryz.ntmps82;go_wp2_with fail;go_quiet (first
  | (go_at_call 98;exact Calls.quiet_of_same (HKL.out _))
  | (go_at_call 99;exact Calls.quiet_of_same (HTM.out _)))
 have K1:=H1.out nq;have K2:=H2.out nq;have B1:=HW.out nq;have S1:=HS.out nq;generalize ((w.alloc (Obj.cells #[.bool true,.int .i64 lv,.int .u64 tg,.int .u64 asd,.bool gl,.int .u64 pt] 74)).alloc (Obj.cells #[.int .i64 0,.int .u64 0,.int .u64 0,.bool false,.bool false,.int .u64 0] 151)).drewN nq=v2 at K1 K2 B1 S1 |-;have P1:Hid _:=K1;have P2:Hid _:=K2;clear H1 H2 HW HS K1 K2;obtain ⟨⟨x0,x1,x2,x3,x4,x5⟩,_⟩:=bG P1.out;obtain ⟨⟨y0,y1,y2,y3,y4,y5⟩,z0,z1,z2,z3,z4,z5⟩:=bG P2.out;have ne1:v2.heap.size≠w.heap.size:=by omega
 have ne2:v2.heap.size≠w.heap.size+1:=by omega
 have ne3:w.heap.size<v2.heap.size:=by omega
 have ne4:w.heap.size+1<v2.heap.size:=by omega
 clear HKL HTM;go_wp2_with fail;go_quiet (first
  | (go_at_call 100;exact Calls.quiet_of_same (HB.out _))
  | (go_at_call 143;exact Calls.quiet_of_same (HGD.out _)))
 go_wp2_with fail;exact bodyPost_ret (v:=.tuple #[aW ⟨true,lv,tg,asd,gl,pt⟩,.bool true]) (by simp [results,Tryz.results82,go_sem,aW,y0,y1,y2,y3,y4,y5,ne4]) rfl ⟨rfl,(di (below_drewN B1 nq) (by omega) _ _ _ _ _ _).alloc (by simp;omega) _⟩
theorem jJ (x:EntM) (w:World) (hx:bf x):
 Calls Tryz.prog 82 #[cV x] w fun e w'=>e=.returned (.tuple #[aW (if ay x true=true then x else aZ),.bool (ay x true)])∧Below w.heap.size w w':=by
 obtain ⟨v,lv,tg,asd,gl,pt⟩:=x;obtain ⟨⟨a1,a2⟩,⟨b1,b2⟩,⟨c1,c2⟩,d1,d2⟩:=hx;simp only at a1 a2 b1 b2 c1 c2 d1 d2;unfold cV;simp only;cases v
 ·rw [show ay ⟨false,lv,tg,asd,gl,pt⟩ true=false by simp [ay]];exact lX lv tg asd pt 0 gl w
 by_cases h0:¬(0<=lv∧lv<=2)
 ·rw [show ay ⟨true,lv,tg,asd,gl,pt⟩ true=false by simp [ay];omega];exact lY lv tg asd pt 0 gl w (fun w=>by
   have:=ba lv w;rw [show decide (0<=lv∧lv<=2)=false by simpa using h0] at this;exact this)
 have h0':0<=lv∧lv<=2:=Decidable.not_not.1 h0;have HKL:Hid (∀w,Calls Tryz.prog 98 #[.int .i64 lv] w fun e w'=>e=.returned (.bool true)∧w'=w):=fun w=>by
  have:=ba lv w;rw [show decide (0<=lv∧lv<=2)=true by simpa using h0'] at this;exact this
 obtain ⟨tm,htm⟩:∃tm,dN lv-1=tm:=⟨_,rfl⟩;have HTM:Hid (∀w,Calls Tryz.prog 99 #[.int .i64 lv] w fun e w'=>e=.returned (.int .u64 tm)∧w'=w):=fun w=>by
  have:=db lv w (by omega);rw [htm] at this;exact this
 by_cases h1:¬(tg<=tm)
 ·rw [show ay ⟨true,lv,tg,asd,gl,pt⟩ true=false by simp [ay];omega];exact ma lv tg asd pt tm gl w HKL HTM h1
 have h1':tg<=tm:=Decidable.not_not.1 h1;by_cases h2:¬(asd<=65535)
 ·rw [show ay ⟨true,lv,tg,asd,gl,pt⟩ true=false by simp [ay];omega];exact mb lv tg asd pt tm gl w HKL HTM h1' h2
 have h2':asd<=65535:=Decidable.not_not.1 h2;have hgood:ay ⟨true,lv,tg,asd,gl,pt⟩ true=((gl == aI pt 32) && (aH pt lv == 1)):=by
  simp only [ay,cM];simp [h0'.1,h0'.2,h2',show tg<dN lv by omega]
 rw [hgood];obtain ⟨g5,hg5⟩:∃g5,aI pt 32=g5:=⟨_,rfl⟩;obtain ⟨gd,hgd⟩:∃gd,(aH pt lv == 1)=gd:=⟨_,rfl⟩;have HB:Hid (∀w,Calls Tryz.prog 100 #[.int .u64 pt,.int .u64 32] w fun e w'=>e=.returned (.bool g5)∧w'=w):=fun w=>by
  have:=bi pt 32 w;rw [bs 5 pt 32 rfl (by omega) d1 d2,hg5] at this;exact this
 have HGD:Hid (∀w,Calls Tryz.prog 143 #[.int .u64 pt,.int .i64 lv] w fun e w'=>e=.returned (.bool gd)∧w'=w):=fun w=>by
  have:=jS pt lv w d1 d2;rw [hgd] at this;exact this
 rw [hg5,hgd];cases hq:(gl == g5)
 ·exact mc lv tg asd pt tm gl g5 w HKL HTM h1' h2' HB hq
 ·have hq':gl=g5:=by simpa using hq
  subst hq';cases gd
  ·exact md lv tg asd pt tm gl w HKL HTM h1' h2' HB HGD
  ·exact lz lv tg asd pt tm gl w HKL HTM h1' h2' HB HGD
theorem fq (b o:Nat) (sets tag:Int) (w:World) (hs:sets=1∨sets=2∨sets=4∨sets=8) (c0:w.cell? ⟨b,o,none⟩=some (.int .i64 sets)) (ht:0<=tag) (ht1:tag<=18446744073709551615):
 Calls Tryz.prog 83 #[.pointer (some ⟨b,o,none⟩),.int .u64 tag] w fun e w'=>e=.returned (.int .i64 (tag%sets))∧w'=w:=by
 rcases hs with rfl | rfl | rfl | rfl;all_goals
  go_enter Tryz.func83,Tryz.ntmps83;go_wp2_with fail;go_ret;exact ⟨aU (by omega),rfl⟩
theorem kK (lv tg asd va:Int) (gl:Bool) (w:World) (hl:lv=0∨lv=1∨lv=2) (hv0:0<=va) (hv1:va<=18446744073709551615):
 Calls Tryz.prog 101 #[.agg #[.int .i64 lv,.int .u64 tg,.int .u64 asd,.bool gl],.int .u64 va] w fun e w'=>e=.returned (.bool (tg == bP va lv))∧Below w.heap.size w w':=by
 have n1:=(Below.refl w.heap.size w).alloc (Nat.le_refl _) (Obj.cells #[.int .i64 lv,.int .u64 tg,.int .u64 asd,.bool gl] 134);obtain ⟨tm,htm⟩:∃tm,bP va lv=tm:=⟨_,rfl⟩;have HT:Hid (∀w,Calls Tryz.prog 85 #[.int .u64 va,.int .i64 lv] w fun e w'=>e=.returned (.int .u64 tm)∧∃n,w'=w.drewN n):=fun w=>by
  have:=iy va lv w hv0 hv1 hl;rw [htm] at this;exact this
 rw [htm];clear htm;go_enter Tryz.func101,Tryz.ntmps101;go_wp2_with fail;go_quiet ((go_at_call 85;exact Calls.quiet_of (HT.out _)));go_wp2_with fail;go_ret;exact ⟨rfl,below_drewN n1 nq⟩
theorem jI (lv tg asd va asid:Int) (gl:Bool) (w:World) (hl:lv=0∨lv=1∨lv=2) (hv0:0<=va) (hv1:va<=18446744073709551615):
 Calls Tryz.prog 86 #[.agg #[.int .i64 lv,.int .u64 tg,.int .u64 asd,.bool gl],.int .u64 va,.int .u64 asid] w fun e w'=>e=.returned (.bool ((tg == bP va lv) && (gl || asd == asid)))∧Below w.heap.size w w':=by
 have n1:=(Below.refl w.heap.size w).alloc (Nat.le_refl _) (Obj.cells #[.int .i64 lv,.int .u64 tg,.int .u64 asd,.bool gl] 134);have H1:Hid ((w.alloc (Obj.cells #[.int .i64 lv,.int .u64 tg,.int .u64 asd,.bool gl] 134)).heap[w.heap.size]?=some (.cells #[.int .i64 lv,.int .u64 tg,.int .u64 asd,.bool gl] 134 (0,0))):=heap_alloc_new w _;obtain ⟨sb,hsb⟩:∃sb,(tg == bP va lv)=sb:=⟨_,rfl⟩;have HS:Hid (∀w,Calls Tryz.prog 101 #[.agg #[.int .i64 lv,.int .u64 tg,.int .u64 asd,.bool gl],.int .u64 va] w fun e w'=>e=.returned (.bool sb)∧Below w.heap.size w w'):=fun w=>by
  have:=kK lv tg asd va gl w hl hv0 hv1;rw [hsb] at this;exact this
 rw [hsb];clear hsb;cases sb <;> cases gl;all_goals
  go_enter Tryz.func86,Tryz.ntmps86;go_wp2_with fail;generalize hv1:w.alloc _=v1 at n1 H1 |-;refine (HS.out v1).mono ?_;rintro e v2 ⟨rfl,n2⟩;have K1:=aC H1.out n2 (Array.getElem?_eq_some_iff.1 H1.out).1;obtain ⟨⟨x0,x1,x2,x3⟩,_,_,_,_⟩:=ag K1;have A2:=Below.step n1 n2 (Nat.le_refl _);go_wp2_with fail;go_ret;exact ⟨ah (by simp),A2⟩
section
attribute [local go_sem ↓] Go.wp_at_zero Go.wp_at_succ
theorem kI (b o g n:Nat) (t:TlbM) (va asid:Int) (w:World) (hn:t.es.length=n) (hn1:n<=1048576) (hv:aA t true=true) (hbl:b<w.heap.size)
 (c0:w.cell? ⟨b,o,none⟩=some (.int .i64 t.sets)) (c1:w.cell? ⟨b,o+1,none⟩=some (.int .i64 t.ways)) (c2:w.cell? ⟨b,o+2,none⟩=some (.slice (some ⟨g,0,none⟩) n n)) (hr:RowC w (some ⟨g,0,none⟩) n 6 (av t.es)) (hv0:0<=va) (hv1:va<=18446744073709551615):
 Calls Tryz.prog 102 #[.pointer (some ⟨b,o,none⟩),.int .u64 va,.int .u64 asid] w fun e w'=>e=.returned (.tuple #[.int .i64 (aD t va asid).2.1,.bool (aD t va asid).1])∧Below w.heap.size w w':=by
 obtain ⟨hs4,hw1,hw4,hnw⟩:=gc hv;have HV:Hid (aA t true=true):=hv;have HEi:Hid (cn t=true):=cX hv;have HR:Hid (RowC w (some ⟨g,0,none⟩) n 6 (av t.es)):=hr;have HN:Hid (t.es.length=n):=hn;have HNw:Hid ((n:Int)=t.sets*t.ways):=by show _=_;rw [<-hn];exact hnw
 obtain ⟨X,hX⟩:∃X,aD t va asid=X:=⟨_,rfl⟩;have HX:Hid (aD t va asid=X):=hX;rw [hX];clear hX hv hr hnw hn;obtain ⟨sets,ways,es⟩:=t;simp only at *;go_enter Tryz.func102,Tryz.ntmps102;go_wp2_with fail;go_loopw [12] (fun i wr=>∃l:Nat,l<=3∧i=.int .i64 l∧Hid (∀l':Nat,l'<l->bh va asid l' 0 es=none)∧Below w.heap.size w wr) (fun i _=>3-(intOf i).toNat)
 case atStart=>exact ⟨0,by omega,rfl,fun l' h=>absurd h (by omega),Below.refl _ _⟩
 case round=>
  obtain ⟨l,hl,rfl,HF,hb⟩:=hrel;by_cases hlt:l<3
  ·have hl3:(l:Int)=0∨(l:Int)=1∨(l:Int)=2:=by omega
   obtain ⟨tm,htm⟩:∃tm,bP va l=tm:=⟨_,rfl⟩;have htb:=dX va l hl3;rw [htm] at htb;obtain ⟨sx,hsx⟩:∃sx,tm%sets=sx:=⟨_,rfl⟩;have hsb:0<=sx∧sx<sets:=by rw [<-hsx];exact ⟨Int.emod_nonneg _ (by omega),Int.emod_lt_of_pos _ (by omega)⟩
   obtain ⟨f,hf⟩:∃f:Nat,(f:Int)=sx*ways:=⟨(sx*ways).toNat,Int.toNat_of_nonneg (Int.mul_nonneg hsb.1 (by omega))⟩;have hfn:(f:Int)+ways<=n:=by
    rw [HNw.out,hf];have:(sx+1)*ways<=sets*ways:=Int.mul_le_mul_of_nonneg_right (by omega) (by omega);rw [Int.add_mul,Int.one_mul] at this;exact this
   have HFi:Hid ((f:Int)=bP va l%sets*ways):=by show _=_;rw [htm,hsx];exact hf
   have HWm:Hid (sx*ways=(f:Int)):=hf.symm;have r0:wr.cell? ⟨b,o,none⟩=some (.int .i64 sets):=Below.cell2 hb c0 hbl;have r1:wr.cell? ⟨b,o+1,none⟩=some (.int .i64 ways):=Below.cell2 hb c1 hbl;have HTg:Hid (∀u,Calls Tryz.prog 85 #[.int .u64 va,.int .i64 l] u fun e w'=>e=.returned (.int .u64 tm)∧∃q,w'=u.drewN q):=fun u=>by
    have:=iy va l u hv0 hv1 hl3;rw [htm] at this;exact this
   have HSt:Hid (∀q,Calls Tryz.prog 83 #[.pointer (some ⟨b,o,none⟩),.int .u64 tm] (wr.drewN q) fun e w'=>e=.returned (.int .i64 sx)∧w'=wr.drewN q):=fun q=>by
    have:=fq b o sets tm (wr.drewN q) hs4 r0 htb.1 (by omega);rw [hsx] at this;exact this
   clear htm hsx;go_wp2_with fail;go_cut [9] (fun s9 wx=>s9=.int .i64 f∧∃q,wx=wr.drewN q)
   case first=>
    go_quiet (first
     | (go_at_call 85;exact Calls.quiet_of (HTg.out _))
     | (go_at_call 83;exact Calls.quiet_of_same (HSt.out _)))
    go_wp2_with fail;go_meet;exact ⟨by rw [HWm.out],nq,rfl⟩
   case rest=>
    obtain ⟨rfl,q,rfl⟩:=hcut;have hb2:Below w.heap.size w (wr.drewN q):=below_drewN hb q;generalize wr.drewN q=v2 at hb2 |-;clear r0 r1 hb HTg HSt HWm hsb hf;go_wp2_with fail;rename_i wr0;go_loopw [10] (fun i wr=>∃q:Nat,f<=q∧(q:Int)<=f+ways∧i=.int .i64 q∧Hid (∀(q':Nat) x,f<=q'->q'<q->es[q']?=some x->ci va asid l x=false)∧Below w.heap.size w wr) (fun i _=>f+4-(intOf i).toNat)
    case atStart=>exact ⟨f,Nat.le_refl _,by omega,rfl,fun q' x h h'=>absurd h' (by omega),hb2⟩
    case round=>
     obtain ⟨q,hq1,hq2,rfl,HQ,hb3⟩:=hrel;have r1:wr.cell? ⟨b,o+1,none⟩=some (.int .i64 ways):=Below.cell2 hb3 c1 hbl;have r2:wr.cell? ⟨b,o+2,none⟩=some (.slice (some ⟨g,0,none⟩) n n):=Below.cell2 hb3 c2 hbl;by_cases hqt:(q:Int)<f+ways
     ·have hqn:q<n:=by omega
      obtain ⟨⟨vv,lv,tg,asd,gl,pt⟩,hx⟩:∃x,es[q]?=some x:=⟨_,List.getElem?_eq_getElem (by rw [HN.out];exact hqn)⟩;have HXq:Hid (es[q]?=some ⟨vv,lv,tg,asd,gl,pt⟩):=hx;have CE:∀j u,j<6->(bZ ⟨vv,lv,tg,asd,gl,pt⟩)[j]?=some u->wr.cell? ⟨g,q*6+j,none⟩=some u:=fun j u hj hu=>bV (HR.out.keep hb3) HN.out q _ hx j u hj hu;have g0:wr.cell? ⟨g,q*6,none⟩=some (.int .i64 lv):=CE 0 _ (by omega) rfl;have g1:wr.cell? ⟨g,q*6+1,none⟩=some (.int .u64 tg):=CE 1 _ (by omega) rfl;have g2:wr.cell? ⟨g,q*6+2,none⟩=some (.int .u64 asd):=CE 2 _ (by omega) rfl;have g3:wr.cell? ⟨g,q*6+3,none⟩=some (.bool gl):=CE 3 _ (by omega) rfl;have g4:wr.cell? ⟨g,q*6+4,none⟩=some (.bool vv):=CE 4 _ (by omega) rfl;have HNx:Hid (ci va asid l ⟨vv,lv,tg,asd,gl,pt⟩=false->∀(q':Nat) x,f<=q'->q'<q+1->es[q']?=some x->ci va asid l x=false):=fun h q' x h1 h2 h3=>by
       by_cases e:q'=q
       ·subst e;rw [HXq.out] at h3;cases h3;exact h
       ·exact HQ.out q' x h1 (by omega) h3
      clear CE hx;cases vv
      ·go_wp2_with fail;go_roundw
       case rel=>exact ⟨q+1,by omega,by omega,by go_num,HNx.out (by simp [ci,dv]),hb3⟩
       case measure=>simp [intOf];omega
      ·by_cases hlv:lv=l
       ·subst hlv;obtain ⟨fb,hfb⟩:∃fb,((tg == bP va l) && (gl || asd == asid))=fb:=⟨_,rfl⟩;have HFt:Hid (∀u,Calls Tryz.prog 86 #[.agg #[.int .i64 l,.int .u64 tg,.int .u64 asd,.bool gl],.int .u64 va,.int .u64 asid] u fun e w'=>e=.returned (.bool fb)∧Below u.heap.size u w'):=fun u=>by
         have:=jI l tg asd va asid gl u hl3 hv0 hv1;rw [hfb] at this;exact this
        have HHb:Hid (ci va asid l ⟨true,l,tg,asd,gl,pt⟩=fb):=by
         show _=_;rw [<-hfb];simp [ci,dv]
        clear hfb;go_wp2_with fail;refine (HFt.out wr).mono ?_;rintro e v5 ⟨rfl,n5⟩;have A5:=Below.step hb3 n5 (Nat.le_refl _);cases fb
        ·go_wp2_with fail;go_roundw
         case rel=>exact ⟨q+1,by omega,by omega,by go_num,HNx.out HHb.out,A5⟩
         case measure=>simp [intOf];omega
        ·have hx:X=(true,(q:Int),(l:Int),pt):=by
          rw [<-HX.out];have hfi:=ie (t:=⟨sets,ways,es⟩) (k:=q-f) HV.out HFi.out (by simp only;rw [show f+(q-f)=q by omega];exact HXq.out) HHb.out (fun j y hj hy=>HQ.out (f+j) y (by omega) (by omega) hy);rw [show f+(q-f)=q by omega] at hfi;exact im ⟨sets,ways,es⟩ va asid l q _ HEi.out (by omega) HF.out hfi
         subst hx;go_wp2_with fail;exact bodyPost_ret (v:=.tuple #[.int .i64 q,.bool true]) (by simp [results,Tryz.results102,go_sem]) rfl ⟨rfl,A5⟩
       ·have hlv':(lv == (l:Int))=false:=by simpa using hlv
        go_wp2_with fail;go_roundw
        case rel=>exact ⟨q+1,by omega,by omega,by go_num,HNx.out (by simp [ci,hlv]),hb3⟩
        case measure=>simp [intOf];omega
     ·have hqe:(q:Int)=f+ways:=by omega
      have hnn:bh va asid l 0 es=none:=ic (t:=⟨sets,ways,es⟩) HV.out HFi.out (fun j x hj hx=>HQ.out (f+j) x (by omega) (by simp only at hj;omega) hx);have HNn:Hid (bh va asid l 0 es=none):=hnn;clear hnn;go_wp2_with fail;go_roundw
      case rel=>exact ⟨l+1,by omega,by go_num,fun l' hl'=>by
       by_cases e:l'=l
       ·subst e;exact HNn.out
       ·exact HF.out l' (by omega),hb3⟩
      case measure=>simp [intOf];omega
  ·have hl3:l=3:=by omega
   subst hl3;have hx:X=(false,0,0,0):=by
    rw [<-HX.out];exact fe _ va asid HEi.out HF.out
   subst hx;go_wp2_with fail;exact bodyPost_ret (v:=.tuple #[.int .i64 0,.bool false]) (by simp [results,Tryz.results102,go_sem]) rfl ⟨rfl,hb⟩
end
theorem ib (b:Nat) (kind:Int) (w:World):
 Calls Tryz.prog 64 #[.pointer (some ⟨b,0,none⟩),.int .i64 kind] w fun e w'=>e=.returned (.pointer (some ⟨b,if kind=0 then 0 else 3,none⟩))∧w'=w:=by
 by_cases h:kind=0
 ·subst h;go_enter Tryz.func64,Tryz.ntmps64;go_wp2_with fail;go_ret;exact ⟨rfl,rfl⟩
 ·rw [if_neg h];go_enter Tryz.func64,Tryz.ntmps64;go_wp2_with fail;go_ret;exact ⟨rfl,rfl⟩
theorem gL (lv:Int) (ra:Option Addr) (n rc:Nat) (w:World):
 Calls Tryz.prog 88 #[.agg #[.int .i64 lv,.int .u64 0,.slice ra n rc]] w fun e w'=>e=.returned (.slice ra n rc)∧Below w.heap.size w w':=by
 have n1:=(Below.refl w.heap.size w).alloc (Nat.le_refl _) (Obj.cells #[.int .i64 lv,.int .u64 0,.slice ra n rc] 158);go_enter Tryz.func88,Tryz.ntmps88;go_wp2_with fail;go_ret;exact ⟨rfl,n1⟩
theorem gM (lv lf:Int) (g n rc:Nat) (w:World) (h:lf≠0) (hn:n<=3) (hn1:n+1<=rc) (hrc:rc<=9223372036854775807):
 Calls Tryz.prog 88 #[.agg #[.int .i64 lv,.int .u64 lf,.slice (some ⟨g,0,none⟩) (n+1) rc]] w fun e w'=>e=.returned (.slice (some ⟨g,0,none⟩) n rc)∧Below w.heap.size w w':=by
 have n1:=(Below.refl w.heap.size w).alloc (Nat.le_refl _) (Obj.cells #[.int .i64 lv,.int .u64 lf,.slice (some ⟨g,0,none⟩) (n+1) rc] 158);have h':(lf == 0)=false:=by simpa using h
 go_enter Tryz.func88,Tryz.ntmps88;go_wp2_with fail;go_ret;exact ⟨by simp,n1⟩
theorem jX (b base gi gd gp:Nat) (k:KM) (sv:Value) (zs:List Int) (satp va:Int) (w:World) (hS:SetAt w b base gi gd gp k) (hk:aA k.p true=true) (hko:∀e∈k.p.es,bf e) (hkl:k.p.es.length<=1048576)
 (hB:SrcAt w sv zs) (hv0:0<=va) (hv1:va<=18446744073709551615) (hr0:0<=satp) (hr1:satp<=18446744073709551615):
 Calls Tryz.prog 87 #[.pointer (some ⟨b,0,none⟩),sv,.int .u64 satp,.int .u64 va] w fun e w'=>iH w.heap.size w' e (aK zs satp va (aD k.p va (au satp)))∧Below w.heap.size w w':=by
 have HS:Hid (SetAt w b base gi gd gp k):=hS;have HB:Hid (SrcAt w sv zs):=hB;have hb:=hS.lt;obtain ⟨⟨f,i,l,pt⟩,hX⟩:∃X,aD k.p va (au satp)=X:=⟨_,rfl⟩;have HX:Hid (aD k.p va (au satp)=(f,i,l,pt)):=hX;have HGet:Hid (f=true->∃(q:Nat) (x:EntM),k.p.es[q]?=some x∧i=(q:Int)∧l=x.level∧pt=x.pte∧(x.level=1∨x.level=2)):=fun hf=>by
  obtain ⟨q,x,h1,h2,h3,h4,_,h6⟩:=el k.p va (au satp) (by rw [hX];exact hf);rw [hX] at h2 h3 h4;refine ⟨q,x,h1,h2,h3,h4,?_⟩;have hp:=eX hk q x h1;simp only [aB,Bool.or_eq_true,Bool.and_eq_true,beq_iff_eq] at hp;rcases hp with hp | hp
  ·rw [h6] at hp;simp at hp
  ·have hg:=hp.1;simp only [ay,Bool.and_eq_true,decide_eq_true_eq,beq_iff_eq,cM,if_true] at hg;have hkd:aH x.pte x.level=1:=hg.2;have hlv:=hg.1.1.1.1.1.2;have hlv2:=hg.1.1.1.1.2;rcases (show x.level=0∨x.level=1∨x.level=2 by omega) with h0 | h0 | h0
   ·rw [h0] at hkd;exact absurd hkd (da _)
   ·exact .inl h0
   ·exact .inr h0
 obtain ⟨R,hR⟩:∃R,aK zs satp va (f,i,l,pt)=R:=⟨_,rfl⟩;have HRs:Hid (aK zs satp va (f,i,l,pt)=R):=hR;rw [hX,hR];clear hX hS hB hR;have n1:=(Below.refl w.heap.size w).alloc (Nat.le_refl _) (Obj.cells #[.int .i64 0,.int .u64 0,.slice none 0 0] 158);have H1:Hid ((w.alloc (Obj.cells #[.int .i64 0,.int .u64 0,.slice none 0 0] 158)).heap[w.heap.size]?=some (.cells #[.int .i64 0,.int .u64 0,.slice none 0 0] 158 (0,0))):=heap_alloc_new w _;have l1:w.heap.size<(w.alloc (Obj.cells #[.int .i64 0,.int .u64 0,.slice none 0 0] 158)).heap.size:=by simp
 go_enter Tryz.func87,Tryz.ntmps87;go_wp2_with fail;generalize w.alloc (Obj.cells #[.int .i64 0,.int .u64 0,.slice none 0 0] 158)=v1 at n1 H1 l1 |-;have HF:Hid (∀u:Lies v1,Calls Tryz.prog 102 #[.pointer (some ⟨b,6,none⟩),.int .u64 va,.int .u64 (au satp)] u.w fun e w'=>e=.returned (.tuple #[.int .i64 i,.bool f])∧Below u.w.heap.size u.w w'):=fun u=>by
  have S:=HS.out.keep (Below.step n1 u.h (Nat.le_refl _));obtain ⟨c0,c1,c2⟩:=S.cellP;have:=kI b 6 gp k.p.es.length k.p va (au satp) u.w rfl hkl hk S.lt c0 c1 c2 (bW S.2.1.2.2.1) hv0 hv1;rw [HX.out] at this;exact this
 have HA:Hid (∀u:Lies v1,Calls Tryz.prog 66 #[.int .u64 satp] u.w fun e w'=>e=.returned (.int .u64 (au satp))∧w'=u.w):=fun u=>eh satp u.w hr0 hr1;generalize au satp=asd at HF HA;have ne:=aT v1;refine am (by kernel_rfl) (by kernel_rfl) ?_;repeat (go_big_quiet_step ((first
  | (go_at_call 66;exact kr _ (HA.out _))
  | (go_at_call 102;exact ao _ (HF.out _)))))
 refine wpQuiet_nil ?_;rintro _ ⟨u,rfl⟩;have n2:=u.h;generalize u.w=v2 at n2 |-;have H2:=aa H1 n2;have A2:=Below.step n1 n2 (Nat.le_refl _);have l2:w.heap.size<v2.heap.size:=Nat.lt_of_lt_of_le l1 n2.size;clear n1 n2 H1 ne HF HA;obtain ⟨⟨d0,d1,d2⟩,e0,e1,e2⟩:=ai H2.out;cases f
 ·have hres:R=aQ zs satp va:=by rw [<-HRs.out];simp [aK]
  go_wp2_with fail;refine (iv sv zs va satp v2 (HB.out.keep A2) hv0 hv1 hr0 hr1).mono ?_;rw [<-hres];rintro e v3 ⟨hw,n3⟩;have H3:=aa H2 n3;have A3:=Below.step A2 n3 (Nat.le_refl _);obtain ⟨ra,rc,rfl,o3⟩:=hw;clear d0 d1 d2 e0 e1 e2 hres HRs;obtain ⟨⟨d0,d1,d2⟩,e0,e1,e2⟩:=ai H3.out;go_wp2_with fail;exact bodyPost_ret (v:=.tuple #[.agg #[.int .i64 R.2.1,.int .u64 R.2.2.1,.slice ra R.2.2.2.length rc],bv R.1]) (by simp [results,Tryz.results87,go_sem,d0,d1,d2]) rfl ⟨⟨ra,rc,rfl,ax (bg o3 (gb3 v3 w.heap.size _ _ _) l2) (by omega)⟩,cA A3 (Nat.le_refl _) _ _ _⟩
 ·obtain ⟨q,x,hx,rfl,rfl,rfl,hlv⟩:=HGet.out (by trivial);have hok:=hko x (List.mem_of_getElem? hx);have hql:q<k.p.es.length:=(List.getElem?_eq_some_iff.1 hx).1;have S2:=HS.out.keep A2;obtain ⟨_,_,p2⟩:=S2.cellP;have p2':v2.cell? ⟨b,8,none⟩=some (.slice (some ⟨gp,0,none⟩) k.p.es.length k.p.es.length):=p2;clear p2;have CE:∀j u,j<6->(bZ x)[j]?=some u->v2.cell? ⟨gp,q*6+j,none⟩=some u:=fun j u hj hu=>bV (bW S2.2.1.2.2.1) rfl q _ hx j u hj hu;have g0:v2.cell? ⟨gp,q*6,none⟩=some (.int .i64 x.level):=CE 0 _ (by omega) rfl;have g1:v2.cell? ⟨gp,q*6+1,none⟩=some (.int .u64 x.tag):=CE 1 _ (by omega) rfl;have g2:v2.cell? ⟨gp,q*6+2,none⟩=some (.int .u64 x.asid):=CE 2 _ (by omega) rfl;have g3:v2.cell? ⟨gp,q*6+3,none⟩=some (.bool x.glob):=CE 3 _ (by omega) rfl;have g4:v2.cell? ⟨gp,q*6+4,none⟩=some (.bool x.valid):=CE 4 _ (by omega) rfl;have g5:v2.cell? ⟨gp,q*6+5,none⟩=some (.int .u64 x.pte):=CE 5 _ (by omega) rfl;obtain ⟨ll,hsub,hl1⟩:∃ll:Nat,x.level-1=(ll:Int)∧ll<=1:=by
   rcases hlv with h | h
   ·exact ⟨0,by rw [h];rfl,by omega⟩
   ·exact ⟨1,by rw [h];rfl,by omega⟩
  have hL1:1<=x.level:=by omega
  have hL2:x.level<=2:=by omega
  have hres:R=bb zs va ll (bj x.pte):=by
   rw [<-HRs.out];simp only [aK,if_true];rw [hsub];simp
  have HRes:Hid (R=bb zs va ll (bj x.pte)):=hres;have hpb:=hok.2.2.2;have htb:Hid (∀u:World,Calls Tryz.prog 105 #[.int .u64 x.pte] u fun e w'=>e=.returned (.int .u64 (bj x.pte))∧w'=u):=fun u=>ly x.pte u hpb.1 hpb.2;have hpp:=eR x.pte;clear CE hres HRs HX HGet hlv S2 hx;generalize bj x.pte=pp at *;generalize x.level=L0 at *;generalize x.tag=tg at *;generalize x.asid=ad at *;generalize x.glob=gl at *;generalize x.valid=vv at *;generalize x.pte=pt at *;have n3:=(Below.refl v2.heap.size v2).alloc (Nat.le_refl _) (Obj.cells #[.int .i64 L0,.int .u64 tg,.int .u64 ad,.bool gl,.bool vv,.int .u64 pt] 151);have S3:Hid ((v2.alloc (Obj.cells #[.int .i64 L0,.int .u64 tg,.int .u64 ad,.bool gl,.bool vv,.int .u64 pt] 151)).heap[v2.heap.size]?=some (.cells #[.int .i64 L0,.int .u64 tg,.int .u64 ad,.bool gl,.bool vv,.int .u64 pt] 151 (0,0))):=heap_alloc_new v2 _;go_wp2_with fail;generalize v2.alloc (Obj.cells #[.int .i64 L0,.int .u64 tg,.int .u64 ad,.bool gl,.bool vv,.int .u64 pt] 151)=v3 at n3 S3 |-;have H3:=aa H2 n3;have A3:=Below.step A2 n3 (Nat.le_refl _);have l3:w.heap.size<v3.heap.size:=Nat.lt_of_lt_of_le l2 n3.size;clear g0 g1 g2 g3 g4 g5 p2' d0 d1 d2 e0 e1 e2 n3 H2 A2;obtain ⟨⟨g0,g1,g2,g3,g4,g5⟩,_⟩:=bG S3.out;have D3:Below v3.heap.size v3 v3.drew:=(Below.refl _ _).drew;have nev1:v2.heap.size≠w.heap.size:=by omega
  have nev2:w.heap.size≠v2.heap.size:=by omega
  have hwl:IntKind.i64.wrap (ll:Int)=(ll:Int):=(IntKind.wrap_i64 _).trans (by omega);clear g1 g2 g3 g4 hk hko hkl hb hok hql HS;clear l1 l2 hr0 hr1;go_region_held3 (fun w'=>w'.cell? ⟨v2.heap.size,0,none⟩=some (.int .i64 L0)∧w'.cell? ⟨v2.heap.size,5,none⟩=some (.int .u64 pt)) (go_keep)
   (first
   | (go_at_call 105;refine (htb.out _).mono ?_;rintro e w' ⟨rfl,rfl⟩)
   | (go_at_call 104;refine (eT sv zs va pp ll v3.drew (HB.out.keep (Below.step A3 D3 (Nat.le_refl _))) (by omega) hv0 hv1 hpp.1 hpp.2).mono ?_;rw [<-HRes.out];rintro e v4 ⟨hw,n4⟩;obtain ⟨ra,rc,rfl,o4⟩:=hw;have N4:=Below.step D3 n4 (Nat.le_refl _);have H4:=aa H3 N4;have S4:=aa S3 N4;have A4:=Below.step A3 N4 (Nat.le_refl _);have O4:Hid _:=o4;have kk:=ai H4.out;obtain ⟨⟨j0,j1,j2⟩,i0,i1,i2⟩:=kk;have kk2:=bG S4.out;obtain ⟨⟨t0,t1,t2,t3,t4,t5⟩,_⟩:=kk2;clear o4))
  all_goals
   go_wp2_with fail;exact bodyPost_ret (v:=.tuple #[.agg #[.int .i64 R.2.1,.int .u64 R.2.2.1,.slice ra R.2.2.2.length rc],bv R.1]) (by simp [results,Tryz.results87,go_sem,j0,j1,j2]) rfl ⟨⟨ra,rc,rfl,ax (bg O4.out (gb3 v4 w.heap.size _ _ _) l3) (Nat.le_of_lt l3)⟩,cA A4 (Nat.le_refl _) _ _ _⟩
theorem kB (z:EntM) (n:Nat):(madeCells (cJ z).toArray (n*6)).toList=al (List.replicate n z):=by
 apply List.ext_getElem?;intro j;by_cases hj:j<n*6
 ·have hq:j/6<(List.replicate n z).length:=by simp;omega
  have:=dU (List.replicate n z) (j/6) (j%6) hq (by omega);rw [show j/6*6+j%6=j by omega] at this;rw [this];have h6:j%6<(cJ z).length:=by simp [cJ];omega
  simp only [madeCells,List.getElem_replicate];rw [List.getElem?_eq_getElem h6];simp [hj,cJ];rw [List.getElem?_eq_getElem (by simpa [cJ] using h6)];rfl
 ·rw [List.getElem?_eq_none (by simp [madeCells];omega),List.getElem?_eq_none (by rw [bQ];simp;omega)]
theorem mf (n:Nat) (hn:n<=1048576):∃cs:Array Value,cs.toList=al (List.replicate n aZ)∧∀u:World,(Instr.makeSlice 32 (.int .i64 (n:Int)) (.int .i64 (n:Int))).run Tryz.prog u=.ok (.slice (some ⟨u.heap.size,0,none⟩) n n) (u.alloc (.cells cs 74)):=by
 obtain ⟨i0,hi,hz0,hz1,hz2⟩:=info_parts Tryz.infoEnt;refine ⟨madeCells (Value.agg #[.bool false,.int .i64 0,.int .u64 0,.int .u64 0,.bool false,.int .u64 0]).cells (n*6),?_,fun u=>?_⟩
 ·exact kB aZ n
 ·have:=run_make (P:=Tryz.prog) u 32 74 i0 _ Tryz.underlying32 hi hz0 .i64 .i64 n n (by omega) (Int.le_refl _) (by rw [hz2];omega) (by omega);rw [hz1] at this;simpa using this
end Go.Proofs.YtfgogedgolgnaaaGreat
