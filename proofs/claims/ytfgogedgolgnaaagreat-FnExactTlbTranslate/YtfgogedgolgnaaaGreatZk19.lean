import Derived.BigRegion
import Derived.Test.YtfgogedgolgnaaaGreatZk17
namespace Go.Proofs.YtfgogedgolgnaaaGreat
open Go.RowKit
set_option linter.unusedVariables false
set_option maxHeartbeats 6400000
set_option maxRecDepth 20000
section
attribute [local go_sem ↓] Go.wp_at_zero Go.wp_at_succ
theorem kc (lv tg asd pt:Int) (gl vv:Bool) (w:World):
 Calls Tryz.prog 93 #[.agg #[.int .i64 lv,.int .u64 tg,.int .u64 asd,.bool gl,.bool vv,.int .u64 pt]] w fun e w'=>e=.returned (.agg #[.bool vv,.int .i64 lv,.int .u64 tg,.int .u64 asd,.bool gl,.int .u64 pt])∧Below w.heap.size w w':=by
 have n1:=((Below.refl w.heap.size w).alloc (Nat.le_refl _) (Obj.cells #[.int .i64 lv,.int .u64 tg,.int .u64 asd,.bool gl,.bool vv,.int .u64 pt] 136)).alloc (by simp) (Obj.cells #[.bool vv,.int .i64 lv,.int .u64 tg,.int .u64 asd,.bool gl,.int .u64 pt] 74);go_enter Tryz.func93,Tryz.ntmps93;go_wp2_with fail;exact bodyPost_ret (v:=.agg #[.bool vv,.int .i64 lv,.int .u64 tg,.int .u64 asd,.bool gl,.int .u64 pt]) (by simp [results,Tryz.results93,go_sem]) rfl ⟨rfl,n1⟩
theorem jB (b o g n:Nat) (t:TlbM) (w:World) (hn:t.es.length=n) (hn1:n<=1048576) (hbl:b<w.heap.size) (hgl:g<w.heap.size)
 (c0:w.cell? ⟨b,o,none⟩=some (.int .i64 t.sets)) (c1:w.cell? ⟨b,o+1,none⟩=some (.int .i64 t.ways)) (c2:w.cell? ⟨b,o+2,none⟩=some (.slice (some ⟨g,0,none⟩) n n)) (hr:RowC w (some ⟨g,0,none⟩) n 6 (av t.es)):
 Calls Tryz.prog 71 #[.pointer (some ⟨b,o,none⟩)] w fun e w'=>(∃x,e=.returned x∧TlbOwn w.heap.size w' x t)∧Below w.heap.size w w':=by
 have HR:Hid (RowC w (some ⟨g,0,none⟩) n 6 (av t.es)):=hr;have HN:Hid (t.es.length=n):=hn;obtain ⟨sets,ways,es⟩:=t;simp only at c0 c1 c2 HR HN;clear hr hn;obtain ⟨cs,hcs,hmk⟩:=mf n hn1;have n1:=(Below.refl w.heap.size w).alloc (Nat.le_refl _) (Obj.cells #[.int .i64 0,.int .i64 0,.slice none 0 0] 34);have H1:Hid ((w.alloc (Obj.cells #[.int .i64 0,.int .i64 0,.slice none 0 0] 34)).heap[w.heap.size]?=some (.cells #[.int .i64 0,.int .i64 0,.slice none 0 0] 34 (0,0))):=heap_alloc_new w _;have l1:(w.alloc (Obj.cells #[.int .i64 0,.int .i64 0,.slice none 0 0] 34)).heap.size=w.heap.size+1:=by simp
 have nV:Below (w.alloc (Obj.cells #[.int .i64 0,.int .i64 0,.slice none 0 0] 34)).heap.size (w.alloc (Obj.cells #[.int .i64 0,.int .i64 0,.slice none 0 0] 34)) ((w.alloc (Obj.cells #[.int .i64 0,.int .i64 0,.slice none 0 0] 34)).alloc (.cells cs 74)):=(Below.refl _ _).alloc (Nat.le_refl _) _;have hG:((w.alloc (Obj.cells #[.int .i64 0,.int .i64 0,.slice none 0 0] 34)).alloc (.cells cs 74)).heap[w.heap.size+1]?=some (.cells cs 74 (0,0)):=by
  have:=heap_alloc_new (w.alloc (Obj.cells #[.int .i64 0,.int .i64 0,.slice none 0 0] 34)) (.cells cs 74);simp only [World.size_alloc] at this;exact this
 have hcl:cs.toList.length=n*6:=by rw [hcs,bQ];simp
 have O2:Hid (((w.alloc (Obj.cells #[.int .i64 0,.int .i64 0,.slice none 0 0] 34)).alloc (.cells cs 74)).ownsRow (w.heap.size+1) 74 6 (.slice (some ⟨w.heap.size+1,0,none⟩) n n) n (al (aG 0 n es))):=by
  rw [cU,<-hcs];exact ⟨hcl,.inr ⟨_,n,cs,rfl,Nat.le_refl _,hG,Nat.le_refl _,by unfold maxLen;omega,by rw [<-hcl];simp,List.take_of_length_le (by omega)⟩⟩
 have A2:=Below.step n1 nV (Nat.le_refl _);have K2:=aa H1 nV;have B2:Below (w.heap.size+1) ((w.alloc (Obj.cells #[.int .i64 0,.int .i64 0,.slice none 0 0] 34)).alloc (.cells cs 74)) ((w.alloc (Obj.cells #[.int .i64 0,.int .i64 0,.slice none 0 0] 34)).alloc (.cells cs 74)):=Below.refl _ _;have l2:((w.alloc (Obj.cells #[.int .i64 0,.int .i64 0,.slice none 0 0] 34)).alloc (.cells cs 74)).heap.size=w.heap.size+2:=by simp
 clear hG hcl hcs H1 n1 nV;have e0:w.heap.size≠b:=by omega
 have e1:w.heap.size+1≠b:=by omega
 go_enter Tryz.func71,Tryz.ntmps71;go_wp2_with fail;generalize ((w.alloc (Obj.cells #[.int .i64 0,.int .i64 0,.slice none 0 0] 34)).alloc (.cells cs 74))=v2 at O2 A2 K2 l2 B2 |-;go_loopw [17] (fun i wr=>∃k:Nat,k<=n∧i=.int .i64 k∧wr.ownsRow (w.heap.size+1) 74 6 (.slice (some ⟨w.heap.size+1,0,none⟩) n n) n (al (aG k n es))∧Below (w.heap.size+1) v2 wr) (fun i _=>n-(intOf i).toNat)
 case atStart=>exact ⟨0,Nat.zero_le _,rfl,O2.out,B2⟩
 case round=>
  obtain ⟨k,hk,rfl,hO,hb⟩:=hrel;have PO:Hid (wr.ownsRow (w.heap.size+1) 74 6 (.slice (some ⟨w.heap.size+1,0,none⟩) n n) n (al (aG k n es))):=hO;have lg:w.heap.size+1<wr.heap.size:=(aE hO).2.2;have A3:Below w.heap.size w wr:=A2.trans (hb.mono (by omega));have P1:Hid (wr.heap[w.heap.size]?=some (.cells #[.int .i64 0,.int .i64 0,.slice none 0 0] 34 (0,0))):=(hb.block w.heap.size (by omega)).trans K2.out;clear hO;have r0:wr.cell? ⟨b,o,none⟩=some (.int .i64 sets):=Below.cell2 A3 c0 hbl;have r1:wr.cell? ⟨b,o+1,none⟩=some (.int .i64 ways):=Below.cell2 A3 c1 hbl;have r2:wr.cell? ⟨b,o+2,none⟩=some (.slice (some ⟨g,0,none⟩) n n):=Below.cell2 A3 c2 hbl;by_cases hlt:k<n
  ·obtain ⟨⟨vv,lv,tg,asd,gl,pt⟩,hx⟩:∃x,es[k]?=some x:=⟨_,List.getElem?_eq_getElem (by rw [HN.out];exact hlt)⟩;have HXk:Hid (es[k]?=some ⟨vv,lv,tg,asd,gl,pt⟩):=hx;have CE:∀j u,j<6->(bZ ⟨vv,lv,tg,asd,gl,pt⟩)[j]?=some u->wr.cell? ⟨g,k*6+j,none⟩=some u:=fun j u hj hu=>bV (HR.out.keep A3) HN.out k _ hx j u hj hu;have g0:wr.cell? ⟨g,k*6,none⟩=some (.int .i64 lv):=CE 0 _ (by omega) rfl;have g1:wr.cell? ⟨g,k*6+1,none⟩=some (.int .u64 tg):=CE 1 _ (by omega) rfl;have g2:wr.cell? ⟨g,k*6+2,none⟩=some (.int .u64 asd):=CE 2 _ (by omega) rfl;have g3:wr.cell? ⟨g,k*6+3,none⟩=some (.bool gl):=CE 3 _ (by omega) rfl;have g4:wr.cell? ⟨g,k*6+4,none⟩=some (.bool vv):=CE 4 _ (by omega) rfl;have g5:wr.cell? ⟨g,k*6+5,none⟩=some (.int .u64 pt):=CE 5 _ (by omega) rfl;clear CE hx;have n5:=(Below.refl wr.heap.size wr).alloc (Nat.le_refl _) (Obj.cells #[.int .i64 lv,.int .u64 tg,.int .u64 asd,.bool gl,.bool vv,.int .u64 pt] 136);go_wp2_with fail;generalize wr.alloc (Obj.cells #[.int .i64 lv,.int .u64 tg,.int .u64 asd,.bool gl,.bool vv,.int .u64 pt] 136)=v5 at n5 |-;refine (kc lv tg asd pt gl vv v5).mono ?_;rintro e v6 ⟨rfl,n6⟩;have n56:=Below.step n5 n6 (Nat.le_refl _);have SO:Hid (v6.ownsRow (w.heap.size+1) 74 6 (.slice (some ⟨w.heap.size+1,0,none⟩) n n) n (al (aG k n es))):=ae PO.out n56;have B6:Below (w.heap.size+1) v2 v6:=hb.trans (n56.mono (by omega));have hfl:(al (aG k n es)).length=n*6:=by
    have:=HN.out;subst this;rw [bQ,bU _ _ (by omega)]
   clear g0 g1 g2 g3 g4 g5 r0 r1 r2 n5 n6 n56 hb A3;have q0:=an SO.out (k*6) _ (List.getElem?_eq_getElem (by omega));have q1:=an SO.out (k*6+1) _ (List.getElem?_eq_getElem (by omega));have q2:=an SO.out (k*6+2) _ (List.getElem?_eq_getElem (by omega));have q3:=an SO.out (k*6+3) _ (List.getElem?_eq_getElem (by omega));have q4:=an SO.out (k*6+4) _ (List.getElem?_eq_getElem (by omega));have q5:=an SO.out (k*6+5) _ (List.getElem?_eq_getElem (by omega));generalize (al (aG k n es))[k*6]'_=y0 at q0;generalize (al (aG k n es))[k*6+1]'_=y1 at q1;generalize (al (aG k n es))[k*6+2]'_=y2 at q2;generalize (al (aG k n es))[k*6+3]'_=y3 at q3;generalize (al (aG k n es))[k*6+4]'_=y4 at q4;generalize (al (aG k n es))[k*6+5]'_=y5 at q5;have s0:=ar SO.out (k*6);have s1:=ar SO.out (k*6+1);have s2:=ar SO.out (k*6+2);have s3:=ar SO.out (k*6+3);have s4:=ar SO.out (k*6+4);have s5:=ar SO.out (k*6+5);go_wp2_with fail;go_roundw
   case rel=>
    refine ⟨k+1,by omega,by go_num,?_,?_⟩
    ·have:=HN.out;subst this;rw [cL k es _ HXk.out,dx _ _ _ (by rw [bU _ _ (by omega)];exact hlt)];exact ak (ak (ak (ak (ak (ak SO.out _ _) _ _) _ _) _ _) _ _) _ _
    ·have hg1:w.heap.size+1<=w.heap.size+1:=Nat.le_refl _;exact (((((B6.setCell (p:=⟨w.heap.size+1,_,none⟩) hg1 _).setCell (p:=⟨w.heap.size+1,_,none⟩) hg1 _).setCell (p:=⟨w.heap.size+1,_,none⟩) hg1 _).setCell (p:=⟨w.heap.size+1,_,none⟩) hg1 _).setCell (p:=⟨w.heap.size+1,_,none⟩) hg1 _).setCell (p:=⟨w.heap.size+1,_,none⟩) hg1 _
   case measure=>simp [intOf];omega
  ·have hkn:k=n:=by omega
   subst hkn;obtain ⟨⟨d0,d1,d2⟩,f0,f1,f2⟩:=ai P1.out;go_wp2_with fail;go_region;all_goals
    go_wp2_with fail;refine bodyPost_ret (v:=.agg #[.int .i64 sets,.int .i64 ways,.slice (some ⟨w.heap.size+1,0,none⟩) k k]) (by simp [results,Tryz.results71,go_sem,d0,d1,d2]) rfl ⟨⟨_,rfl,w.heap.size+1,k,by simp only;rw [HN.out],?_⟩,(cA A3 (Nat.le_refl _) _ _ _).drew⟩;simp only;rw [HN.out];have hO:=PO.out;have hq:=HN.out;subst hq;rw [dD] at hO;exact ax (dd (bg hO (gb3 wr w.heap.size _ _ _) (by omega))) (by omega)
end
theorem de (x:Int) (w:World):(method 300 119 (.int .u64 x) "loop.example/s0051/impl.goodAt").run Tryz.prog w=.ok (142,.int .u64 x) w:=by kernel_rfl
theorem lM (lv tg asd pt tm:Int) (gl:Bool) (w:World):
 Calls Tryz.prog 80 #[.agg #[.bool false,.int .i64 lv,.int .u64 tg,.int .u64 asd,.bool gl,.int .u64 pt]] w fun e w'=>e=.returned (.tuple #[aW aZ,.bool false])∧Below w.heap.size w w':=by
 have n1:=((Below.refl w.heap.size w).alloc (Nat.le_refl _) (Obj.cells #[.bool false,.int .i64 lv,.int .u64 tg,.int .u64 asd,.bool gl,.int .u64 pt] 74)).alloc (by simp) (Obj.cells #[.int .i64 0,.int .u64 0,.int .u64 0,.bool false,.bool false,.int .u64 0] 136);go_enter Tryz.func80,Tryz.ntmps80;go_wp2_with fail;go_quiet (fail);go_wp2_with fail;exact bodyPost_ret (v:=.tuple #[aW aZ,.bool false]) (by simp [results,Tryz.results80,go_sem,aW,aZ]) rfl ⟨rfl,di (below_drewN n1 nq) (by omega) _ _ _ _ _ _⟩
theorem lN (lv tg asd pt tm:Int) (gl:Bool) (w:World) (HKL:Hid (∀w,Calls Tryz.prog 98 #[.int .i64 lv] w fun e w'=>e=.returned (.bool false)∧w'=w)):
 Calls Tryz.prog 80 #[.agg #[.bool true,.int .i64 lv,.int .u64 tg,.int .u64 asd,.bool gl,.int .u64 pt]] w fun e w'=>e=.returned (.tuple #[aW aZ,.bool false])∧Below w.heap.size w w':=by
 have n1:=((Below.refl w.heap.size w).alloc (Nat.le_refl _) (Obj.cells #[.bool true,.int .i64 lv,.int .u64 tg,.int .u64 asd,.bool gl,.int .u64 pt] 74)).alloc (by simp) (Obj.cells #[.int .i64 0,.int .u64 0,.int .u64 0,.bool false,.bool false,.int .u64 0] 136);go_enter Tryz.func80,Tryz.ntmps80;go_wp2_with fail;go_quiet ((go_at_call 98;exact Calls.quiet_of_same (HKL.out _)));go_wp2_with fail;exact bodyPost_ret (v:=.tuple #[aW aZ,.bool false]) (by simp [results,Tryz.results80,go_sem,aW,aZ]) rfl ⟨rfl,di (below_drewN n1 nq) (by omega) _ _ _ _ _ _⟩
theorem lP (lv tg asd pt tm:Int) (gl:Bool) (w:World) (HKL:Hid (∀w,Calls Tryz.prog 98 #[.int .i64 lv] w fun e w'=>e=.returned (.bool true)∧w'=w)) (HTM:Hid (∀w,Calls Tryz.prog 99 #[.int .i64 lv] w fun e w'=>e=.returned (.int .u64 tm)∧w'=w)) (h:¬(tg<=tm)):
 Calls Tryz.prog 80 #[.agg #[.bool true,.int .i64 lv,.int .u64 tg,.int .u64 asd,.bool gl,.int .u64 pt]] w fun e w'=>e=.returned (.tuple #[aW aZ,.bool false])∧Below w.heap.size w w':=by
 have n1:=((Below.refl w.heap.size w).alloc (Nat.le_refl _) (Obj.cells #[.bool true,.int .i64 lv,.int .u64 tg,.int .u64 asd,.bool gl,.int .u64 pt] 74)).alloc (by simp) (Obj.cells #[.int .i64 0,.int .u64 0,.int .u64 0,.bool false,.bool false,.int .u64 0] 136);go_enter Tryz.func80,Tryz.ntmps80;go_wp2_with fail;go_quiet (first
  | (go_at_call 98;exact Calls.quiet_of_same (HKL.out _))
  | (go_at_call 99;exact Calls.quiet_of_same (HTM.out _)))
 go_wp2_with fail;exact bodyPost_ret (v:=.tuple #[aW aZ,.bool false]) (by simp [results,Tryz.results80,go_sem,aW,aZ]) rfl ⟨rfl,di (below_drewN n1 nq) (by omega) _ _ _ _ _ _⟩
theorem lQ (lv tg asd pt tm:Int) (gl:Bool) (w:World) (HKL:Hid (∀w,Calls Tryz.prog 98 #[.int .i64 lv] w fun e w'=>e=.returned (.bool true)∧w'=w)) (HTM:Hid (∀w,Calls Tryz.prog 99 #[.int .i64 lv] w fun e w'=>e=.returned (.int .u64 tm)∧w'=w)) (h:tg<=tm) (h2:¬(asd<=65535)):
 Calls Tryz.prog 80 #[.agg #[.bool true,.int .i64 lv,.int .u64 tg,.int .u64 asd,.bool gl,.int .u64 pt]] w fun e w'=>e=.returned (.tuple #[aW aZ,.bool false])∧Below w.heap.size w w':=by
 have n1:=((Below.refl w.heap.size w).alloc (Nat.le_refl _) (Obj.cells #[.bool true,.int .i64 lv,.int .u64 tg,.int .u64 asd,.bool gl,.int .u64 pt] 74)).alloc (by simp) (Obj.cells #[.int .i64 0,.int .u64 0,.int .u64 0,.bool false,.bool false,.int .u64 0] 136);go_enter Tryz.func80,Tryz.ntmps80;go_wp2_with fail;go_quiet (first
  | (go_at_call 98;exact Calls.quiet_of_same (HKL.out _))
  | (go_at_call 99;exact Calls.quiet_of_same (HTM.out _)))
 go_wp2_with fail;exact bodyPost_ret (v:=.tuple #[aW aZ,.bool false]) (by simp [results,Tryz.results80,go_sem,aW,aZ]) rfl ⟨rfl,di (below_drewN n1 nq) (by omega) _ _ _ _ _ _⟩
theorem lR (lv tg asd pt tm:Int) (gl g5:Bool) (w:World) (HKL:Hid (∀w,Calls Tryz.prog 98 #[.int .i64 lv] w fun e w'=>e=.returned (.bool true)∧w'=w)) (HTM:Hid (∀w,Calls Tryz.prog 99 #[.int .i64 lv] w fun e w'=>e=.returned (.int .u64 tm)∧w'=w)) (h:tg<=tm) (h2:asd<=65535) (HB:Hid (∀w,Calls Tryz.prog 100 #[.int .u64 pt,.int .u64 32] w fun e w'=>e=.returned (.bool g5)∧w'=w)) (hne:(gl == g5)=false):
 Calls Tryz.prog 80 #[.agg #[.bool true,.int .i64 lv,.int .u64 tg,.int .u64 asd,.bool gl,.int .u64 pt]] w fun e w'=>e=.returned (.tuple #[aW aZ,.bool false])∧Below w.heap.size w w':=by
 have hne2:(gl != g5)=true:=by simp [bne,hne]
 have H1:Hid (∀k,(((w.alloc (Obj.cells #[.bool true,.int .i64 lv,.int .u64 tg,.int .u64 asd,.bool gl,.int .u64 pt] 74)).alloc (Obj.cells #[.int .i64 0,.int .u64 0,.int .u64 0,.bool false,.bool false,.int .u64 0] 136)).drewN k).heap[w.heap.size]?=some (.cells #[.bool true,.int .i64 lv,.int .u64 tg,.int .u64 asd,.bool gl,.int .u64 pt] 74 (0,0))):=by
  intro k;show ((w.alloc (Obj.cells #[.bool true,.int .i64 lv,.int .u64 tg,.int .u64 asd,.bool gl,.int .u64 pt] 74)).alloc (Obj.cells #[.int .i64 0,.int .u64 0,.int .u64 0,.bool false,.bool false,.int .u64 0] 136)).heap[w.heap.size]?=_;rw [heap_alloc_old _ _ (by simp)];exact heap_alloc_new w _
 have H2:Hid (∀k,(((w.alloc (Obj.cells #[.bool true,.int .i64 lv,.int .u64 tg,.int .u64 asd,.bool gl,.int .u64 pt] 74)).alloc (Obj.cells #[.int .i64 0,.int .u64 0,.int .u64 0,.bool false,.bool false,.int .u64 0] 136)).drewN k).heap[w.heap.size+1]?=some (.cells #[.int .i64 0,.int .u64 0,.int .u64 0,.bool false,.bool false,.int .u64 0] 136 (0,0))):=by
  intro k;have:=heap_alloc_new (w.alloc (Obj.cells #[.bool true,.int .i64 lv,.int .u64 tg,.int .u64 asd,.bool gl,.int .u64 pt] 74)) (Obj.cells #[.int .i64 0,.int .u64 0,.int .u64 0,.bool false,.bool false,.int .u64 0] 136);simp only [World.size_alloc] at this;exact this
 have n1:=((Below.refl w.heap.size w).alloc (Nat.le_refl _) (Obj.cells #[.bool true,.int .i64 lv,.int .u64 tg,.int .u64 asd,.bool gl,.int .u64 pt] 74)).alloc (by simp) (Obj.cells #[.int .i64 0,.int .u64 0,.int .u64 0,.bool false,.bool false,.int .u64 0] 136);have HW:Hid (∀k,Below w.heap.size w (((w.alloc (Obj.cells #[.bool true,.int .i64 lv,.int .u64 tg,.int .u64 asd,.bool gl,.int .u64 pt] 74)).alloc (Obj.cells #[.int .i64 0,.int .u64 0,.int .u64 0,.bool false,.bool false,.int .u64 0] 136)).drewN k)):=fun k=>below_drewN n1 k;have HS:Hid (∀k,(((w.alloc (Obj.cells #[.bool true,.int .i64 lv,.int .u64 tg,.int .u64 asd,.bool gl,.int .u64 pt] 74)).alloc (Obj.cells #[.int .i64 0,.int .u64 0,.int .u64 0,.bool false,.bool false,.int .u64 0] 136)).drewN k).heap.size=w.heap.size+2):=fun k=>by show ((w.alloc (Obj.cells #[.bool true,.int .i64 lv,.int .u64 tg,.int .u64 asd,.bool gl,.int .u64 pt] 74)).alloc (Obj.cells #[.int .i64 0,.int .u64 0,.int .u64 0,.bool false,.bool false,.int .u64 0] 136)).heap.size=_;simp
 have hm:=de pt;clear n1;go_enter Tryz.func80,Tryz.ntmps80;go_wp2_with fail;go_quiet (first
  | (go_at_call 98;exact Calls.quiet_of_same (HKL.out _))
  | (go_at_call 99;exact Calls.quiet_of_same (HTM.out _)))
 have K1:=H1.out nq;have K2:=H2.out nq;have B1:=HW.out nq;have S1:=HS.out nq;generalize ((w.alloc (Obj.cells #[.bool true,.int .i64 lv,.int .u64 tg,.int .u64 asd,.bool gl,.int .u64 pt] 74)).alloc (Obj.cells #[.int .i64 0,.int .u64 0,.int .u64 0,.bool false,.bool false,.int .u64 0] 136)).drewN nq=v2 at K1 K2 B1 S1 |-;have P1:Hid _:=K1;have P2:Hid _:=K2;clear H1 H2 HW HS K1 K2;obtain ⟨⟨x0,x1,x2,x3,x4,x5⟩,_⟩:=bG P1.out;obtain ⟨⟨y0,y1,y2,y3,y4,y5⟩,z0,z1,z2,z3,z4,z5⟩:=bG P2.out;have ne1:v2.heap.size≠w.heap.size:=by omega
 have ne2:v2.heap.size≠w.heap.size+1:=by omega
 have ne3:w.heap.size<v2.heap.size:=by omega
 have ne4:w.heap.size+1<v2.heap.size:=by omega
 clear HKL HTM;go_wp2_with fail;go_quiet ((go_at_call 100;exact Calls.quiet_of_same (HB.out _)));go_wp2_with fail;exact bodyPost_ret (v:=.tuple #[aW aZ,.bool false]) (by simp [results,Tryz.results80,go_sem,aW,aZ,y0,y1,y2,y3,y4,y5]) rfl ⟨rfl,di (below_drewN B1 _) (by omega) _ _ _ _ _ _⟩
theorem lS (lv tg asd pt tm:Int) (gl:Bool) (w:World) (HKL:Hid (∀w,Calls Tryz.prog 98 #[.int .i64 lv] w fun e w'=>e=.returned (.bool true)∧w'=w)) (HTM:Hid (∀w,Calls Tryz.prog 99 #[.int .i64 lv] w fun e w'=>e=.returned (.int .u64 tm)∧w'=w)) (h:tg<=tm) (h2:asd<=65535) (HB:Hid (∀w,Calls Tryz.prog 100 #[.int .u64 pt,.int .u64 32] w fun e w'=>e=.returned (.bool gl)∧w'=w)) (HGD:Hid (∀w,Calls Tryz.prog 142 #[.int .u64 pt,.int .i64 lv] w fun e w'=>e=.returned (.bool false)∧w'=w)):
 Calls Tryz.prog 80 #[.agg #[.bool true,.int .i64 lv,.int .u64 tg,.int .u64 asd,.bool gl,.int .u64 pt]] w fun e w'=>e=.returned (.tuple #[aW aZ,.bool false])∧Below w.heap.size w w':=by
 have hne2:(gl != gl)=false:=by simp
 have H1:Hid (∀k,(((w.alloc (Obj.cells #[.bool true,.int .i64 lv,.int .u64 tg,.int .u64 asd,.bool gl,.int .u64 pt] 74)).alloc (Obj.cells #[.int .i64 0,.int .u64 0,.int .u64 0,.bool false,.bool false,.int .u64 0] 136)).drewN k).heap[w.heap.size]?=some (.cells #[.bool true,.int .i64 lv,.int .u64 tg,.int .u64 asd,.bool gl,.int .u64 pt] 74 (0,0))):=by
  intro k;show ((w.alloc (Obj.cells #[.bool true,.int .i64 lv,.int .u64 tg,.int .u64 asd,.bool gl,.int .u64 pt] 74)).alloc (Obj.cells #[.int .i64 0,.int .u64 0,.int .u64 0,.bool false,.bool false,.int .u64 0] 136)).heap[w.heap.size]?=_;rw [heap_alloc_old _ _ (by simp)];exact heap_alloc_new w _
 have H2:Hid (∀k,(((w.alloc (Obj.cells #[.bool true,.int .i64 lv,.int .u64 tg,.int .u64 asd,.bool gl,.int .u64 pt] 74)).alloc (Obj.cells #[.int .i64 0,.int .u64 0,.int .u64 0,.bool false,.bool false,.int .u64 0] 136)).drewN k).heap[w.heap.size+1]?=some (.cells #[.int .i64 0,.int .u64 0,.int .u64 0,.bool false,.bool false,.int .u64 0] 136 (0,0))):=by
  intro k;have:=heap_alloc_new (w.alloc (Obj.cells #[.bool true,.int .i64 lv,.int .u64 tg,.int .u64 asd,.bool gl,.int .u64 pt] 74)) (Obj.cells #[.int .i64 0,.int .u64 0,.int .u64 0,.bool false,.bool false,.int .u64 0] 136);simp only [World.size_alloc] at this;exact this
 have n1:=((Below.refl w.heap.size w).alloc (Nat.le_refl _) (Obj.cells #[.bool true,.int .i64 lv,.int .u64 tg,.int .u64 asd,.bool gl,.int .u64 pt] 74)).alloc (by simp) (Obj.cells #[.int .i64 0,.int .u64 0,.int .u64 0,.bool false,.bool false,.int .u64 0] 136);have HW:Hid (∀k,Below w.heap.size w (((w.alloc (Obj.cells #[.bool true,.int .i64 lv,.int .u64 tg,.int .u64 asd,.bool gl,.int .u64 pt] 74)).alloc (Obj.cells #[.int .i64 0,.int .u64 0,.int .u64 0,.bool false,.bool false,.int .u64 0] 136)).drewN k)):=fun k=>below_drewN n1 k;have HS:Hid (∀k,(((w.alloc (Obj.cells #[.bool true,.int .i64 lv,.int .u64 tg,.int .u64 asd,.bool gl,.int .u64 pt] 74)).alloc (Obj.cells #[.int .i64 0,.int .u64 0,.int .u64 0,.bool false,.bool false,.int .u64 0] 136)).drewN k).heap.size=w.heap.size+2):=fun k=>by show ((w.alloc (Obj.cells #[.bool true,.int .i64 lv,.int .u64 tg,.int .u64 asd,.bool gl,.int .u64 pt] 74)).alloc (Obj.cells #[.int .i64 0,.int .u64 0,.int .u64 0,.bool false,.bool false,.int .u64 0] 136)).heap.size=_;simp
 have hm:=de pt;clear n1;go_enter Tryz.func80,Tryz.ntmps80;go_wp2_with fail;go_quiet (first
  | (go_at_call 98;exact Calls.quiet_of_same (HKL.out _))
  | (go_at_call 99;exact Calls.quiet_of_same (HTM.out _)))
 have K1:=H1.out nq;have K2:=H2.out nq;have B1:=HW.out nq;have S1:=HS.out nq;generalize ((w.alloc (Obj.cells #[.bool true,.int .i64 lv,.int .u64 tg,.int .u64 asd,.bool gl,.int .u64 pt] 74)).alloc (Obj.cells #[.int .i64 0,.int .u64 0,.int .u64 0,.bool false,.bool false,.int .u64 0] 136)).drewN nq=v2 at K1 K2 B1 S1 |-;have P1:Hid _:=K1;have P2:Hid _:=K2;clear H1 H2 HW HS K1 K2;obtain ⟨⟨x0,x1,x2,x3,x4,x5⟩,_⟩:=bG P1.out;obtain ⟨⟨y0,y1,y2,y3,y4,y5⟩,z0,z1,z2,z3,z4,z5⟩:=bG P2.out;have ne1:v2.heap.size≠w.heap.size:=by omega
 have ne2:v2.heap.size≠w.heap.size+1:=by omega
 have ne3:w.heap.size<v2.heap.size:=by omega
 have ne4:w.heap.size+1<v2.heap.size:=by omega
 clear HKL HTM;go_wp2_with fail;go_quiet (first
  | (go_at_call 100;exact Calls.quiet_of_same (HB.out _))
  | (go_at_call 142;exact Calls.quiet_of_same (HGD.out _)))
 go_wp2_with fail;exact bodyPost_ret (v:=.tuple #[aW aZ,.bool false]) (by simp [results,Tryz.results80,go_sem,aW,aZ,y0,y1,y2,y3,y4,y5]) rfl ⟨rfl,di (below_drewN B1 _) (by omega) _ _ _ _ _ _⟩
theorem kZ (lv tg asd pt tm:Int) (gl:Bool) (w:World) (HKL:Hid (∀w,Calls Tryz.prog 98 #[.int .i64 lv] w fun e w'=>e=.returned (.bool true)∧w'=w)) (HTM:Hid (∀w,Calls Tryz.prog 99 #[.int .i64 lv] w fun e w'=>e=.returned (.int .u64 tm)∧w'=w)) (h:tg<=tm) (h2:asd<=65535) (HB:Hid (∀w,Calls Tryz.prog 100 #[.int .u64 pt,.int .u64 32] w fun e w'=>e=.returned (.bool gl)∧w'=w)) (HGD:Hid (∀w,Calls Tryz.prog 142 #[.int .u64 pt,.int .i64 lv] w fun e w'=>e=.returned (.bool true)∧w'=w)):
 Calls Tryz.prog 80 #[.agg #[.bool true,.int .i64 lv,.int .u64 tg,.int .u64 asd,.bool gl,.int .u64 pt]] w fun e w'=>e=.returned (.tuple #[aW ⟨true,lv,tg,asd,gl,pt⟩,.bool true])∧Below w.heap.size w w':=by
 have hne2:(gl != gl)=false:=by simp
 have H1:Hid (∀k,(((w.alloc (Obj.cells #[.bool true,.int .i64 lv,.int .u64 tg,.int .u64 asd,.bool gl,.int .u64 pt] 74)).alloc (Obj.cells #[.int .i64 0,.int .u64 0,.int .u64 0,.bool false,.bool false,.int .u64 0] 136)).drewN k).heap[w.heap.size]?=some (.cells #[.bool true,.int .i64 lv,.int .u64 tg,.int .u64 asd,.bool gl,.int .u64 pt] 74 (0,0))):=by
  intro k;show ((w.alloc (Obj.cells #[.bool true,.int .i64 lv,.int .u64 tg,.int .u64 asd,.bool gl,.int .u64 pt] 74)).alloc (Obj.cells #[.int .i64 0,.int .u64 0,.int .u64 0,.bool false,.bool false,.int .u64 0] 136)).heap[w.heap.size]?=_;rw [heap_alloc_old _ _ (by simp)];exact heap_alloc_new w _
 have H2:Hid (∀k,(((w.alloc (Obj.cells #[.bool true,.int .i64 lv,.int .u64 tg,.int .u64 asd,.bool gl,.int .u64 pt] 74)).alloc (Obj.cells #[.int .i64 0,.int .u64 0,.int .u64 0,.bool false,.bool false,.int .u64 0] 136)).drewN k).heap[w.heap.size+1]?=some (.cells #[.int .i64 0,.int .u64 0,.int .u64 0,.bool false,.bool false,.int .u64 0] 136 (0,0))):=by
  intro k;have:=heap_alloc_new (w.alloc (Obj.cells #[.bool true,.int .i64 lv,.int .u64 tg,.int .u64 asd,.bool gl,.int .u64 pt] 74)) (Obj.cells #[.int .i64 0,.int .u64 0,.int .u64 0,.bool false,.bool false,.int .u64 0] 136);simp only [World.size_alloc] at this;exact this
 have n1:=((Below.refl w.heap.size w).alloc (Nat.le_refl _) (Obj.cells #[.bool true,.int .i64 lv,.int .u64 tg,.int .u64 asd,.bool gl,.int .u64 pt] 74)).alloc (by simp) (Obj.cells #[.int .i64 0,.int .u64 0,.int .u64 0,.bool false,.bool false,.int .u64 0] 136);have HW:Hid (∀k,Below w.heap.size w (((w.alloc (Obj.cells #[.bool true,.int .i64 lv,.int .u64 tg,.int .u64 asd,.bool gl,.int .u64 pt] 74)).alloc (Obj.cells #[.int .i64 0,.int .u64 0,.int .u64 0,.bool false,.bool false,.int .u64 0] 136)).drewN k)):=fun k=>below_drewN n1 k;have HS:Hid (∀k,(((w.alloc (Obj.cells #[.bool true,.int .i64 lv,.int .u64 tg,.int .u64 asd,.bool gl,.int .u64 pt] 74)).alloc (Obj.cells #[.int .i64 0,.int .u64 0,.int .u64 0,.bool false,.bool false,.int .u64 0] 136)).drewN k).heap.size=w.heap.size+2):=fun k=>by show ((w.alloc (Obj.cells #[.bool true,.int .i64 lv,.int .u64 tg,.int .u64 asd,.bool gl,.int .u64 pt] 74)).alloc (Obj.cells #[.int .i64 0,.int .u64 0,.int .u64 0,.bool false,.bool false,.int .u64 0] 136)).heap.size=_;simp
 have hm:=de pt;clear n1;go_enter Tryz.func80,Tryz.ntmps80;go_wp2_with fail;go_quiet (first
  | (go_at_call 98;exact Calls.quiet_of_same (HKL.out _))
  | (go_at_call 99;exact Calls.quiet_of_same (HTM.out _)))
 have K1:=H1.out nq;have K2:=H2.out nq;have B1:=HW.out nq;have S1:=HS.out nq;generalize ((w.alloc (Obj.cells #[.bool true,.int .i64 lv,.int .u64 tg,.int .u64 asd,.bool gl,.int .u64 pt] 74)).alloc (Obj.cells #[.int .i64 0,.int .u64 0,.int .u64 0,.bool false,.bool false,.int .u64 0] 136)).drewN nq=v2 at K1 K2 B1 S1 |-;have P1:Hid _:=K1;have P2:Hid _:=K2;clear H1 H2 HW HS K1 K2;obtain ⟨⟨x0,x1,x2,x3,x4,x5⟩,_⟩:=bG P1.out;obtain ⟨⟨y0,y1,y2,y3,y4,y5⟩,z0,z1,z2,z3,z4,z5⟩:=bG P2.out;have ne1:v2.heap.size≠w.heap.size:=by omega
 have ne2:v2.heap.size≠w.heap.size+1:=by omega
 have ne3:w.heap.size<v2.heap.size:=by omega
 have ne4:w.heap.size+1<v2.heap.size:=by omega
 clear HKL HTM;go_wp2_with fail;go_quiet (first
  | (go_at_call 100;exact Calls.quiet_of_same (HB.out _))
  | (go_at_call 142;exact Calls.quiet_of_same (HGD.out _)))
 go_wp2_with fail;exact bodyPost_ret (v:=.tuple #[aW ⟨true,lv,tg,asd,gl,pt⟩,.bool true]) (by simp [results,Tryz.results80,go_sem,aW,y0,y1,y2,y3,y4,y5,ne4]) rfl ⟨rfl,(di (below_drewN B1 nq) (by omega) _ _ _ _ _ _).alloc (by simp;omega) _⟩
theorem ju (x:EntM) (w:World) (hx:bf x):
 Calls Tryz.prog 80 #[cV x] w fun e w'=>e=.returned (.tuple #[aW (if ay x false=true then x else aZ),.bool (ay x false)])∧Below w.heap.size w w':=by
 obtain ⟨v,lv,tg,asd,gl,pt⟩:=x;obtain ⟨⟨a1,a2⟩,⟨b1,b2⟩,⟨c1,c2⟩,d1,d2⟩:=hx;simp only at a1 a2 b1 b2 c1 c2 d1 d2;unfold cV;simp only;cases v
 ·rw [show ay ⟨false,lv,tg,asd,gl,pt⟩ false=false by simp [ay]];exact lM lv tg asd pt 0 gl w
 by_cases h0:¬(0<=lv∧lv<=2)
 ·rw [show ay ⟨true,lv,tg,asd,gl,pt⟩ false=false by simp [ay];omega];exact lN lv tg asd pt 0 gl w (fun w=>by
   have:=ba lv w;rw [show decide (0<=lv∧lv<=2)=false by simpa using h0] at this;exact this)
 have h0':0<=lv∧lv<=2:=Decidable.not_not.1 h0;have HKL:Hid (∀w,Calls Tryz.prog 98 #[.int .i64 lv] w fun e w'=>e=.returned (.bool true)∧w'=w):=fun w=>by
  have:=ba lv w;rw [show decide (0<=lv∧lv<=2)=true by simpa using h0'] at this;exact this
 obtain ⟨tm,htm⟩:∃tm,dN lv-1=tm:=⟨_,rfl⟩;have HTM:Hid (∀w,Calls Tryz.prog 99 #[.int .i64 lv] w fun e w'=>e=.returned (.int .u64 tm)∧w'=w):=fun w=>by
  have:=db lv w (by omega);rw [htm] at this;exact this
 by_cases h1:¬(tg<=tm)
 ·rw [show ay ⟨true,lv,tg,asd,gl,pt⟩ false=false by simp [ay];omega];exact lP lv tg asd pt tm gl w HKL HTM h1
 have h1':tg<=tm:=Decidable.not_not.1 h1;by_cases h2:¬(asd<=65535)
 ·rw [show ay ⟨true,lv,tg,asd,gl,pt⟩ false=false by simp [ay];omega];exact lQ lv tg asd pt tm gl w HKL HTM h1' h2
 have h2':asd<=65535:=Decidable.not_not.1 h2;have hgood:ay ⟨true,lv,tg,asd,gl,pt⟩ false=((gl == aI pt 32) && (aH pt lv == 2)):=by
  simp only [ay,cM];simp [h0'.1,h0'.2,h2',show tg<dN lv by omega]
 rw [hgood];obtain ⟨g5,hg5⟩:∃g5,aI pt 32=g5:=⟨_,rfl⟩;obtain ⟨gd,hgd⟩:∃gd,(aH pt lv == 2)=gd:=⟨_,rfl⟩;have HB:Hid (∀w,Calls Tryz.prog 100 #[.int .u64 pt,.int .u64 32] w fun e w'=>e=.returned (.bool g5)∧w'=w):=fun w=>by
  have:=bi pt 32 w;rw [bs 5 pt 32 rfl (by omega) d1 d2,hg5] at this;exact this
 have HGD:Hid (∀w,Calls Tryz.prog 142 #[.int .u64 pt,.int .i64 lv] w fun e w'=>e=.returned (.bool gd)∧w'=w):=fun w=>by
  have:=jR pt lv w d1 d2;rw [hgd] at this;exact this
 rw [hg5,hgd];cases hq:(gl == g5)
 ·exact lR lv tg asd pt tm gl g5 w HKL HTM h1' h2' HB hq
 ·have hq':gl=g5:=by simpa using hq
  subst hq';cases gd
  ·exact lS lv tg asd pt tm gl w HKL HTM h1' h2' HB HGD
  ·exact kZ lv tg asd pt tm gl w HKL HTM h1' h2' HB HGD
theorem fs (b o:Nat) (sets tag:Int) (w:World) (hs:sets=1∨sets=2∨sets=4∨sets=8) (c0:w.cell? ⟨b,o,none⟩=some (.int .i64 sets)) (ht:0<=tag) (ht1:tag<=18446744073709551615):
 Calls Tryz.prog 81 #[.pointer (some ⟨b,o,none⟩),.int .u64 tag] w fun e w'=>e=.returned (.int .i64 (tag%sets))∧w'=w:=by
 rcases hs with rfl | rfl | rfl | rfl;all_goals
  go_enter Tryz.func81,Tryz.ntmps81;go_wp2_with fail;go_ret;exact ⟨aU (by omega),rfl⟩
end Go.Proofs.YtfgogedgolgnaaaGreat
