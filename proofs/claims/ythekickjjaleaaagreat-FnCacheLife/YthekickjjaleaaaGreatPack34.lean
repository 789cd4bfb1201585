import Derived.BigRegion
import Derived.Test.YthekickjjaleaaaGreatPack33
import Derived.Test.YthekickjjaleaaaGreatPack09
import Derived.Test.YthekickjjaleaaaGreatPack07
import Derived.Test.YthekickjjaleaaaGreatPack06
import Derived.Test.YthekickjjaleaaaGreatPack08
namespace Go.Proofs.YthekickjjaleaaaGreat
open Go.RowKit
set_option linter.unusedVariables false
attribute [local go_sem ↓] Go.wp_at_zero Go.wp_at_succ
def mT (z0:Nat):Prop:=∀(lv tg asd pt:Int) (gl vv:Bool) (w:World),Calls Tryz.prog z0 #[.agg #[.int .i64 lv,.int .u64 tg,.int .u64 asd,.bool gl,.bool vv,.int .u64 pt]] w fun e w'=>e=.returned (.agg #[.bool vv,.int .i64 lv,.int .u64 tg,.int .u64 asd,.bool gl,.int .u64 pt])∧Below w.heap.size w w'
set_option maxHeartbeats 1600000 in
theorem pD:mT 207∧mT 209:=by
 refine ⟨?_,?_⟩;have mL:Hid True:=trivial
 rotate_left
 have mP:Hid True:=trivial
 rotate_left
 all_goals
  intro lv tg asd pt gl vv w;first
   | (replace mL:=mL;have n1:=((Below.refl w.heap.size w).alloc (Nat.le_refl _) (Obj.cells #[.int .i64 lv,.int .u64 tg,.int .u64 asd,.bool gl,.bool vv,.int .u64 pt] 261)).alloc (by simp) (Obj.cells #[.bool vv,.int .i64 lv,.int .u64 tg,.int .u64 asd,.bool gl,.int .u64 pt] 83))
   | (replace mP:=mP;have n1:=((Below.refl w.heap.size w).alloc (Nat.le_refl _) (Obj.cells #[.int .i64 lv,.int .u64 tg,.int .u64 asd,.bool gl,.bool vv,.int .u64 pt] 271)).alloc (by simp) (Obj.cells #[.bool vv,.int .i64 lv,.int .u64 tg,.int .u64 asd,.bool gl,.int .u64 pt] 83))
  first
   | (replace mL:=mL;go_enter Tryz.func207,Tryz.ntmps207)
   | (replace mP:=mP;go_enter Tryz.func209,Tryz.ntmps209)
  go_wp2_with fail;first
   | (replace mL:=mL;exact bodyPost_ret (v:=.agg #[.bool vv,.int .i64 lv,.int .u64 tg,.int .u64 asd,.bool gl,.int .u64 pt]) (by simp [results,Tryz.results207,go_sem]) rfl ⟨rfl,n1⟩)
   | (replace mP:=mP;exact bodyPost_ret (v:=.agg #[.bool vv,.int .i64 lv,.int .u64 tg,.int .u64 asd,.bool gl,.int .u64 pt]) (by simp [results,Tryz.results209,go_sem]) rfl ⟨rfl,n1⟩)
def qq (z0:Nat):Prop:=∀(b o g n:Nat) (t:TlbM) (w:World) (hn:t.es.length=n) (hn1:n≤1048576) (hbl:b<w.heap.size) (hgl:g<w.heap.size)
 (c0:w.cell? ⟨b,o,none⟩=some (.int .i64 t.sets)) (c1:w.cell? ⟨b,o+1,none⟩=some (.int .i64 t.ways)) (c2:w.cell? ⟨b,o+2,none⟩=some (.slice (some ⟨g,0,none⟩) n n)) (hr:RowC w (some ⟨g,0,none⟩) n 6 (aE t.es)),Calls Tryz.prog z0 #[.pointer (some ⟨b,o,none⟩)] w fun e w'=>(∃x,e=.returned x∧TlbOwn w.heap.size w' x t)∧Below w.heap.size w w'
set_option maxRecDepth 20000 in
set_option maxHeartbeats 3200000 in
theorem lH:qq 160∧qq 163:=by
 refine ⟨?_,?_⟩;have mL:Hid True:=trivial
 rotate_left
 have mP:Hid True:=trivial
 rotate_left
 all_goals
  intro b o g n t w hn hn1 hbl hgl c0 c1 c2 hr;have HR:Hid (RowC w (some ⟨g,0,none⟩) n 6 (aE t.es)):=hr;have HN:Hid (t.es.length=n):=hn;obtain ⟨sets,ways,es⟩:=t;simp only at c0 c1 c2 HR HN;clear hr hn;obtain ⟨cs,hcs,hmk⟩:=wN n hn1;have n1:=(Below.refl w.heap.size w).alloc (Nat.le_refl _) (Obj.cells #[.int .i64 0,.int .i64 0,.slice none 0 0] 41);have H1:Hid ((w.alloc (Obj.cells #[.int .i64 0,.int .i64 0,.slice none 0 0] 41)).heap[w.heap.size]?=some (.cells #[.int .i64 0,.int .i64 0,.slice none 0 0] 41 (0,0))):=heap_alloc_new w _;have l1:(w.alloc (Obj.cells #[.int .i64 0,.int .i64 0,.slice none 0 0] 41)).heap.size=w.heap.size+1:=by simp
  have nV:Below (w.alloc (Obj.cells #[.int .i64 0,.int .i64 0,.slice none 0 0] 41)).heap.size (w.alloc (Obj.cells #[.int .i64 0,.int .i64 0,.slice none 0 0] 41)) ((w.alloc (Obj.cells #[.int .i64 0,.int .i64 0,.slice none 0 0] 41)).alloc (.cells cs 83)):=(Below.refl _ _).alloc (Nat.le_refl _) _;have hG:((w.alloc (Obj.cells #[.int .i64 0,.int .i64 0,.slice none 0 0] 41)).alloc (.cells cs 83)).heap[w.heap.size+1]?=some (.cells cs 83 (0,0)):=by
   have:=heap_alloc_new (w.alloc (Obj.cells #[.int .i64 0,.int .i64 0,.slice none 0 0] 41)) (.cells cs 83);simp only [World.size_alloc] at this;exact this
  have hcl:cs.toList.length=n*6:=by rw [hcs,dC];simp
  have O2:Hid (((w.alloc (Obj.cells #[.int .i64 0,.int .i64 0,.slice none 0 0] 41)).alloc (.cells cs 83)).ownsRow (w.heap.size+1) 83 6 (.slice (some ⟨w.heap.size+1,0,none⟩) n n) n (aG (bR 0 n es))):=by
   rw [kQ,←hcs];exact ⟨hcl,.inr ⟨_,n,cs,rfl,Nat.le_refl _,hG,Nat.le_refl _,by unfold maxLen;omega,by rw [←hcl];simp,List.take_of_length_le (by omega)⟩⟩
  have A2:=Below.step n1 nV (Nat.le_refl _);have K2:=ae H1 nV;have B2:Below (w.heap.size+1) ((w.alloc (Obj.cells #[.int .i64 0,.int .i64 0,.slice none 0 0] 41)).alloc (.cells cs 83)) ((w.alloc (Obj.cells #[.int .i64 0,.int .i64 0,.slice none 0 0] 41)).alloc (.cells cs 83)):=Below.refl _ _;have l2:((w.alloc (Obj.cells #[.int .i64 0,.int .i64 0,.slice none 0 0] 41)).alloc (.cells cs 83)).heap.size=w.heap.size+2:=by simp
  clear hG hcl hcs H1 n1 nV;have e0:w.heap.size≠b:=by omega
  have e1:w.heap.size+1≠b:=by omega
  first
   | (replace mL:=mL;go_enter Tryz.func160,Tryz.ntmps160)
   | (replace mP:=mP;go_enter Tryz.func163,Tryz.ntmps163)
  go_wp2_with fail;generalize ((w.alloc (Obj.cells #[.int .i64 0,.int .i64 0,.slice none 0 0] 41)).alloc (.cells cs 83))=v2 at O2 A2 K2 l2 B2 ⊢;go_loopw [17] (fun i wr=>∃k:Nat,k≤n∧i=.int .i64 k∧wr.ownsRow (w.heap.size+1) 83 6 (.slice (some ⟨w.heap.size+1,0,none⟩) n n) n (aG (bR k n es))∧Below (w.heap.size+1) v2 wr) (fun i _=>n-(intOf i).toNat)
  case atStart=>exact ⟨0,Nat.zero_le _,rfl,O2.out,B2⟩
  case round=>
   obtain ⟨k,hk,rfl,hO,hb⟩:=hrel;have PO:Hid (wr.ownsRow (w.heap.size+1) 83 6 (.slice (some ⟨w.heap.size+1,0,none⟩) n n) n (aG (bR k n es))):=hO;have lg:w.heap.size+1<wr.heap.size:=(bV hO).2.2;have A3:Below w.heap.size w wr:=A2.trans (hb.mono (by omega));have P1:Hid (wr.heap[w.heap.size]?=some (.cells #[.int .i64 0,.int .i64 0,.slice none 0 0] 41 (0,0))):=(hb.block w.heap.size (by omega)).trans K2.out;clear hO;have r0:wr.cell? ⟨b,o,none⟩=some (.int .i64 sets):=Below.cell2 A3 c0 hbl;have r1:wr.cell? ⟨b,o+1,none⟩=some (.int .i64 ways):=Below.cell2 A3 c1 hbl;have r2:wr.cell? ⟨b,o+2,none⟩=some (.slice (some ⟨g,0,none⟩) n n):=Below.cell2 A3 c2 hbl;by_cases hlt:k<n
   ·obtain ⟨⟨vv,lv,tg,asd,gl,pt⟩,hx⟩:∃x,es[k]?=some x:=⟨_,List.getElem?_eq_getElem (by rw [HN.out];exact hlt)⟩;have HXk:Hid (es[k]?=some ⟨vv,lv,tg,asd,gl,pt⟩):=hx;have CE:∀j u,j<6→(eC ⟨vv,lv,tg,asd,gl,pt⟩)[j]?=some u→wr.cell? ⟨g,k*6+j,none⟩=some u:=fun j u hj hu=>iO (HR.out.keep A3) HN.out k _ hx j u hj hu;have g0:wr.cell? ⟨g,k*6,none⟩=some (.int .i64 lv):=CE 0 _ (by omega) rfl;have g1:wr.cell? ⟨g,k*6+1,none⟩=some (.int .u64 tg):=CE 1 _ (by omega) rfl;have g2:wr.cell? ⟨g,k*6+2,none⟩=some (.int .u64 asd):=CE 2 _ (by omega) rfl;have g3:wr.cell? ⟨g,k*6+3,none⟩=some (.bool gl):=CE 3 _ (by omega) rfl;have g4:wr.cell? ⟨g,k*6+4,none⟩=some (.bool vv):=CE 4 _ (by omega) rfl;have g5:wr.cell? ⟨g,k*6+5,none⟩=some (.int .u64 pt):=CE 5 _ (by omega) rfl;clear CE hx;first
     | (replace mL:=mL;have n5:=(Below.refl wr.heap.size wr).alloc (Nat.le_refl _) (Obj.cells #[.int .i64 lv,.int .u64 tg,.int .u64 asd,.bool gl,.bool vv,.int .u64 pt] 261))
     | (replace mP:=mP;have n5:=(Below.refl wr.heap.size wr).alloc (Nat.le_refl _) (Obj.cells #[.int .i64 lv,.int .u64 tg,.int .u64 asd,.bool gl,.bool vv,.int .u64 pt] 271))
    go_wp2_with fail;first
     | (replace mL:=mL;generalize wr.alloc (Obj.cells #[.int .i64 lv,.int .u64 tg,.int .u64 asd,.bool gl,.bool vv,.int .u64 pt] 261)=v5 at n5 ⊢)
     | (replace mP:=mP;generalize wr.alloc (Obj.cells #[.int .i64 lv,.int .u64 tg,.int .u64 asd,.bool gl,.bool vv,.int .u64 pt] 271)=v5 at n5 ⊢)
    first
     | (replace mL:=mL;refine (pD.1 lv tg asd pt gl vv v5).mono ?_)
     | (replace mP:=mP;refine (pD.2 lv tg asd pt gl vv v5).mono ?_)
    rintro e v6 ⟨rfl,n6⟩;have n56:=Below.step n5 n6 (Nat.le_refl _);have SO:Hid (v6.ownsRow (w.heap.size+1) 83 6 (.slice (some ⟨w.heap.size+1,0,none⟩) n n) n (aG (bR k n es))):=ak PO.out n56;have B6:Below (w.heap.size+1) v2 v6:=hb.trans (n56.mono (by omega));have hfl:(aG (bR k n es)).length=n*6:=by
     have:=HN.out;subst this;rw [dC,go _ _ (by omega)]
    clear g0 g1 g2 g3 g4 g5 r0 r1 r2 n5 n6 n56 hb A3;have q0:=aB SO.out (k*6) _ (List.getElem?_eq_getElem (by omega));have q1:=aB SO.out (k*6+1) _ (List.getElem?_eq_getElem (by omega));have q2:=aB SO.out (k*6+2) _ (List.getElem?_eq_getElem (by omega));have q3:=aB SO.out (k*6+3) _ (List.getElem?_eq_getElem (by omega));have q4:=aB SO.out (k*6+4) _ (List.getElem?_eq_getElem (by omega));have q5:=aB SO.out (k*6+5) _ (List.getElem?_eq_getElem (by omega));generalize (aG (bR k n es))[k*6]'_=y0 at q0;generalize (aG (bR k n es))[k*6+1]'_=y1 at q1;generalize (aG (bR k n es))[k*6+2]'_=y2 at q2;generalize (aG (bR k n es))[k*6+3]'_=y3 at q3;generalize (aG (bR k n es))[k*6+4]'_=y4 at q4;generalize (aG (bR k n es))[k*6+5]'_=y5 at q5;have s0:=aJ SO.out (k*6);have s1:=aJ SO.out (k*6+1);have s2:=aJ SO.out (k*6+2);have s3:=aJ SO.out (k*6+3);have s4:=aJ SO.out (k*6+4);have s5:=aJ SO.out (k*6+5);go_wp2_with fail;go_roundw
    case rel=>
     refine ⟨k+1,by omega,by go_num,?_,?_⟩
     ·have:=HN.out;subst this;rw [jn k es _ HXk.out,fC _ _ _ (by rw [go _ _ (by omega)];exact hlt)];exact aC (aC (aC (aC (aC (aC SO.out _ _) _ _) _ _) _ _) _ _) _ _
     ·have hg1:w.heap.size+1≤w.heap.size+1:=Nat.le_refl _;exact (((((B6.setCell (p:=⟨w.heap.size+1,_,none⟩) hg1 _).setCell (p:=⟨w.heap.size+1,_,none⟩) hg1 _).setCell (p:=⟨w.heap.size+1,_,none⟩) hg1 _).setCell (p:=⟨w.heap.size+1,_,none⟩) hg1 _).setCell (p:=⟨w.heap.size+1,_,none⟩) hg1 _).setCell (p:=⟨w.heap.size+1,_,none⟩) hg1 _
    case measure=>simp [intOf];omega
   ·have hkn:k=n:=by omega
    subst hkn;obtain ⟨⟨d0,d1,d2⟩,f0,f1,f2⟩:=ao P1.out;go_wp2_with fail;go_region;first
     | (replace mL:=mL;all_goals
          go_wp2_with fail
          refine bodyPost_ret (v:=.agg #[.int .i64 sets,.int .i64 ways,.slice (some ⟨w.heap.size+1,0,none⟩) k k]) (by simp [results,Tryz.results160,go_sem,d0,d1,d2]) rfl ⟨⟨_,rfl,w.heap.size+1,k,by simp only;rw [HN.out],?_⟩,(du A3 (Nat.le_refl _) _ _ _).drew⟩
          simp only
          rw [HN.out]
          have hO:=PO.out
          have hq:=HN.out
          subst hq
          rw [ki] at hO
          exact aX (iB (cK hO (gb3 wr w.heap.size _ _ _) (by omega))) (by omega))
     | (replace mP:=mP;all_goals
          go_wp2_with fail
          refine bodyPost_ret (v:=.agg #[.int .i64 sets,.int .i64 ways,.slice (some ⟨w.heap.size+1,0,none⟩) k k]) (by simp [results,Tryz.results163,go_sem,d0,d1,d2]) rfl ⟨⟨_,rfl,w.heap.size+1,k,by simp only;rw [HN.out],?_⟩,(du A3 (Nat.le_refl _) _ _ _).drew⟩
          simp only
          rw [HN.out]
          have hO:=PO.out
          have hq:=HN.out
          subst hq
          rw [ki] at hO
          exact aX (iB (cK hO (gb3 wr w.heap.size _ _ _) (by omega))) (by omega))
end Go.Proofs.YthekickjjaleaaaGreat

namespace Go.Proofs.YthekickjjaleaaaGreat
open Go.RowKit
set_option linter.unusedVariables false
theorem iN (level:Int) (w:World) (hl:level=0∨level=1∨level=2):
 Calls Tryz.prog 219 #[.int .i64 level] w fun e w'=>e=.returned (.int .u64 (jo level-1))∧w'=w:=by
 rcases hl with rfl | rfl | rfl;all_goals
  go_enter Tryz.func219,Tryz.ntmps219;go_wp2_with (go_at_call 200;refine (fD 15 32767 _ (by omega)).mono ?_;rintro e w' ⟨rfl,rfl⟩);go_ret;exact ⟨fw (by decide),rfl⟩
theorem vf (va level:Int) (w:World) (hv0:0≤va) (hv1:va≤18446744073709551615) (hl:level=0∨level=1∨level=2):
 Calls Tryz.prog 204 #[.int .u64 va,.int .i64 level] w fun e w'=>e=.returned (.int .u64 (ev va level))∧∃n,w'=w.drewN n:=by
 rcases hl with rfl | rfl | rfl
 ·have H:Hid (bits .and .u64 (va/64) 511=ev va 0):=gW 9 (va/64) 511 rfl (by omega) (by omega) (by omega);go_enter Tryz.func204,Tryz.ntmps204;go_wp2_with fail;go_quiet ((go_at_call 219;exact Calls.quiet_of_same (iN 0 _ (by omega))));go_wp2_with fail;go_ret;exact ⟨fw H.out,nq,rfl⟩
 ·have H:Hid (bits .and .u64 (va/512) 63=ev va 1):=gW 6 (va/512) 63 rfl (by omega) (by omega) (by omega);go_enter Tryz.func204,Tryz.ntmps204;go_wp2_with fail;go_quiet ((go_at_call 219;exact Calls.quiet_of_same (iN 1 _ (by omega))));go_wp2_with fail;go_ret;exact ⟨fw H.out,nq,rfl⟩
 ·have H:Hid (bits .and .u64 (va/4096) 7=ev va 2):=gW 3 (va/4096) 7 rfl (by omega) (by omega) (by omega);go_enter Tryz.func204,Tryz.ntmps204;go_wp2_with fail;go_quiet ((go_at_call 219;exact Calls.quiet_of_same (iN 2 _ (by omega))));go_wp2_with fail;go_ret;exact ⟨fw H.out,nq,rfl⟩
theorem sU (x level:Int) (w:World) (h0:0≤x) (h1:x≤18446744073709551615):
 Calls Tryz.prog 280 #[.int .u64 x,.int .i64 level] w fun e w'=>e=.returned (.bool (bC x level == 2))∧w'=w:=by
 go_enter Tryz.func280,Tryz.ntmps280;go_wp2_with (go_at_call 240;refine (tJ x level _ h0 h1).mono ?_;rintro e w' ⟨rfl,rfl⟩);go_ret;exact ⟨aF (by simp),rfl⟩
theorem sV (x level:Int) (w:World) (h0:0≤x) (h1:x≤18446744073709551615):
 Calls Tryz.prog 281 #[.int .u64 x,.int .i64 level] w fun e w'=>e=.returned (.bool (bC x level == 1))∧w'=w:=by
 go_enter Tryz.func281,Tryz.ntmps281;go_wp2_with (go_at_call 240;refine (tJ x level _ h0 h1).mono ?_;rintro e w' ⟨rfl,rfl⟩);go_ret;exact ⟨aF (by simp),rfl⟩
theorem qI (k:Int) (w:World):
 Calls Tryz.prog 92 #[.int .i64 k] w fun e w'=>e=.returned (.bool (decide (0≤k∧k≤255)))∧w'=w:=by
 by_cases h:0≤k
 ·go_enter Tryz.func92,Tryz.ntmps92;go_wp2_with fail;go_ret;exact ⟨aF (by simp [h]),rfl⟩
 ·go_enter Tryz.func92,Tryz.ntmps92;go_wp2_with fail;go_ret;exact ⟨aF (by simp;omega),rfl⟩
end Go.Proofs.YthekickjjaleaaaGreat

namespace Go.Proofs.YthekickjjaleaaaGreat
open Go.RowKit
set_option linter.unusedVariables false
theorem qu (lv tg asd va:Int) (gl:Bool) (w:World) (hl:lv=0∨lv=1∨lv=2) (hv0:0≤va) (hv1:va≤18446744073709551615):
 Calls Tryz.prog 157 #[.agg #[.int .i64 lv,.int .u64 tg,.int .u64 asd,.bool gl],.int .u64 va] w fun e w'=>e=.returned (.bool (tg == ev va lv))∧Below w.heap.size w w':=by
 have n1:=(Below.refl w.heap.size w).alloc (Nat.le_refl _) (Obj.cells #[.int .i64 lv,.int .u64 tg,.int .u64 asd,.bool gl] 246);obtain ⟨tm,htm⟩:∃tm,ev va lv=tm:=⟨_,rfl⟩;have HT:Hid (∀w,Calls Tryz.prog 204 #[.int .u64 va,.int .i64 lv] w fun e w'=>e=.returned (.int .u64 tm)∧∃n,w'=w.drewN n):=fun w=>by
  have:=vf va lv w hv0 hv1 hl;rw [htm] at this;exact this
 rw [htm];clear htm;go_enter Tryz.func157,Tryz.ntmps157;go_wp2_with fail;go_quiet ((go_at_call 204;exact Calls.quiet_of (HT.out _)));go_wp2_with fail;go_ret;exact ⟨rfl,below_drewN n1 nq⟩
theorem vS (lv tg asd va asid:Int) (gl:Bool) (w:World) (hl:lv=0∨lv=1∨lv=2) (hv0:0≤va) (hv1:va≤18446744073709551615):
 Calls Tryz.prog 210 #[.agg #[.int .i64 lv,.int .u64 tg,.int .u64 asd,.bool gl],.int .u64 va,.int .u64 asid] w fun e w'=>e=.returned (.bool ((tg == ev va lv) && (gl || asd == asid)))∧Below w.heap.size w w':=by
 have n1:=(Below.refl w.heap.size w).alloc (Nat.le_refl _) (Obj.cells #[.int .i64 lv,.int .u64 tg,.int .u64 asd,.bool gl] 246);have H1:Hid ((w.alloc (Obj.cells #[.int .i64 lv,.int .u64 tg,.int .u64 asd,.bool gl] 246)).heap[w.heap.size]?=some (.cells #[.int .i64 lv,.int .u64 tg,.int .u64 asd,.bool gl] 246 (0,0))):=heap_alloc_new w _;obtain ⟨sb,hsb⟩:∃sb,(tg == ev va lv)=sb:=⟨_,rfl⟩;have HS:Hid (∀w,Calls Tryz.prog 157 #[.agg #[.int .i64 lv,.int .u64 tg,.int .u64 asd,.bool gl],.int .u64 va] w fun e w'=>e=.returned (.bool sb)∧Below w.heap.size w w'):=fun w=>by
  have:=qu lv tg asd va gl w hl hv0 hv1;rw [hsb] at this;exact this
 rw [hsb];clear hsb;cases sb <;> cases gl;all_goals
  go_enter Tryz.func210,Tryz.ntmps210;go_wp2_with fail;generalize hv1:w.alloc _=v1 at n1 H1 ⊢;refine (HS.out v1).mono ?_;rintro e v2 ⟨rfl,n2⟩;have K1:=ab H1.out n2 (Array.getElem?_eq_some_iff.1 H1.out).1;obtain ⟨⟨x0,x1,x2,x3⟩,_,_,_,_⟩:=ax K1;have A2:=Below.step n1 n2 (Nat.le_refl _);go_wp2_with fail;go_ret;exact ⟨aF (by simp),A2⟩
end Go.Proofs.YthekickjjaleaaaGreat

namespace Go.Proofs.YthekickjjaleaaaGreat
open Go.RowKit
set_option linter.unusedVariables false
def u6 (f:FenceM) (lv tg asd:Int) (gl:Bool):Bool:=(!f.hasVa || tg == ev f.va lv) && (!f.hasAsid || (!gl && asd == f.asid))
theorem rA (f:FenceM) (lv tg asd:Int) (gl:Bool) (h:f.hasVa=false∨cU f.va=true):u6 f lv tg asd gl=fd f lv tg asd gl:=by
 unfold u6 fd;rcases h with h | h
 ·rw [h];simp
 ·rw [h];cases f.hasVa <;> simp [bne]
theorem sN (f:FenceM) (lv tg asd:Int) (gl:Bool) (h1:f.hasVa=true) (h2:cU f.va=false):fd f lv tg asd gl=false:=by
 unfold fd;rw [h1,h2];simp
theorem sO (lv tg asd:Int) (gl:Bool) (w:World):
 Calls Tryz.prog 155 #[.agg #[.int .i64 lv,.int .u64 tg,.int .u64 asd,.bool gl]] w fun e w'=>e=.returned (.bool false)∧Below w.heap.size w w':=by
 have n1:=(Below.refl w.heap.size w).alloc (Nat.le_refl _) (Obj.cells #[.int .i64 lv,.int .u64 tg,.int .u64 asd,.bool gl] 246);go_enter Tryz.func155,Tryz.ntmps155;go_wp2_with fail;go_ret;exact ⟨rfl,by first | exact n1 | exact Below.refl _ _⟩
set_option maxHeartbeats 1600000 in
theorem sP (hv:Bool) (fva:Int) (ha:Bool) (fa:Int) (lv tg asd:Int) (gl:Bool) (pf pv:Nat) (w:World) (hl:lv=0∨lv=1∨lv=2) (hv0:0≤fva) (hv1:fva≤18446744073709551615)
 (hF:w.heap[pf]?=some (.cells #[.bool hv,.int .u64 fva,.bool ha,.int .u64 fa] 51 (0,0))) (hV:w.heap[pv]?=some (.cells #[.int .u64 fva] 181 (0,0))):
 Calls Tryz.prog 156 #[.agg #[.int .i64 lv,.int .u64 tg,.int .u64 asd,.bool gl],.pointer (some ⟨pf,0,none⟩),.pointer (some ⟨pv,0,none⟩)] w fun e w'=>e=.returned (.bool (u6 ⟨hv,fva,ha,fa⟩ lv tg asd gl))∧Below w.heap.size w w':=by
 have n1:=(Below.refl w.heap.size w).alloc (Nat.le_refl _) (Obj.cells #[.int .i64 lv,.int .u64 tg,.int .u64 asd,.bool gl] 246);have H1:Hid ((w.alloc (Obj.cells #[.int .i64 lv,.int .u64 tg,.int .u64 asd,.bool gl] 246)).heap[w.heap.size]?=some (.cells #[.int .i64 lv,.int .u64 tg,.int .u64 asd,.bool gl] 246 (0,0))):=heap_alloc_new w _;have lf:pf<w.heap.size:=(Array.getElem?_eq_some_iff.1 hF).1;have lv':pv<w.heap.size:=(Array.getElem?_eq_some_iff.1 hV).1;have F1:Hid ((w.alloc (Obj.cells #[.int .i64 lv,.int .u64 tg,.int .u64 asd,.bool gl] 246)).heap[pf]?=some (.cells #[.bool hv,.int .u64 fva,.bool ha,.int .u64 fa] 51 (0,0))):=ab hF n1 lf;have V1:Hid ((w.alloc (Obj.cells #[.int .i64 lv,.int .u64 tg,.int .u64 asd,.bool gl] 246)).heap[pv]?=some (.cells #[.int .u64 fva] 181 (0,0))):=ab hV n1 lv';obtain ⟨sb,hsb⟩:∃sb,(tg == ev fva lv)=sb:=⟨_,rfl⟩;have HSp:Hid (∀w,Calls Tryz.prog 157 #[.agg #[.int .i64 lv,.int .u64 tg,.int .u64 asd,.bool gl],.int .u64 fva] w fun e w'=>e=.returned (.bool sb)∧Below w.heap.size w w'):=fun w=>by
  have:=qu lv tg asd fva gl w hl hv0 hv1;rw [hsb] at this;exact this
 have hcov:u6 ⟨hv,fva,ha,fa⟩ lv tg asd gl=((!hv || sb) && (!ha || (!gl && asd == fa))):=by unfold u6;rw [hsb]
 rw [hcov];obtain ⟨⟨f0,f1,f2,f3⟩,_,_,_,_⟩:=ax hF;have vc:w.cell? ⟨pv,0,none⟩=some (.int .u64 fva):=by simp [World.cell?,hV]
 clear hsb hcov hF hV;cases hv
 ·cases ha
  ·go_enter Tryz.func156,Tryz.ntmps156;go_wp2_with fail;go_ret;exact ⟨aF (by simp),n1⟩
  ·cases gl;all_goals
    go_enter Tryz.func156,Tryz.ntmps156;go_wp2_with fail;go_ret;exact ⟨aF (by simp),n1⟩
 ·cases ha
  ·cases sb;all_goals
    go_enter Tryz.func156,Tryz.ntmps156;go_wp2_with fail;generalize w.alloc (Obj.cells #[.int .i64 lv,.int .u64 tg,.int .u64 asd,.bool gl] 246)=v1 at n1 H1 F1 V1 ⊢;refine (HSp.out v1).mono ?_;rintro e v2 ⟨rfl,n2⟩;have A2:=Below.step n1 n2 (Nat.le_refl _);have F2:=ae F1 n2;have R2:=ae H1 n2;clear f0 f1 f2 f3 vc;obtain ⟨⟨f0,f1,f2,f3⟩,_,_,_,_⟩:=ax F2.out;obtain ⟨⟨r0,r1,r2,r3⟩,_,_,_,_⟩:=ax R2.out;go_wp2_with fail;go_ret;exact ⟨aF (by simp),A2⟩
  ·cases sb <;> cases gl;all_goals
    go_enter Tryz.func156,Tryz.ntmps156;go_wp2_with fail;generalize hv1:w.alloc _=v1 at n1 H1 F1 V1 ⊢;refine (HSp.out v1).mono ?_;rintro e v2 ⟨rfl,n2⟩;have A2:=Below.step n1 n2 (Nat.le_refl _);have F2:=ae F1 n2;have R2:=ae H1 n2;clear f0 f1 f2 f3 vc;obtain ⟨⟨f0,f1,f2,f3⟩,_,_,_,_⟩:=ax F2.out;obtain ⟨⟨r0,r1,r2,r3⟩,_,_,_,_⟩:=ax R2.out;go_wp2_with fail;go_ret;exact ⟨aF (by simp),A2⟩
def CovAns (base:Nat) (w:World) (e:Ending) (f:FenceM):Prop:=
 (f.hasVa=true∧cU f.va=false∧e=.returned (.func (.func 155) #[] #[]))∨
 ((f.hasVa=false∨cU f.va=true)∧∃pf pv,e=.returned (.func (.func 156) #[] #[.pointer (some ⟨pf,0,none⟩),.pointer (some ⟨pv,0,none⟩)])∧base≤pf∧base≤pv∧
  w.heap[pf]?=some (.cells #[.bool f.hasVa,.int .u64 f.va,.bool f.hasAsid,.int .u64 f.asid] 51 (0,0))∧w.heap[pv]?=some (.cells #[.int .u64 f.va] 181 (0,0)))
theorem oz (hv:Bool) (fva:Int) (ha:Bool) (fa:Int) (w:World) (hv0:0≤fva) (hv1:fva≤18446744073709551615):
 Calls Tryz.prog 86 #[.agg #[.bool hv,.int .u64 fva,.bool ha,.int .u64 fa]] w fun e w'=>CovAns w.heap.size w' e ⟨hv,fva,ha,fa⟩∧Below w.heap.size w w':=by
 have n1:=((Below.refl w.heap.size w).alloc (Nat.le_refl _) (Obj.cells #[.bool hv,.int .u64 fva,.bool ha,.int .u64 fa] 51)).alloc (by simp) (Obj.cells #[.int .u64 fva] 181);have H1:Hid (((w.alloc (Obj.cells #[.bool hv,.int .u64 fva,.bool ha,.int .u64 fa] 51)).alloc (Obj.cells #[.int .u64 fva] 181)).heap[w.heap.size]?=some (.cells #[.bool hv,.int .u64 fva,.bool ha,.int .u64 fa] 51 (0,0))):=by
  show _=_;rw [heap_alloc_old _ _ (by simp)];exact heap_alloc_new w _
 have H2:Hid (((w.alloc (Obj.cells #[.bool hv,.int .u64 fva,.bool ha,.int .u64 fa] 51)).alloc (Obj.cells #[.int .u64 fva] 181)).heap[w.heap.size+1]?=some (.cells #[.int .u64 fva] 181 (0,0))):=by
  have:=heap_alloc_new (w.alloc (Obj.cells #[.bool hv,.int .u64 fva,.bool ha,.int .u64 fa] 51)) (Obj.cells #[.int .u64 fva] 181);simp only [World.size_alloc] at this;exact this
 obtain ⟨cb,hcb⟩:∃cb,cU fva=cb:=⟨_,rfl⟩;have HCan:Hid (∀u:World,Calls Tryz.prog 154 #[.int .u64 fva] u fun e w'=>e=.returned (.bool cb)∧w'=u):=fun u=>by
  have:=qK fva u hv0 hv1;rw [hcb] at this;exact this
 have HCb:Hid (cU fva=cb):=hcb;clear hcb;cases hv
 ·go_enter Tryz.func86,Tryz.ntmps86;go_wp2_with fail;go_ret;exact ⟨.inr ⟨.inl rfl,_,_,rfl,Nat.le_refl _,by omega,H1.out,H2.out⟩,n1⟩
 ·cases cb
  ·go_enter Tryz.func86,Tryz.ntmps86;go_wp2_with (go_at_call 154;refine (HCan.out _).mono ?_;rintro e w' ⟨rfl,rfl⟩);go_ret;exact ⟨.inl ⟨rfl,HCb.out,rfl⟩,n1⟩
  ·go_enter Tryz.func86,Tryz.ntmps86;go_wp2_with (go_at_call 154;refine (HCan.out _).mono ?_;rintro e w' ⟨rfl,rfl⟩);go_ret;exact ⟨.inr ⟨.inr HCb.out,_,_,rfl,Nat.le_refl _,by omega,H1.out,H2.out⟩,n1⟩
end Go.Proofs.YthekickjjaleaaaGreat

namespace Go.Proofs.YthekickjjaleaaaGreat
open Go.RowKit
set_option linter.unusedVariables false
attribute [local go_sem ↓] Go.wp_at_zero Go.wp_at_succ
def kJ (z0:Nat) (z1:Nat):Prop:=∀(hv:Bool) (fva:Int) (ha:Bool) (fa:Int) (pf pv b o g n base:Nat) (es:List EntM) (sets ways:Int) (w:World) (hn:es.length=n) (hn1:n≤1048576) (hbl:b<w.heap.size) (hbg:b≠g) (hv0:0≤fva) (hv1:fva≤18446744073709551615) (hcan:hv=false∨cU fva=true) (hpf:pf≠g) (hpv:pv≠g) (hF:w.heap[pf]?=some (.cells #[.bool hv,.int .u64 fva,.bool ha,.int .u64 fa] 51 (0,0))) (hV:w.heap[pv]?=some (.cells #[.int .u64 fva] 181 (0,0)))
 (c2:w.cell? ⟨b,o+2,none⟩=some (.slice (some ⟨g,0,none⟩) n n)) (ho:w.ownsRow base z1 6 (.slice (some ⟨g,0,none⟩) n n) n (aE es)) (hlv:∀(j:Nat) (x:EntM),es[j]?=some x→x.valid=true→0≤x.level∧x.level≤2),Calls Tryz.prog z0 #[.pointer (some ⟨b,o,none⟩),.func (.func 156) #[] #[.pointer (some ⟨pf,0,none⟩),.pointer (some ⟨pv,0,none⟩)]] w fun x w'=>x=.returned (.tuple #[])∧w'.ownsRow base z1 6 (.slice (some ⟨g,0,none⟩) n n) n (aE (es.map (bW ⟨hv,fva,ha,fa⟩)))∧w.grownBy w' (some g)
set_option maxRecDepth 20000 in
set_option maxHeartbeats 3200000 in
theorem mC:kJ 159 261∧kJ 162 271:=by
 refine ⟨?_,?_⟩;have mL:Hid True:=trivial
 rotate_left
 have mP:Hid True:=trivial
 rotate_left
 all_goals
  intro hv fva ha fa pf pv b o g n base es sets ways w hn hn1 hbl hbg hv0 hv1 hcan hpf hpv hF hV c2 ho hlv;first
   | (replace mL:=mL;have HO:Hid (w.ownsRow base 261 6 (.slice (some ⟨g,0,none⟩) n n) n (aE es)):=ho)
   | (replace mP:=mP;have HO:Hid (w.ownsRow base 271 6 (.slice (some ⟨g,0,none⟩) n n) n (aE es)):=ho)
  have HN:Hid (es.length=n):=hn;have HLv:Hid (∀(j:Nat) (x:EntM),es[j]?=some x→x.valid=true→0≤x.level∧x.level≤2):=hlv;have hg:=(bV ho).2.2;simp only at hg;clear ho hn hlv;first
   | (replace mL:=mL;go_enter Tryz.func159,Tryz.ntmps159)
   | (replace mP:=mP;go_enter Tryz.func162,Tryz.ntmps162)
  go_wp2_with fail;first
   | (replace mL:=mL;go_loopw [11] (fun i wr=>∃k:Nat,k≤n∧i=.int .i64 k∧w.grownBy wr (some g)∧wr.ownsRow base 261 6 (.slice (some ⟨g,0,none⟩) n n) n (aE (bq ⟨hv,fva,ha,fa⟩ k es))) (fun i _=>n-(intOf i).toNat))
   | (replace mP:=mP;go_loopw [11] (fun i wr=>∃k:Nat,k≤n∧i=.int .i64 k∧w.grownBy wr (some g)∧wr.ownsRow base 271 6 (.slice (some ⟨g,0,none⟩) n n) n (aE (bq ⟨hv,fva,ha,fa⟩ k es))) (fun i _=>n-(intOf i).toNat))
  case atStart=>exact ⟨0,Nat.zero_le _,rfl,az _ _,by rw [show bq ⟨hv,fva,ha,fa⟩ 0 es=es by simp [bq]];exact HO.out⟩
  case round=>
   obtain ⟨k,hk,rfl,hgb,hO⟩:=hrel;first
    | (replace mL:=mL;have PO:Hid (wr.ownsRow base 261 6 (.slice (some ⟨g,0,none⟩) n n) n (aE (bq ⟨hv,fva,ha,fa⟩ k es))):=hO)
    | (replace mP:=mP;have PO:Hid (wr.ownsRow base 271 6 (.slice (some ⟨g,0,none⟩) n n) n (aE (bq ⟨hv,fva,ha,fa⟩ k es))):=hO)
   have lr:w.heap.size≤wr.heap.size:=hgb.size;have hfl:(aE (bq ⟨hv,fva,ha,fa⟩ k es)).length=n*6:=hO.1;clear hO;have r2:wr.cell? ⟨b,o+2,none⟩=some (.slice (some ⟨g,0,none⟩) n n):=kW hgb c2 hbl hbg;by_cases hlt:k<n
   ·obtain ⟨⟨vv,lv,tg,asd,gl,pt⟩,hx⟩:∃x,es[k]?=some x:=⟨_,List.getElem?_eq_getElem (by rw [HN.out];exact hlt)⟩;have hx':(bq ⟨hv,fva,ha,fa⟩ k es)[k]?=some ⟨vv,lv,tg,asd,gl,pt⟩:=by
     first
      | exact hx
      | (unfold bq
         have hkl:k≤es.length:=by rw [HN.out];omega
         rw [List.getElem?_append_right (by simp;omega),List.length_map,List.length_take,Nat.min_eq_left hkl,Nat.sub_self,List.getElem?_drop,Nat.add_zero,hx])
    have HXk:Hid (es[k]?=some ⟨vv,lv,tg,asd,gl,pt⟩):=hx;have CE:∀j u,j<6→(eC ⟨vv,lv,tg,asd,gl,pt⟩)[j]?=some u→wr.cell? ⟨g,k*6+j,none⟩=some u:=fun j u hj hu=>mg PO.out (by have:=hfl;rw [dR] at this;omega) k _ hx' j u hj hu;have g0:wr.cell? ⟨g,k*6,none⟩=some (.int .i64 lv):=CE 0 _ (by omega) rfl;have g1:wr.cell? ⟨g,k*6+1,none⟩=some (.int .u64 tg):=CE 1 _ (by omega) rfl;have g2:wr.cell? ⟨g,k*6+2,none⟩=some (.int .u64 asd):=CE 2 _ (by omega) rfl;have g3:wr.cell? ⟨g,k*6+3,none⟩=some (.bool gl):=CE 3 _ (by omega) rfl;have g4:wr.cell? ⟨g,k*6+4,none⟩=some (.bool vv):=CE 4 _ (by omega) rfl;have g5:wr.cell? ⟨g,k*6+5,none⟩=some (.int .u64 pt):=CE 5 _ (by omega) rfl;have HNx:Hid _:=kS ⟨hv,fva,ha,fa⟩ k es _ hx;have HSm:Hid ((bq ⟨hv,fva,ha,fa⟩ k es).set k ⟨vv,lv,tg,asd,gl,pt⟩=bq ⟨hv,fva,ha,fa⟩ k es):=by
     show _=_;apply List.ext_getElem?;intro j;rw [List.getElem?_set];by_cases hj:k=j
     ·subst hj;have hkl:=(List.getElem?_eq_some_iff.1 hx').1;rw [if_pos rfl,if_pos hkl,hx']
     ·rw [if_neg hj]
    have HLx:Hid (vv=true→0≤lv∧lv≤2):=fun h=>HLv.out k _ hx h;clear CE hx hx';first
     | (replace mL:=mL;have n5:=(Below.refl wr.heap.size wr).alloc (Nat.le_refl _) (Obj.cells #[.int .i64 lv,.int .u64 tg,.int .u64 asd,.bool gl,.bool vv,.int .u64 pt] 261))
     | (replace mP:=mP;have n5:=(Below.refl wr.heap.size wr).alloc (Nat.le_refl _) (Obj.cells #[.int .i64 lv,.int .u64 tg,.int .u64 asd,.bool gl,.bool vv,.int .u64 pt] 271))
    have hgb5:=eW hgb n5;cases vv
    ·have hst:bW ⟨hv,fva,ha,fa⟩ ⟨false,lv,tg,asd,gl,pt⟩=⟨false,lv,tg,asd,gl,pt⟩:=by simp [bW]
     go_wp2_with fail;go_roundw
     case rel=>exact ⟨k+1,by omega,by go_num,hgb5,by rw [HNx.out,hst,HSm.out];exact ak PO.out n5⟩
     case measure=>simp [intOf];omega
    ·obtain ⟨hl0,hl2⟩:=HLx.out rfl;obtain ⟨cb,hcb⟩:∃cb,fd ⟨hv,fva,ha,fa⟩ lv tg asd gl=cb:=⟨_,rfl⟩;have hst:bW ⟨hv,fva,ha,fa⟩ ⟨true,lv,tg,asd,gl,pt⟩=if cb=true then bQ else ⟨true,lv,tg,asd,gl,pt⟩:=by simp [bW,hcb]
     have HSt:Hid _:=hst;have HCv:Hid (∀u:World,u.heap[pf]?=some (.cells #[.bool hv,.int .u64 fva,.bool ha,.int .u64 fa] 51 (0,0))→u.heap[pv]?=some (.cells #[.int .u64 fva] 181 (0,0))→Calls Tryz.prog 156 #[.agg #[.int .i64 lv,.int .u64 tg,.int .u64 asd,.bool gl],.pointer (some ⟨pf,0,none⟩),.pointer (some ⟨pv,0,none⟩)] u fun e w'=>e=.returned (.bool cb)∧Below u.heap.size u w'):=fun u h1 h2=>by
      have:=sP hv fva ha fa lv tg asd gl pf pv u (by omega) hv0 hv1 h1 h2;rw [rA _ _ _ _ _ hcan,hcb] at this;exact this
     have F5:=aw hF hgb5 hpf;have V5:=aw hV hgb5 hpv;clear hcb hst;go_wp2_with fail;first
      | (replace mL:=mL;generalize wr.alloc (Obj.cells #[.int .i64 lv,.int .u64 tg,.int .u64 asd,.bool gl,.bool true,.int .u64 pt] 261)=v5 at n5 hgb5 F5 V5 ⊢)
      | (replace mP:=mP;generalize wr.alloc (Obj.cells #[.int .i64 lv,.int .u64 tg,.int .u64 asd,.bool gl,.bool true,.int .u64 pt] 271)=v5 at n5 hgb5 F5 V5 ⊢)
     refine (HCv.out v5 F5 V5).mono ?_;rintro e v6 ⟨rfl,n6⟩;have n56:=Below.step n5 n6 (Nat.le_refl _);have hgb6:=eW hgb n56;first
      | (replace mL:=mL;have SO:Hid (v6.ownsRow base 261 6 (.slice (some ⟨g,0,none⟩) n n) n (aE (bq ⟨hv,fva,ha,fa⟩ k es))):=ak PO.out n56)
      | (replace mP:=mP;have SO:Hid (v6.ownsRow base 271 6 (.slice (some ⟨g,0,none⟩) n n) n (aE (bq ⟨hv,fva,ha,fa⟩ k es))):=ak PO.out n56)
     clear g0 g1 g2 g3 g4 g5 r2 F5 V5 n5 n6 hgb5 hgb;have r2:v6.cell? ⟨b,o+2,none⟩=some (.slice (some ⟨g,0,none⟩) n n):=kW hgb6 c2 hbl hbg;cases cb
     ·go_wp2_with fail;go_roundw
      case rel=>exact ⟨k+1,by omega,by go_num,hgb6,by rw [HNx.out,HSt.out];simp only [Bool.false_eq_true,if_false];rw [HSm.out];exact SO.out⟩
      case measure=>simp [intOf];omega
     ·
      have q0:=aB SO.out (k*6) _ (List.getElem?_eq_getElem (by omega));have q1:=aB SO.out (k*6+1) _ (List.getElem?_eq_getElem (by omega));have q2:=aB SO.out (k*6+2) _ (List.getElem?_eq_getElem (by omega));have q3:=aB SO.out (k*6+3) _ (List.getElem?_eq_getElem (by omega));have q4:=aB SO.out (k*6+4) _ (List.getElem?_eq_getElem (by omega));have q5:=aB SO.out (k*6+5) _ (List.getElem?_eq_getElem (by omega));generalize (aE (bq ⟨hv,fva,ha,fa⟩ k es))[k*6]'_=y0 at q0;generalize (aE (bq ⟨hv,fva,ha,fa⟩ k es))[k*6+1]'_=y1 at q1;generalize (aE (bq ⟨hv,fva,ha,fa⟩ k es))[k*6+2]'_=y2 at q2;generalize (aE (bq ⟨hv,fva,ha,fa⟩ k es))[k*6+3]'_=y3 at q3;generalize (aE (bq ⟨hv,fva,ha,fa⟩ k es))[k*6+4]'_=y4 at q4;generalize (aE (bq ⟨hv,fva,ha,fa⟩ k es))[k*6+5]'_=y5 at q5;have s0:=aJ SO.out (k*6);have s1:=aJ SO.out (k*6+1);have s2:=aJ SO.out (k*6+2);have s3:=aJ SO.out (k*6+3);have s4:=aJ SO.out (k*6+4);have s5:=aJ SO.out (k*6+5);go_wp2_with fail;go_roundw
      case rel=>
       refine ⟨k+1,by omega,by go_num,aq (aq (aq (aq (aq (aq hgb6 _ _) _ _) _ _) _ _) _ _) _ _,?_⟩;rw [HNx.out,HSt.out,if_pos (by trivial),gn _ _ _ (by rw [hJ,HN.out];exact hlt)];exact aC (aC (aC (aC (aC (aC SO.out _ _) _ _) _ _) _ _) _ _) _ _
      case measure=>simp [intOf];omega
   ·have hkn:k=n:=by omega
    subst hkn;go_wp2_with fail;go_end0;refine ⟨rfl,?_,hgb⟩;have hO:=PO.out;have hsn:bq ⟨hv,fva,ha,fa⟩ k es=es.map (bW ⟨hv,fva,ha,fa⟩):=by
     have hq:es.length=k:=HN.out;unfold bq;rw [←hq,List.take_length,List.drop_length,List.append_nil]
    rw [hsn] at hO;exact hO
def kK (z0:Nat) (z1:Nat):Prop:=∀(hv:Bool) (fva:Int) (ha:Bool) (fa:Int) (pf pv b o g n base:Nat) (es:List EntM) (sets ways:Int) (w:World) (hn:es.length=n) (hn1:n≤1048576) (hbl:b<w.heap.size) (hbg:b≠g)
 (c2:w.cell? ⟨b,o+2,none⟩=some (.slice (some ⟨g,0,none⟩) n n)) (ho:w.ownsRow base z1 6 (.slice (some ⟨g,0,none⟩) n n) n (aE es)) (hlv:∀(j:Nat) (x:EntM),es[j]?=some x→x.valid=true→0≤x.level∧x.level≤2),Calls Tryz.prog z0 #[.pointer (some ⟨b,o,none⟩),.func (.func 155) #[] #[]] w fun x w'=>x=.returned (.tuple #[])∧w'.ownsRow base z1 6 (.slice (some ⟨g,0,none⟩) n n) n (aE (es))∧w.grownBy w' (some g)
set_option maxRecDepth 20000 in
set_option maxHeartbeats 3200000 in
theorem mD:kK 159 261∧kK 162 271:=by
 refine ⟨?_,?_⟩;have mL:Hid True:=trivial
 rotate_left
 have mP:Hid True:=trivial
 rotate_left
 all_goals
  intro hv fva ha fa pf pv b o g n base es sets ways w hn hn1 hbl hbg c2 ho hlv;first
   | (replace mL:=mL;have HO:Hid (w.ownsRow base 261 6 (.slice (some ⟨g,0,none⟩) n n) n (aE es)):=ho)
   | (replace mP:=mP;have HO:Hid (w.ownsRow base 271 6 (.slice (some ⟨g,0,none⟩) n n) n (aE es)):=ho)
  have HN:Hid (es.length=n):=hn;have HLv:Hid (∀(j:Nat) (x:EntM),es[j]?=some x→x.valid=true→0≤x.level∧x.level≤2):=hlv;have hg:=(bV ho).2.2;simp only at hg;clear ho hn hlv;first
   | (replace mL:=mL;go_enter Tryz.func159,Tryz.ntmps159)
   | (replace mP:=mP;go_enter Tryz.func162,Tryz.ntmps162)
  go_wp2_with fail;first
   | (replace mL:=mL;go_loopw [11] (fun i wr=>∃k:Nat,k≤n∧i=.int .i64 k∧w.grownBy wr (some g)∧wr.ownsRow base 261 6 (.slice (some ⟨g,0,none⟩) n n) n (aE (es))) (fun i _=>n-(intOf i).toNat))
   | (replace mP:=mP;go_loopw [11] (fun i wr=>∃k:Nat,k≤n∧i=.int .i64 k∧w.grownBy wr (some g)∧wr.ownsRow base 271 6 (.slice (some ⟨g,0,none⟩) n n) n (aE (es))) (fun i _=>n-(intOf i).toNat))
  case atStart=>exact ⟨0,Nat.zero_le _,rfl,az _ _,HO.out⟩
  case round=>
   obtain ⟨k,hk,rfl,hgb,hO⟩:=hrel;first
    | (replace mL:=mL;have PO:Hid (wr.ownsRow base 261 6 (.slice (some ⟨g,0,none⟩) n n) n (aE (es))):=hO)
    | (replace mP:=mP;have PO:Hid (wr.ownsRow base 271 6 (.slice (some ⟨g,0,none⟩) n n) n (aE (es))):=hO)
   have lr:w.heap.size≤wr.heap.size:=hgb.size;have hfl:(aE (es)).length=n*6:=hO.1;clear hO;have r2:wr.cell? ⟨b,o+2,none⟩=some (.slice (some ⟨g,0,none⟩) n n):=kW hgb c2 hbl hbg;by_cases hlt:k<n
   ·obtain ⟨⟨vv,lv,tg,asd,gl,pt⟩,hx⟩:∃x,es[k]?=some x:=⟨_,List.getElem?_eq_getElem (by rw [HN.out];exact hlt)⟩;have hx':(es)[k]?=some ⟨vv,lv,tg,asd,gl,pt⟩:=by
     first
      | exact hx
      | (unfold bq
         have hkl:k≤es.length:=by rw [HN.out];omega
         rw [List.getElem?_append_right (by simp;omega),List.length_map,List.length_take,Nat.min_eq_left hkl,Nat.sub_self,List.getElem?_drop,Nat.add_zero,hx])
    have HXk:Hid (es[k]?=some ⟨vv,lv,tg,asd,gl,pt⟩):=hx;have CE:∀j u,j<6→(eC ⟨vv,lv,tg,asd,gl,pt⟩)[j]?=some u→wr.cell? ⟨g,k*6+j,none⟩=some u:=fun j u hj hu=>mg PO.out (by have:=hfl;rw [dR] at this;omega) k _ hx' j u hj hu;have g0:wr.cell? ⟨g,k*6,none⟩=some (.int .i64 lv):=CE 0 _ (by omega) rfl;have g1:wr.cell? ⟨g,k*6+1,none⟩=some (.int .u64 tg):=CE 1 _ (by omega) rfl;have g2:wr.cell? ⟨g,k*6+2,none⟩=some (.int .u64 asd):=CE 2 _ (by omega) rfl;have g3:wr.cell? ⟨g,k*6+3,none⟩=some (.bool gl):=CE 3 _ (by omega) rfl;have g4:wr.cell? ⟨g,k*6+4,none⟩=some (.bool vv):=CE 4 _ (by omega) rfl;have g5:wr.cell? ⟨g,k*6+5,none⟩=some (.int .u64 pt):=CE 5 _ (by omega) rfl;have HSm:Hid ((es).set k ⟨vv,lv,tg,asd,gl,pt⟩=es):=by
     show _=_;apply List.ext_getElem?;intro j;rw [List.getElem?_set];by_cases hj:k=j
     ·subst hj;have hkl:=(List.getElem?_eq_some_iff.1 hx').1;rw [if_pos rfl,if_pos hkl,hx']
     ·rw [if_neg hj]
    have HLx:Hid (vv=true→0≤lv∧lv≤2):=fun h=>HLv.out k _ hx h;clear CE hx hx';first
     | (replace mL:=mL;have n5:=(Below.refl wr.heap.size wr).alloc (Nat.le_refl _) (Obj.cells #[.int .i64 lv,.int .u64 tg,.int .u64 asd,.bool gl,.bool vv,.int .u64 pt] 261))
     | (replace mP:=mP;have n5:=(Below.refl wr.heap.size wr).alloc (Nat.le_refl _) (Obj.cells #[.int .i64 lv,.int .u64 tg,.int .u64 asd,.bool gl,.bool vv,.int .u64 pt] 271))
    have hgb5:=eW hgb n5;cases vv
    ·go_wp2_with fail;go_roundw
     case rel=>exact ⟨k+1,by omega,by go_num,hgb5,ak PO.out n5⟩
     case measure=>simp [intOf];omega
    ·go_wp2_with fail;first
      | (replace mL:=mL;generalize wr.alloc (Obj.cells #[.int .i64 lv,.int .u64 tg,.int .u64 asd,.bool gl,.bool true,.int .u64 pt] 261)=v5 at n5 hgb5 ⊢)
      | (replace mP:=mP;generalize wr.alloc (Obj.cells #[.int .i64 lv,.int .u64 tg,.int .u64 asd,.bool gl,.bool true,.int .u64 pt] 271)=v5 at n5 hgb5 ⊢)
     refine (sO lv tg asd gl v5).mono ?_;rintro e v6 ⟨rfl,n6⟩;have n56:=Below.step n5 n6 (Nat.le_refl _);have hgb6:=eW hgb n56;go_wp2_with fail;go_roundw
     case rel=>exact ⟨k+1,by omega,by go_num,hgb6,ak PO.out n56⟩
     case measure=>simp [intOf];omega
   ·have hkn:k=n:=by omega
    subst hkn;go_wp2_with fail;go_end0;refine ⟨rfl,?_,hgb⟩;have hO:=PO.out;exact hO
end Go.Proofs.YthekickjjaleaaaGreat
