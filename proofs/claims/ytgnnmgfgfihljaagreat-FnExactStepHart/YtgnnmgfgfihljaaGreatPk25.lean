import Derived.Test.YtgnnmgfgfihljaaGreatPk21
import Derived.Test.YtgnnmgfgfihljaaGreatPk24
namespace Go.Proofs.YtgnnmgfgfihljaaGreat
open Go.RowKit
set_option linter.unusedVariables false
set_option maxHeartbeats 6400000
set_option maxRecDepth 20000
section
attribute [local go_sem ↓] Go.wp_at_zero Go.wp_at_succ
def oP (z0:Nat):Prop:=∀(lv tg asd pt:Int) (gl vv:Bool) (w:World),Calls Tryz.prog z0 #[.agg #[.int .i64 lv,.int .u64 tg,.int .u64 asd,.bool gl,.bool vv,.int .u64 pt]] w fun e w'=>e=.returned (.agg #[.bool vv,.int .i64 lv,.int .u64 tg,.int .u64 asd,.bool gl,.int .u64 pt])∧Below w.heap.size w w'
theorem rk:oP 141∧oP 142:=by
 refine ⟨?_,?_⟩;have mL:Hid True:=trivial
 rotate_left
 have mP:Hid True:=trivial
 rotate_left
 all_goals
  intro lv tg asd pt gl vv w;first
   | (replace mL:=mL;have n1:=((Below.refl w.heap.size w).alloc nle (Obj.cells #[.int .i64 lv,.int .u64 tg,.int .u64 asd,.bool gl,.bool vv,.int .u64 pt] 224)).alloc (by simp) (Obj.cells #[.bool vv,.int .i64 lv,.int .u64 tg,.int .u64 asd,.bool gl,.int .u64 pt] 153))
   | (replace mP:=mP;have n1:=((Below.refl w.heap.size w).alloc nle (Obj.cells #[.int .i64 lv,.int .u64 tg,.int .u64 asd,.bool gl,.bool vv,.int .u64 pt] 229)).alloc (by simp) (Obj.cells #[.bool vv,.int .i64 lv,.int .u64 tg,.int .u64 asd,.bool gl,.int .u64 pt] 153))
  first
   | (replace mL:=mL;go_enter Tryz.func141,Tryz.ntmps141)
   | (replace mP:=mP;go_enter Tryz.func142,Tryz.ntmps142)
  go_wp2_with fail;first
   | (replace mL:=mL;exact bodyPost_ret (v:=.agg #[.bool vv,.int .i64 lv,.int .u64 tg,.int .u64 asd,.bool gl,.int .u64 pt]) (by simp [results,Tryz.results141,go_sem]) rfl ⟨rfl,n1⟩)
   | (replace mP:=mP;exact bodyPost_ret (v:=.agg #[.bool vv,.int .i64 lv,.int .u64 tg,.int .u64 asd,.bool gl,.int .u64 pt]) (by simp [results,Tryz.results142,go_sem]) rfl ⟨rfl,n1⟩)
def sI (z0:Nat):Prop:=∀(b o g n:Nat) (t:TlbM) (w:World) (hn:t.es.length=n) (hn1:n<=1048576) (hbl:b<w.heap.size) (hgl:g<w.heap.size)
 (c0:w.cell? ⟨b,o,none⟩=some (.int .i64 t.sets)) (c1:w.cell? ⟨b,o+1,none⟩=some (.int .i64 t.ways)) (c2:w.cell? ⟨b,o+2,none⟩=some (.slice (some ⟨g,0,none⟩) n n)) (hr:RowC w (some ⟨g,0,none⟩) n 6 (aC t.es)),Calls Tryz.prog z0 #[.pointer (some ⟨b,o,none⟩)] w fun e w'=>(∃x,e=.returned x∧TlbOwn w.heap.size w' x t)∧Below w.heap.size w w'
theorem rl:sI 107∧sI 108:=by
 refine ⟨?_,?_⟩;have mL:Hid True:=trivial
 rotate_left
 have mP:Hid True:=trivial
 rotate_left
 all_goals
  intro b o g n t w hn hn1 hbl hgl c0 c1 c2 hr;have HR:Hid (RowC w (some ⟨g,0,none⟩) n 6 (aC t.es)):=hr;have HN:Hid (t.es.length=n):=hn;obtain ⟨sets,ways,es⟩:=t;simp only at c0 c1 c2 HR HN;clear hr hn;obtain ⟨cs,hcs,hmk⟩:=BW n hn1;have n1:=(Below.refl w.heap.size w).alloc nle (Obj.cells #[.int .i64 0,.int .i64 0,.slice none 0 0] 35);have H1:Hid ((w.alloc (Obj.cells #[.int .i64 0,.int .i64 0,.slice none 0 0] 35)).heap[w.heap.size]?=some (.cells #[.int .i64 0,.int .i64 0,.slice none 0 0] 35 (0,0))):=heap_alloc_new w _;have l1:(w.alloc (Obj.cells #[.int .i64 0,.int .i64 0,.slice none 0 0] 35)).heap.size=w.heap.size+1:=by simp
  have nV:Below (w.alloc (Obj.cells #[.int .i64 0,.int .i64 0,.slice none 0 0] 35)).heap.size (w.alloc (Obj.cells #[.int .i64 0,.int .i64 0,.slice none 0 0] 35)) ((w.alloc (Obj.cells #[.int .i64 0,.int .i64 0,.slice none 0 0] 35)).alloc (.cells cs 153)):=(Below.refl _ _).alloc nle _;have hG:((w.alloc (Obj.cells #[.int .i64 0,.int .i64 0,.slice none 0 0] 35)).alloc (.cells cs 153)).heap[w.heap.size+1]?=some (.cells cs 153 (0,0)):=by
   have:=heap_alloc_new (w.alloc (Obj.cells #[.int .i64 0,.int .i64 0,.slice none 0 0] 35)) (.cells cs 153);simp only [World.size_alloc] at this;exact this
  have hcl:cs.toList.length=n*6:=by rw [hcs,eo];simp
  have O2:Hid (((w.alloc (Obj.cells #[.int .i64 0,.int .i64 0,.slice none 0 0] 35)).alloc (.cells cs 153)).ownsRow (w.heap.size+1) 153 6 (.slice (some ⟨w.heap.size+1,0,none⟩) n n) n (az (cB 0 n es))):=by
   rw [my,<-hcs];exact ⟨hcl,.inr ⟨_,n,cs,rfl,nle,hG,nle,by unfold maxLen;omega,by rw [<-hcl];simp,List.take_of_length_le (by omega)⟩⟩
  have A2:=bst n1 nV;have K2:=ab H1 nV;have B2:Below (w.heap.size+1) ((w.alloc (Obj.cells #[.int .i64 0,.int .i64 0,.slice none 0 0] 35)).alloc (.cells cs 153)) ((w.alloc (Obj.cells #[.int .i64 0,.int .i64 0,.slice none 0 0] 35)).alloc (.cells cs 153)):=Below.refl _ _;have l2:((w.alloc (Obj.cells #[.int .i64 0,.int .i64 0,.slice none 0 0] 35)).alloc (.cells cs 153)).heap.size=w.heap.size+2:=by simp
  clear hG hcl hcs H1 n1 nV;have e0:w.heap.size≠b:=by omega
  have e1:w.heap.size+1≠b:=by omega
  first
   | (replace mL:=mL;go_enter Tryz.func107,Tryz.ntmps107)
   | (replace mP:=mP;go_enter Tryz.func108,Tryz.ntmps108)
  go_wp2_with fail;generalize ((w.alloc (Obj.cells #[.int .i64 0,.int .i64 0,.slice none 0 0] 35)).alloc (.cells cs 153))=v2 at O2 A2 K2 l2 B2 |-;go_loopw [17] (fun i wr=>∃k:Nat,k<=n∧i=.int .i64 k∧wr.ownsRow (w.heap.size+1) 153 6 (.slice (some ⟨w.heap.size+1,0,none⟩) n n) n (az (cB k n es))∧Below (w.heap.size+1) v2 wr) (fun i _=>n-(intOf i).toNat)
  case atStart=>exact ⟨0,Nat.zero_le _,rfl,O2.out,B2⟩
  case round=>
   obtain ⟨k,hk,rfl,hO,hb⟩:=hrel;have PO:Hid (wr.ownsRow (w.heap.size+1) 153 6 (.slice (some ⟨w.heap.size+1,0,none⟩) n n) n (az (cB k n es))):=hO;have lg:w.heap.size+1<wr.heap.size:=(bC hO).2.2;have A3:Below w.heap.size w wr:=A2.trans (hb.mono (by omega));have P1:Hid (wr.heap[w.heap.size]?=some (.cells #[.int .i64 0,.int .i64 0,.slice none 0 0] 35 (0,0))):=(hb.block w.heap.size (by omega)).trans K2.out;clear hO;have r0:wr.cell? ⟨b,o,none⟩=some (.int .i64 sets):=Below.cell2 A3 c0 hbl;have r1:wr.cell? ⟨b,o+1,none⟩=some (.int .i64 ways):=Below.cell2 A3 c1 hbl;have r2:wr.cell? ⟨b,o+2,none⟩=some (.slice (some ⟨g,0,none⟩) n n):=Below.cell2 A3 c2 hbl;by_cases hlt:k<n
   ·obtain ⟨⟨vv,lv,tg,asd,gl,pt⟩,hx⟩:∃x,es[k]?=some x:=⟨_,List.getElem?_eq_getElem (by rw [HN.out];exact hlt)⟩;have HXk:Hid (es[k]?=some ⟨vv,lv,tg,asd,gl,pt⟩):=hx;have CE:∀j u,j<6->(eE ⟨vv,lv,tg,asd,gl,pt⟩)[j]?=some u->wr.cell? ⟨g,k*6+j,none⟩=some u:=fun j u hj hu=>fO (HR.out.keep A3) HN.out k _ hx j u hj hu;have g0:wr.cell? ⟨g,k*6,none⟩=some (.int .i64 lv):=CE 0 _ (by omega) rfl;have g1:wr.cell? ⟨g,k*6+1,none⟩=some (.int .u64 tg):=CE 1 _ (by omega) rfl;have g2:wr.cell? ⟨g,k*6+2,none⟩=some (.int .u64 asd):=CE 2 _ (by omega) rfl;have g3:wr.cell? ⟨g,k*6+3,none⟩=some (.bool gl):=CE 3 _ (by omega) rfl;have g4:wr.cell? ⟨g,k*6+4,none⟩=some (.bool vv):=CE 4 _ (by omega) rfl;have g5:wr.cell? ⟨g,k*6+5,none⟩=some (.int .u64 pt):=CE 5 _ (by omega) rfl;clear CE hx;first
     | (replace mL:=mL;have n5:=(Below.refl wr.heap.size wr).alloc nle (Obj.cells #[.int .i64 lv,.int .u64 tg,.int .u64 asd,.bool gl,.bool vv,.int .u64 pt] 224))
     | (replace mP:=mP;have n5:=(Below.refl wr.heap.size wr).alloc nle (Obj.cells #[.int .i64 lv,.int .u64 tg,.int .u64 asd,.bool gl,.bool vv,.int .u64 pt] 229))
    go_wp2_with fail;first
     | (replace mL:=mL;generalize wr.alloc (Obj.cells #[.int .i64 lv,.int .u64 tg,.int .u64 asd,.bool gl,.bool vv,.int .u64 pt] 224)=v5 at n5 |-)
     | (replace mP:=mP;generalize wr.alloc (Obj.cells #[.int .i64 lv,.int .u64 tg,.int .u64 asd,.bool gl,.bool vv,.int .u64 pt] 229)=v5 at n5 |-)
    first
     | (replace mL:=mL;refine (rk.1 lv tg asd pt gl vv v5).mono ?_)
     | (replace mP:=mP;refine (rk.2 lv tg asd pt gl vv v5).mono ?_)
    rintro e v6 ⟨rfl,n6⟩;have n56:=bst n5 n6;have SO:Hid (v6.ownsRow (w.heap.size+1) 153 6 (.slice (some ⟨w.heap.size+1,0,none⟩) n n) n (az (cB k n es))):=ag PO.out n56;have B6:Below (w.heap.size+1) v2 v6:=hb.trans (n56.mono (by omega));have hfl:(az (cB k n es)).length=n*6:=by
     have:=HN.out;subst this;rw [eo,ic _ _ (by omega)]
    clear g0 g1 g2 g3 g4 g5 r0 r1 r2 n5 n6 n56 hb A3;have q0:=aw SO.out (k*6) _ (List.getElem?_eq_getElem (by omega));have q1:=aw SO.out (k*6+1) _ (List.getElem?_eq_getElem (by omega));have q2:=aw SO.out (k*6+2) _ (List.getElem?_eq_getElem (by omega));have q3:=aw SO.out (k*6+3) _ (List.getElem?_eq_getElem (by omega));have q4:=aw SO.out (k*6+4) _ (List.getElem?_eq_getElem (by omega));have q5:=aw SO.out (k*6+5) _ (List.getElem?_eq_getElem (by omega));generalize (az (cB k n es))[k*6]'_=y0 at q0;generalize (az (cB k n es))[k*6+1]'_=y1 at q1;generalize (az (cB k n es))[k*6+2]'_=y2 at q2;generalize (az (cB k n es))[k*6+3]'_=y3 at q3;generalize (az (cB k n es))[k*6+4]'_=y4 at q4;generalize (az (cB k n es))[k*6+5]'_=y5 at q5;have s0:=aD SO.out (k*6);have s1:=aD SO.out (k*6+1);have s2:=aD SO.out (k*6+2);have s3:=aD SO.out (k*6+3);have s4:=aD SO.out (k*6+4);have s5:=aD SO.out (k*6+5);go_wp2_with fail;go_roundw
    case rel=>
     refine ⟨k+1,by omega,by go_num,?_,?_⟩
     ·have:=HN.out;subst this;rw [jQ k es _ HXk.out,gZ _ _ _ (by rw [ic _ _ (by omega)];exact hlt)];exact ax (ax (ax (ax (ax (ax SO.out _ _) _ _) _ _) _ _) _ _) _ _
     ·have hg1:w.heap.size+1<=w.heap.size+1:=nle;exact (((((B6.setCell (p:=⟨w.heap.size+1,_,none⟩) hg1 _).setCell (p:=⟨w.heap.size+1,_,none⟩) hg1 _).setCell (p:=⟨w.heap.size+1,_,none⟩) hg1 _).setCell (p:=⟨w.heap.size+1,_,none⟩) hg1 _).setCell (p:=⟨w.heap.size+1,_,none⟩) hg1 _).setCell (p:=⟨w.heap.size+1,_,none⟩) hg1 _
    case measure=>simp [intOf];omega
   ·have hkn:k=n:=by omega
    subst hkn;obtain ⟨⟨d0,d1,d2⟩,f0,f1,f2⟩:=ay P1.out;go_wp2_with fail;go_region;first
     | (replace mL:=mL;all_goals
          go_wp2_with fail
          refine bodyPost_ret (v:=.agg #[.int .i64 sets,.int .i64 ways,.slice (some ⟨w.heap.size+1,0,none⟩) k k]) (by simp [results,Tryz.results107,go_sem,d0,d1,d2]) rfl ⟨⟨_,rfl,w.heap.size+1,k,by simp only;rw [HN.out],?_⟩,(fu A3 nle _ _ _).drew⟩
          simp only
          rw [HN.out]
          have hO:=PO.out
          have hq:=HN.out
          subst hq
          rw [lQ] at hO
          exact aK (ka (bX hO (gb3 wr w.heap.size _ _ _) (by omega))) (by omega))
     | (replace mP:=mP;all_goals
          go_wp2_with fail
          refine bodyPost_ret (v:=.agg #[.int .i64 sets,.int .i64 ways,.slice (some ⟨w.heap.size+1,0,none⟩) k k]) (by simp [results,Tryz.results108,go_sem,d0,d1,d2]) rfl ⟨⟨_,rfl,w.heap.size+1,k,by simp only;rw [HN.out],?_⟩,(fu A3 nle _ _ _).drew⟩
          simp only
          rw [HN.out]
          have hO:=PO.out
          have hq:=HN.out
          subst hq
          rw [lQ] at hO
          exact aK (ka (bX hO (gb3 wr w.heap.size _ _ _) (by omega))) (by omega))
end
section
attribute [local go_sem ↓] Go.wp_at_zero Go.wp_at_succ
theorem Cf (w:World) (g i:Nat) (x y z u v t:Value):w.grownBy ((((((w.setCell ⟨g,i,none⟩ x).setCell ⟨g,i+1,none⟩ y).setCell ⟨g,i+2,none⟩ z).setCell ⟨g,i+3,none⟩ u).setCell ⟨g,i+4,none⟩ v).setCell ⟨g,i+5,none⟩ t) (some g):=
 ak (ak (ak (ak (ak (ak (au w (some g)) _ _) _ _) _ _) _ _) _ _) _ _
theorem Cg (w:World) (g i:Nat) (x y z u v t:Value):w.grownBy ((((((w.setCell ⟨g,i,none⟩ x).setCell ⟨g,i+1,none⟩ y).setCell ⟨g,i+2,none⟩ z).setCell ⟨g,i+3,none⟩ u).setCell ⟨g,i+4,none⟩ v).setCell ⟨g,i+5,none⟩ t) (some g):=
 ak (ak (ak (ak (ak (ak (au w (some g)) _ _) _ _) _ _) _ _) _ _) _ _
def mO (z0:Nat) (z1:Nat):Prop:=∀(b o g n base:Nat) (t:TlbM) (e:EntM) (pick:Int) (w:World) (hn:t.es.length=n) (hn1:n<=1048576) (hs4:t.sets=1∨t.sets=2∨t.sets=4∨t.sets=8) (hw1:1<=t.ways) (hw4:t.ways<=4) (hnw:(n:Int)=t.sets*t.ways) (hbl:b<w.heap.size) (hbg:b≠g)
 (c0:w.cell? ⟨b,o,none⟩=some (.int .i64 t.sets)) (c1:w.cell? ⟨b,o+1,none⟩=some (.int .i64 t.ways)) (c2:w.cell? ⟨b,o+2,none⟩=some (.slice (some ⟨g,0,none⟩) n n)) (ho:w.ownsRow base z1 6 (.slice (some ⟨g,0,none⟩) n n) n (aC t.es)) (ht0:0<=e.tag) (ht1:e.tag<=18446744073709551615) (hp0:0<=pick) (hp1:pick<=255),Calls Tryz.prog z0 #[.pointer (some ⟨b,o,none⟩),db e,.int .i64 pick] w fun x w'=>x=.returned (.tuple #[])∧w'.ownsRow base z1 6 (.slice (some ⟨g,0,none⟩) n n) n (aC (t.es.set (eA t e+iq t e pick) e))∧w.grownBy w' (some g)
theorem oN:mO 214 224∧mO 213 229:=by
 refine ⟨?_,?_⟩;have mL:Hid True:=trivial
 rotate_left
 have mP:Hid True:=trivial
 rotate_left
 all_goals
  intro b o g n base t e pick w hn hn1 hs4 hw1 hw4 hnw hbl hbg c0 c1 c2 ho ht0 ht1 hp0 hp1;obtain ⟨sets,ways,es⟩:=t;obtain ⟨vv,lv,tg,asd,gl,pt⟩:=e;simp only at *;first
   | (replace mL:=mL;have HO:Hid (w.ownsRow base 224 6 (.slice (some ⟨g,0,none⟩) n n) n (aC es)):=ho)
   | (replace mP:=mP;have HO:Hid (w.ownsRow base 229 6 (.slice (some ⟨g,0,none⟩) n n) n (aC es)):=ho)
  have HN:Hid (es.length=n):=hn;have hg:=(bC ho).2.2;simp only at hg;clear ho hn;obtain ⟨sx,hsx⟩:∃sx,tg%sets=sx:=⟨_,rfl⟩;have hsb:0<=sx∧sx<sets:=by rw [<-hsx];exact ⟨Int.emod_nonneg _ (by omega),Int.emod_lt_of_pos _ (by omega)⟩
  obtain ⟨f,hf⟩:∃f:Nat,(f:Int)=sx*ways:=⟨(sx*ways).toNat,Int.toNat_of_nonneg (Int.mul_nonneg hsb.1 (by omega))⟩;have hfn:(f:Int)+ways<=n:=by
   rw [hnw,hf];have:(sx+1)*ways<=sets*ways:=Int.mul_le_mul_of_nonneg_right (by omega) (by omega);rw [Int.add_mul,Int.one_mul] at this;exact this
  have HFi:Hid (eA ⟨sets,ways,es⟩ ⟨vv,lv,tg,asd,gl,pt⟩=f):=by
   show _=_;unfold eA;simp only;rw [hsx,<-hf];simp
  have HWm:Hid (sx*ways=(f:Int)):=hf.symm;obtain ⟨P,hP⟩:∃P,iq ⟨sets,ways,es⟩ ⟨vv,lv,tg,asd,gl,pt⟩ pick=P:=⟨_,rfl⟩;have HW:Hid (iq ⟨sets,ways,es⟩ ⟨vv,lv,tg,asd,gl,pt⟩ pick=P):=hP;rw [HFi.out,hP];clear hP hnw;unfold db;simp only;first
   | (replace mL:=mL;have n1:=(Below.refl w.heap.size w).alloc nle (Obj.cells #[.int .i64 lv,.int .u64 tg,.int .u64 asd,.bool gl,.bool vv,.int .u64 pt] 224))
   | (replace mP:=mP;have n1:=(Below.refl w.heap.size w).alloc nle (Obj.cells #[.int .i64 lv,.int .u64 tg,.int .u64 asd,.bool gl,.bool vv,.int .u64 pt] 229))
  first
   | (replace mL:=mL;have H1:Hid ((w.alloc (Obj.cells #[.int .i64 lv,.int .u64 tg,.int .u64 asd,.bool gl,.bool vv,.int .u64 pt] 224)).heap[w.heap.size]?=some (.cells #[.int .i64 lv,.int .u64 tg,.int .u64 asd,.bool gl,.bool vv,.int .u64 pt] 224 (0,0))):=heap_alloc_new w _)
   | (replace mP:=mP;have H1:Hid ((w.alloc (Obj.cells #[.int .i64 lv,.int .u64 tg,.int .u64 asd,.bool gl,.bool vv,.int .u64 pt] 229)).heap[w.heap.size]?=some (.cells #[.int .i64 lv,.int .u64 tg,.int .u64 asd,.bool gl,.bool vv,.int .u64 pt] 229 (0,0))):=heap_alloc_new w _)
  first
   | (replace mL:=mL;have l1:(w.alloc (Obj.cells #[.int .i64 lv,.int .u64 tg,.int .u64 asd,.bool gl,.bool vv,.int .u64 pt] 224)).heap.size=w.heap.size+1:=by simp)
   | (replace mP:=mP;have l1:(w.alloc (Obj.cells #[.int .i64 lv,.int .u64 tg,.int .u64 asd,.bool gl,.bool vv,.int .u64 pt] 229)).heap.size=w.heap.size+1:=by simp)
  first
   | (replace mL:=mL;go_enter Tryz.func214,Tryz.ntmps214)
   | (replace mP:=mP;go_enter Tryz.func213,Tryz.ntmps213)
  go_wp2_with fail;first
   | (replace mL:=mL;generalize w.alloc (Obj.cells #[.int .i64 lv,.int .u64 tg,.int .u64 asd,.bool gl,.bool vv,.int .u64 pt] 224)=v1 at n1 H1 l1 |-)
   | (replace mP:=mP;generalize w.alloc (Obj.cells #[.int .i64 lv,.int .u64 tg,.int .u64 asd,.bool gl,.bool vv,.int .u64 pt] 229)=v1 at n1 H1 l1 |-)
  have r0:v1.cell? ⟨b,o,none⟩=some (.int .i64 sets):=Below.cell2 n1 c0 hbl;have r1:v1.cell? ⟨b,o+1,none⟩=some (.int .i64 ways):=Below.cell2 n1 c1 hbl;obtain ⟨⟨x0,x1,x2,x3,x4,x5⟩,_⟩:=gI H1.out;first
   | (replace mL:=mL;have HSt:Hid (∀q,Calls Tryz.prog 129 #[.pointer (some ⟨b,o,none⟩),.int .u64 tg] (v1.drewN q) fun e w'=>e=.returned (.int .i64 sx)∧w'=v1.drewN q):=fun q=>by
        have:=nv b o sets tg (v1.drewN q) hs4 r0 ht0 ht1
        rw [hsx] at this
        exact this)
   | (replace mP:=mP;have HSt:Hid (∀q,Calls Tryz.prog 131 #[.pointer (some ⟨b,o,none⟩),.int .u64 tg] (v1.drewN q) fun e w'=>e=.returned (.int .i64 sx)∧w'=v1.drewN q):=fun q=>by
        have:=nw b o sets tg (v1.drewN q) hs4 r0 ht0 ht1
        rw [hsx] at this
        exact this)
  clear hsx hf;go_cut [6] (fun s6 wx=>s6=.int .i64 f∧∃q,wx=v1.drewN q)
  case first=>
   first
    | (replace mL:=mL;go_quiet ((go_at_call 129;exact Calls.quiet_of_same (HSt.out _))))
    | (replace mP:=mP;go_quiet ((go_at_call 131;exact Calls.quiet_of_same (HSt.out _))))
   go_wp2_with fail;go_meet;exact ⟨by rw [HWm.out];(try (rw [show wrap64 (f:Int)=f from by unfold wrap64;omega])),nq,rfl⟩
  case rest=>
   obtain ⟨rfl,q,rfl⟩:=hcut;have n2:Below w.heap.size w (v1.drewN q):=below_drewN n1 q;first
    | (replace mL:=mL;have H2:Hid ((v1.drewN q).heap[w.heap.size]?=some (.cells #[.int .i64 lv,.int .u64 tg,.int .u64 asd,.bool gl,.bool vv,.int .u64 pt] 224 (0,0))):=H1)
    | (replace mP:=mP;have H2:Hid ((v1.drewN q).heap[w.heap.size]?=some (.cells #[.int .i64 lv,.int .u64 tg,.int .u64 asd,.bool gl,.bool vv,.int .u64 pt] 229 (0,0))):=H1)
   have l2:(v1.drewN q).heap.size=w.heap.size+1:=l1;generalize v1.drewN q=v2 at n2 H2 l2 |-;first
    | (replace mL:=mL;have O2:Hid (v2.ownsRow base 224 6 (.slice (some ⟨g,0,none⟩) n n) n (aC es)):=ag HO.out n2)
    | (replace mP:=mP;have O2:Hid (v2.ownsRow base 229 6 (.slice (some ⟨g,0,none⟩) n n) n (aC es)):=ag HO.out n2)
   clear r0 r1 x0 x1 x2 x3 x4 x5 HSt H1 n1 l1 HWm;have r1:v2.cell? ⟨b,o+1,none⟩=some (.int .i64 ways):=Below.cell2 n2 c1 hbl;have r2:v2.cell? ⟨b,o+2,none⟩=some (.slice (some ⟨g,0,none⟩) n n):=Below.cell2 n2 c2 hbl;obtain ⟨⟨x0,x1,x2,x3,x4,x5⟩,_⟩:=gI H2.out;have hll:(aC es).length=n*6:=by rw [dR,HN.out]
   have hgw:g≠w.heap.size:=by omega
   have hwg:w.heap.size≠g:=by omega
   go_wp2_with fail
   go_loop [7] (fun i=>∃q:Nat,f<=q∧(q:Int)<=f+ways∧i=.int .i64 q∧Hid (∀q':Nat,f<=q'->q'<q->(es[q']?.getD cO).valid=true)) (fun i=>f+4-(intOf i).toNat)
   case atStart=>exact ⟨f,nle,by omega,rfl,fun q' h h'=>absurd h' (by omega)⟩
   case round=>
    obtain ⟨q,hq1,hq2,rfl,HQ⟩:=hrel;by_cases hqt:(q:Int)<f+ways
    ·have hqn:q<n:=by omega
     obtain ⟨⟨wv,wl,wt,wa,wg,wp⟩,hx⟩:∃x,es[q]?=some x:=⟨_,List.getElem?_eq_getElem (by rw [HN.out];exact hqn)⟩;have HXq:Hid (es[q]?=some ⟨wv,wl,wt,wa,wg,wp⟩):=hx;have g4:v2.cell? ⟨g,q*6+4,none⟩=some (.bool wv):=ny O2.out HN.out q _ hx 4 _ (by omega) rfl;clear hx;cases wv
     ·have hP:P=q-f:=by
       rw [<-HW.out];unfold iq;simp only;rw [HFi.out,lS es f ways.toNat 0 (q-f) (by omega) (fun j hj=>by rw [Nat.zero_add];exact HQ.out (f+j) (by omega) (by omega)) (by rw [Nat.zero_add,show f+(q-f)=q by omega,HXq.out];rfl)];simp
      subst hP;go_wp2_with fail;have q0:=aw O2.out (q*6) _ (List.getElem?_eq_getElem (by omega));have q1:=aw O2.out (q*6+1) _ (List.getElem?_eq_getElem (by omega));have q2:=aw O2.out (q*6+2) _ (List.getElem?_eq_getElem (by omega));have q3:=aw O2.out (q*6+3) _ (List.getElem?_eq_getElem (by omega));have q4z:=aw O2.out (q*6+4) _ (List.getElem?_eq_getElem (by omega));have q5:=aw O2.out (q*6+5) _ (List.getElem?_eq_getElem (by omega));generalize (aC es)[q*6]'_=y0 at q0;generalize (aC es)[q*6+1]'_=y1 at q1;generalize (aC es)[q*6+2]'_=y2 at q2;generalize (aC es)[q*6+3]'_=y3 at q3;generalize (aC es)[q*6+4]'_=y4 at q4z;generalize (aC es)[q*6+5]'_=y5 at q5;have s0:=aD O2.out (q*6);have s1:=aD O2.out (q*6+1);have s2:=aD O2.out (q*6+2);have s3:=aD O2.out (q*6+3);have s4:=aD O2.out (q*6+4);have s5:=aD O2.out (q*6+5);go_still_tail 7,(by kernel_rfl);go_wp2_with fail;first
       | (replace mL:=mL;refine bodyPost_ret (v:=.tuple #[]) (by simp [results,Tryz.results214,go_sem]) rfl ⟨rfl,?_,?_⟩)
       | (replace mP:=mP;refine bodyPost_ret (v:=.tuple #[]) (by simp [results,Tryz.results213,go_sem]) rfl ⟨rfl,?_,?_⟩)
      ·rw [show f+(q-f)=q by omega,gh es q _ (by rw [HN.out];exact hqn)];exact ka (ax (ax (ax (ax (ax (ax O2.out _ _) _ _) _ _) _ _) _ _) _ _)
      ·first
        | (replace mL:=mL;exact eJ (sp n2) (eJ (Cf v2 g (q*6) _ _ _ _ _ _) (pA _ _)))
        | (replace mP:=mP;exact eJ (sp n2) (eJ (Cg v2 g (q*6) _ _ _ _ _ _) (pA _ _)))
     ·go_wp2_with fail
      go_round
      case rel=>exact ⟨q+1,by omega,by omega,by go_num,fun q' h1 h2=>by
       by_cases e:q'=q
       ·subst e;rw [HXq.out];rfl
       ·exact HQ.out q' h1 (by omega)⟩
      case measure=>simp [intOf];omega
    ·have hP:P=(pick%ways).toNat:=by
      rw [<-HW.out];unfold iq;simp only;rw [HFi.out,lT es f ways.toNat 0 (fun j hj=>by rw [Nat.zero_add];exact HQ.out (f+j) (by omega) (by omega))];rfl
     have hpm:0<=pick%ways∧pick%ways<ways:=⟨Int.emod_nonneg _ (by omega),Int.emod_lt_of_pos _ (by omega)⟩;obtain ⟨r,hr⟩:∃r:Nat,(r:Int)=pick%ways:=⟨(pick%ways).toNat,Int.toNat_of_nonneg hpm.1⟩;have hPr:P=r:=by rw [hP,<-hr];simp
     subst hPr;clear hP hpm;have hrm:pick%ways=(P:Int):=hr.symm;have hrb:(f:Int)+P<n:=by
      have:pick%ways<ways:=Int.emod_lt_of_pos _ (by omega);omega
     have hw0:¬(ways=0):=by omega
     have htm:pick.tmod ways=(P:Int):=by rw [Int.tmod_eq_emod_of_nonneg hp0];exact hr.symm
     clear hr hrm;obtain ⟨d,hd⟩:∃d:Nat,f+P=d:=⟨_,rfl⟩;have hdn:d<n:=by omega
     have HD:Hid (f+P=d):=hd;have hfp:(f:Int)+(P:Int)=(d:Int):=by omega
     clear hd;have hwd:IntKind.i64.wrap (d:Int)=(d:Int):=(IntKind.wrap_i64 _).trans (by omega);go_wp2_with fail;have q0:=aw O2.out (d*6) _ (List.getElem?_eq_getElem (by omega));have q1:=aw O2.out (d*6+1) _ (List.getElem?_eq_getElem (by omega));have q2:=aw O2.out (d*6+2) _ (List.getElem?_eq_getElem (by omega));have q3:=aw O2.out (d*6+3) _ (List.getElem?_eq_getElem (by omega));have q4:=aw O2.out (d*6+4) _ (List.getElem?_eq_getElem (by omega));have q5:=aw O2.out (d*6+5) _ (List.getElem?_eq_getElem (by omega));generalize (aC es)[d*6]'_=y0 at q0;generalize (aC es)[d*6+1]'_=y1 at q1;generalize (aC es)[d*6+2]'_=y2 at q2;generalize (aC es)[d*6+3]'_=y3 at q3;generalize (aC es)[d*6+4]'_=y4 at q4;generalize (aC es)[d*6+5]'_=y5 at q5;have s0:=aD O2.out (d*6);have s1:=aD O2.out (d*6+1);have s2:=aD O2.out (d*6+2);have s3:=aD O2.out (d*6+3);have s4:=aD O2.out (d*6+4);have s5:=aD O2.out (d*6+5);go_still_tail 14,(by kernel_rfl);go_wp2_with fail;go_end0;refine ⟨rfl,?_,?_⟩
     ·rw [HD.out,gh es d _ (by rw [HN.out];exact hdn)];exact ka (ax (ax (ax (ax (ax (ax O2.out _ _) _ _) _ _) _ _) _ _) _ _)
     ·first
       | (replace mL:=mL;exact eJ (sp n2) (eJ (Cf v2 g (d*6) _ _ _ _ _ _) (pA _ _)))
       | (replace mP:=mP;exact eJ (sp n2) (eJ (Cg v2 g (d*6) _ _ _ _ _ _) (pA _ _)))
end
theorem vN (pt lv va asd:Int) (w:World) (hl:lv=0∨lv=1∨lv=2) (hv0:0<=va) (hv1:va<=18446744073709551615) (h0:0<=pt) (h1:pt<=18446744073709551615):
 Calls Tryz.prog 212 #[.int .u64 pt,.int .i64 lv,.int .u64 va,.int .u64 asd] w fun e w'=>e=.returned (.agg #[.int .i64 lv,.int .u64 (eF va lv),.int .u64 asd,.bool (bj pt 32)])∧Below w.heap.size w w':=by
 obtain ⟨tm,htm⟩:∃tm,eF va lv=tm:=⟨_,rfl⟩;obtain ⟨g5,hg5⟩:∃g5,bj pt 32=g5:=⟨_,rfl⟩;have HT:Hid (∀w,Calls Tryz.prog 170 #[.int .u64 va,.int .i64 lv] w fun e w'=>e=.returned (.int .u64 tm)∧∃n,w'=w.drewN n):=fun w=>by
  have:=wE va lv w hv0 hv1 hl;rw [htm] at this;exact this
 have HB:Hid (∀w,Calls Tryz.prog 166 #[.int .u64 pt,.int .u64 32] w fun e w'=>e=.returned (.bool g5)∧w'=w):=fun w=>by
  have:=dp pt 32 w;rw [dz 5 pt 32 rfl (by omega) h0 h1,hg5] at this;exact this
 rw [htm,hg5];clear htm hg5;have n1:=(Below.refl w.heap.size w).alloc nle (Obj.cells #[.int .i64 0,.int .u64 0,.int .u64 0,.bool false] 222);have H1:Hid ((w.alloc (Obj.cells #[.int .i64 0,.int .u64 0,.int .u64 0,.bool false] 222)).heap[w.heap.size]?=some (.cells #[.int .i64 0,.int .u64 0,.int .u64 0,.bool false] 222 (0,0))):=heap_alloc_new w _;go_enter Tryz.func212,Tryz.ntmps212;go_wp2_with fail;generalize w.alloc (Obj.cells #[.int .i64 0,.int .u64 0,.int .u64 0,.bool false] 222)=v1 at n1 H1 |-;refine (HT.out v1).mono ?_;rintro e v2 ⟨rfl,q,rfl⟩;have n2:Below w.heap.size w (v1.drewN q):=below_drewN n1 q;have H2:Hid ((v1.drewN q).heap[w.heap.size]?=some (.cells #[.int .i64 0,.int .u64 0,.int .u64 0,.bool false] 222 (0,0))):=H1;generalize v1.drewN q=v2 at n2 H2 |-;obtain ⟨⟨d0,d1,d2,d3⟩,e0,e1,e2,e3⟩:=av H2.out;go_wp2_with (go_at_call 166;refine (HB.out _).mono ?_;rintro e w' ⟨rfl,rfl⟩);exact bodyPost_ret (v:=.agg #[.int .i64 lv,.int .u64 tm,.int .u64 asd,.bool g5]) (by simp [results,Tryz.results212,go_sem,d0,d1,d2,d3]) rfl ⟨rfl,BP n2 nle _ _ _ _⟩
def qX (z0:Nat) (z1:Nat):Prop:=∀(b o g n base:Nat) (t:TlbM) (pt lv va asd pick:Int) (w:World) (hn:t.es.length=n) (hn1:n<=1048576) (hs4:t.sets=1∨t.sets=2∨t.sets=4∨t.sets=8) (hw1:1<=t.ways) (hw4:t.ways<=4) (hnw:(n:Int)=t.sets*t.ways) (hbl:b<w.heap.size) (hbg:b≠g)
 (c0:w.cell? ⟨b,o,none⟩=some (.int .i64 t.sets)) (c1:w.cell? ⟨b,o+1,none⟩=some (.int .i64 t.ways)) (c2:w.cell? ⟨b,o+2,none⟩=some (.slice (some ⟨g,0,none⟩) n n)) (ho:w.ownsRow base z1 6 (.slice (some ⟨g,0,none⟩) n n) n (aC t.es))
 (hl:lv=0∨lv=1∨lv=2) (hv0:0<=va) (hv1:va<=18446744073709551615) (h0:0<=pt) (h1:pt<=18446744073709551615) (hp0:0<=pick) (hp1:pick<=255),Calls Tryz.prog z0 #[.pointer (some ⟨b,o,none⟩),.int .u64 pt,.int .i64 lv,.int .u64 va,.int .u64 asd,.int .i64 pick] w fun x w'=>x=.returned (.tuple #[])∧
  w'.ownsRow base z1 6 (.slice (some ⟨g,0,none⟩) n n) n (aC (t.es.set (eA t ⟨true,lv,eF va lv,asd,bj pt 32,pt⟩+iq t ⟨true,lv,eF va lv,asd,bj pt 32,pt⟩ pick) ⟨true,lv,eF va lv,asd,bj pt 32,pt⟩))∧w.grownBy w' (some g)
theorem nZ:qX 205 224∧qX 204 229:=by
 refine ⟨?_,?_⟩;have mL:Hid True:=trivial
 rotate_left
 have mP:Hid True:=trivial
 rotate_left
 all_goals
  intro b o g n base t pt lv va asd pick w hn hn1 hs4 hw1 hw4 hnw hbl hbg c0 c1 c2 ho hl hv0 hv1 h0 h1 hp0 hp1;have hgl:=(bC ho).2.2;simp only at hgl;first
   | (replace mL:=mL;have HO:Hid (w.ownsRow base 224 6 (.slice (some ⟨g,0,none⟩) n n) n (aC t.es)):=ho)
   | (replace mP:=mP;have HO:Hid (w.ownsRow base 229 6 (.slice (some ⟨g,0,none⟩) n n) n (aC t.es)):=ho)
  have htb:=qO va lv hl;have HR:Hid (∀w,Calls Tryz.prog 212 #[.int .u64 pt,.int .i64 lv,.int .u64 va,.int .u64 asd] w fun e w'=>e=.returned (.agg #[.int .i64 lv,.int .u64 (eF va lv),.int .u64 asd,.bool (bj pt 32)])∧Below w.heap.size w w'):=fun w=>vN pt lv va asd w hl hv0 hv1 h0 h1;generalize eF va lv=tm at *;generalize bj pt 32=g5 at *;clear ho;first
   | (replace mL:=mL;go_enter Tryz.func205,Tryz.ntmps205)
   | (replace mP:=mP;go_enter Tryz.func204,Tryz.ntmps204)
  go_wp2_with fail;refine (HR.out w).mono ?_;rintro e v1 ⟨rfl,n1⟩;have n2:=n1.alloc n1.size (Obj.cells #[.int .i64 lv,.int .u64 tm,.int .u64 asd,.bool g5] 222);go_wp2_with fail;generalize v1.alloc (Obj.cells #[.int .i64 lv,.int .u64 tm,.int .u64 asd,.bool g5] 222)=v2 at n2 |-;first
   | (replace mL:=mL;refine (oN.1 b o g n base t ⟨true,lv,tm,asd,g5,pt⟩ pick v2 hn hn1 hs4 hw1 hw4 hnw (Nat.lt_of_lt_of_le hbl n2.size) hbg (Below.cell2 n2 c0 hbl) (Below.cell2 n2 c1 hbl) (Below.cell2 n2 c2 hbl) (ag HO.out n2) htb.1 (by simp only;omega) hp0 hp1).mono ?_)
   | (replace mP:=mP;refine (oN.2 b o g n base t ⟨true,lv,tm,asd,g5,pt⟩ pick v2 hn hn1 hs4 hw1 hw4 hnw (Nat.lt_of_lt_of_le hbl n2.size) hbg (Below.cell2 n2 c0 hbl) (Below.cell2 n2 c1 hbl) (Below.cell2 n2 c2 hbl) (ag HO.out n2) htb.1 (by simp only;omega) hp0 hp1).mono ?_)
  rintro e v3 ⟨rfl,o3,m3⟩;go_wp2_with fail;go_end0;exact ⟨rfl,o3,eJ (sp n2) m3⟩
section
attribute [local go_sem ↓] Go.wp_at_zero Go.wp_at_succ
theorem Keeps.row {w w':World} {x y z g n size:Nat} {cs:List Value} (h:RowC w (some ⟨g,0,none⟩) n size cs) (hk:Keeps w w' x y z) (h1:g≠x) (h2:g≠y) (h3:g≠z):RowC w' (some ⟨g,0,none⟩) n size cs:=by
 obtain ⟨a,b⟩:=h;refine ⟨a,?_⟩;rcases b with b | ⟨q,o,e,hlt,hc⟩
 ·exact .inl b
 ·cases e;exact .inr ⟨g,0,rfl,Nat.lt_of_lt_of_le hlt hk.2.2.2.1,fun i v hi=>(World.cell?_of_block (hk.2.2.2.2 g hlt h1 h2 h3)).trans (hc i v hi)⟩
theorem xz:∀(rs:List dG) (j:Nat) (r:dG),rs[j]?=some r->(cj rs)[j*3]?=some (.int .i64 r.1)∧(cj rs)[j*3+1]?=some (.int .u64 r.2.1)∧(cj rs)[j*3+2]?=some (.int .u64 r.2.2)
 | x::rs,0,r,h=>by
  simp at h;subst h;simp [cj,qc]
 | x::rs,j+1,r,h=>by
  have ih:=xz rs j r (by simpa using h);have e0:(j+1)*3=j*3+3:=by omega
  rw [e0];simpa [cj,qc] using ih
theorem ym (va satp pick:Int) (ps:List dG) (j:Nat) (r:dG) (p:TlbM) (h:ps[j]?=some r) (hk:bu r.2.2 r.1=1):cx va satp pick (ps.take (j+1)) p=cV (cx va satp pick (ps.take j) p) (ee r.1 va satp r.2.2) pick:=by
 rw [List.take_add_one,h,iu];simp only [Option.toList,cx];rw [if_pos hk]
theorem lM {t:TlbM} {e:EntM} {pick:Int} {p:Bool} (hv:aL t p=true) (hg:aW e p=true) (hp:0<=pick∧pick<=255):cV t e pick=⟨t.sets,t.ways,t.es.set (eA t e+iq t e pick) e⟩:=by
 have hf:jm t e=true:=by
  simp only [jm,Bool.or_eq_true,Bool.and_eq_true];cases p
  ·exact .inr ⟨hv,hg⟩
  ·exact .inl ⟨hv,hg⟩
 unfold cV;rw [if_pos ⟨hf,hp.1,hp.2⟩]
def eC (k:KM) (kind va satp pick:Int) (r:Int × Int × Int × List dG) (code:Int):KM:=
 if code=1 then rJ ⟨k.i,k.d,cx va satp pick r.2.2.2 k.p⟩ kind (cV (ep k kind) (ee r.2.1 va satp r.2.2.1) pick) else ⟨k.i,k.d,cx va satp pick r.2.2.2 k.p⟩
end
end Go.Proofs.YtgnnmgfgfihljaaGreat
