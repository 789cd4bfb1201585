import Derived.StillTailTactics
import Derived.Test.YtaoaifmkhbgaiaaGreatPk42
import Derived.Test.YtaoaifmkhbgaiaaGreatPk41
import Derived.Test.YtaoaifmkhbgaiaaGreatPk43
import Derived.Test.YtaoaifmkhbgaiaaGreatPk13
namespace Go.Proofs.YtaoaifmkhbgaiaaGreat
open Go.RowKit
set_option linter.unusedVariables false
attribute [local go_sem ↓] Go.wp_at_zero Go.wp_at_succ
theorem Bn (w:World) (g i:Nat) (x y z u v t:Value):w.grownBy ((((((w.setCell ⟨g,i,none⟩ x).setCell ⟨g,i+1,none⟩ y).setCell ⟨g,i+2,none⟩ z).setCell ⟨g,i+3,none⟩ u).setCell ⟨g,i+4,none⟩ v).setCell ⟨g,i+5,none⟩ t) (some g):=
 ax (ax (ax (ax (ax (ax (aE w (some g)) _ _) _ _) _ _) _ _) _ _) _ _
theorem Bo (w:World) (g i:Nat) (x y z u v t:Value):w.grownBy ((((((w.setCell ⟨g,i,none⟩ x).setCell ⟨g,i+1,none⟩ y).setCell ⟨g,i+2,none⟩ z).setCell ⟨g,i+3,none⟩ u).setCell ⟨g,i+4,none⟩ v).setCell ⟨g,i+5,none⟩ t) (some g):=
 ax (ax (ax (ax (ax (ax (aE w (some g)) _ _) _ _) _ _) _ _) _ _) _ _
def px (z0:Nat) (z1:Nat):Prop:=∀(b o g n base:Nat) (t:TlbM) (e:EntM) (pick:Int) (w:World) (hn:t.es.length=n) (hn1:n≤1048576) (hs4:t.sets=1∨t.sets=2∨t.sets=4∨t.sets=8) (hw1:1≤t.ways) (hw4:t.ways≤4) (hnw:(n:Int)=t.sets*t.ways) (hbl:b<w.heap.size) (hbg:b≠g)
 (c0:w.cell? ⟨b,o,none⟩=some (.int .i64 t.sets)) (c1:w.cell? ⟨b,o+1,none⟩=some (.int .i64 t.ways)) (c2:w.cell? ⟨b,o+2,none⟩=some (.slice (some ⟨g,0,none⟩) n n)) (ho:w.ownsRow base z1 6 (.slice (some ⟨g,0,none⟩) n n) n (aH t.es)) (ht0:0≤e.tag) (ht1:e.tag≤18446744073709551615) (hp0:0≤pick) (hp1:pick≤255),Calls Tryz.prog z0 #[.pointer (some ⟨b,o,none⟩),dl e,.int .i64 pick] w fun x w'=>x=.returned (.tuple #[])∧w'.ownsRow base z1 6 (.slice (some ⟨g,0,none⟩) n n) n (aH (t.es.set (dL t e+fU t e pick) e))∧w.grownBy w' (some g)
set_option maxRecDepth 20000 in
set_option maxHeartbeats 3200000 in
theorem jy:px 113 173∧px 115 183:=by
 refine ⟨?_,?_⟩;have mL:Hid True:=trivial
 rotate_left
 have mP:Hid True:=trivial
 rotate_left
 all_goals
  intro b o g n base t e pick w hn hn1 hs4 hw1 hw4 hnw hbl hbg c0 c1 c2 ho ht0 ht1 hp0 hp1;obtain ⟨sets,ways,es⟩:=t;obtain ⟨vv,lv,tg,asd,gl,pt⟩:=e;simp only at *;first
   | (replace mL:=mL;have HO:Hid (w.ownsRow base 173 6 (.slice (some ⟨g,0,none⟩) n n) n (aH es)):=ho)
   | (replace mP:=mP;have HO:Hid (w.ownsRow base 183 6 (.slice (some ⟨g,0,none⟩) n n) n (aH es)):=ho)
  have HN:Hid (es.length=n):=hn;have hg:=(bI ho).2.2;simp only at hg;clear ho hn;obtain ⟨sx,hsx⟩:∃sx,tg%sets=sx:=⟨_,rfl⟩;have hsb:0≤sx∧sx<sets:=by rw [←hsx];exact ⟨Int.emod_nonneg _ (by omega),Int.emod_lt_of_pos _ (by omega)⟩
  obtain ⟨f,hf⟩:∃f:Nat,(f:Int)=sx*ways:=⟨(sx*ways).toNat,Int.toNat_of_nonneg (Int.mul_nonneg hsb.1 (by omega))⟩;have hfn:(f:Int)+ways≤n:=by
   rw [hnw,hf];have:(sx+1)*ways≤sets*ways:=Int.mul_le_mul_of_nonneg_right (by omega) (by omega);rw [Int.add_mul,Int.one_mul] at this;exact this
  have HFi:Hid (dL ⟨sets,ways,es⟩ ⟨vv,lv,tg,asd,gl,pt⟩=f):=by
   show _=_;unfold dL;simp only;rw [hsx,←hf];simp
  have HWm:Hid (sx*ways=(f:Int)):=hf.symm;obtain ⟨P,hP⟩:∃P,fU ⟨sets,ways,es⟩ ⟨vv,lv,tg,asd,gl,pt⟩ pick=P:=⟨_,rfl⟩;have HW:Hid (fU ⟨sets,ways,es⟩ ⟨vv,lv,tg,asd,gl,pt⟩ pick=P):=hP;rw [HFi.out,hP];clear hP hnw;unfold dl;simp only;first
   | (replace mL:=mL;have n1:=(Below.refl w.heap.size w).alloc (Nat.le_refl _) (Obj.cells #[.int .i64 lv,.int .u64 tg,.int .u64 asd,.bool gl,.bool vv,.int .u64 pt] 173))
   | (replace mP:=mP;have n1:=(Below.refl w.heap.size w).alloc (Nat.le_refl _) (Obj.cells #[.int .i64 lv,.int .u64 tg,.int .u64 asd,.bool gl,.bool vv,.int .u64 pt] 183))
  first
   | (replace mL:=mL;have H1:Hid ((w.alloc (Obj.cells #[.int .i64 lv,.int .u64 tg,.int .u64 asd,.bool gl,.bool vv,.int .u64 pt] 173)).heap[w.heap.size]?=some (.cells #[.int .i64 lv,.int .u64 tg,.int .u64 asd,.bool gl,.bool vv,.int .u64 pt] 173 (0,0))):=heap_alloc_new w _)
   | (replace mP:=mP;have H1:Hid ((w.alloc (Obj.cells #[.int .i64 lv,.int .u64 tg,.int .u64 asd,.bool gl,.bool vv,.int .u64 pt] 183)).heap[w.heap.size]?=some (.cells #[.int .i64 lv,.int .u64 tg,.int .u64 asd,.bool gl,.bool vv,.int .u64 pt] 183 (0,0))):=heap_alloc_new w _)
  first
   | (replace mL:=mL;have l1:(w.alloc (Obj.cells #[.int .i64 lv,.int .u64 tg,.int .u64 asd,.bool gl,.bool vv,.int .u64 pt] 173)).heap.size=w.heap.size+1:=by simp)
   | (replace mP:=mP;have l1:(w.alloc (Obj.cells #[.int .i64 lv,.int .u64 tg,.int .u64 asd,.bool gl,.bool vv,.int .u64 pt] 183)).heap.size=w.heap.size+1:=by simp)
  first
   | (replace mL:=mL;go_enter Tryz.func113,Tryz.ntmps113)
   | (replace mP:=mP;go_enter Tryz.func115,Tryz.ntmps115)
  go_wp2_with fail;first
   | (replace mL:=mL;generalize w.alloc (Obj.cells #[.int .i64 lv,.int .u64 tg,.int .u64 asd,.bool gl,.bool vv,.int .u64 pt] 173)=v1 at n1 H1 l1 ⊢)
   | (replace mP:=mP;generalize w.alloc (Obj.cells #[.int .i64 lv,.int .u64 tg,.int .u64 asd,.bool gl,.bool vv,.int .u64 pt] 183)=v1 at n1 H1 l1 ⊢)
  have r0:v1.cell? ⟨b,o,none⟩=some (.int .i64 sets):=Below.cell2 n1 c0 hbl;have r1:v1.cell? ⟨b,o+1,none⟩=some (.int .i64 ways):=Below.cell2 n1 c1 hbl;obtain ⟨⟨x0,x1,x2,x3,x4,x5⟩,_⟩:=gH H1.out;first
   | (replace mL:=mL;have HSt:Hid (∀q,Calls Tryz.prog 130 #[.pointer (some ⟨b,o,none⟩),.int .u64 tg] (v1.drewN q) fun e w'=>e=.returned (.int .i64 sx)∧w'=v1.drewN q):=fun q=>by
        have:=pP b o sets tg (v1.drewN q) hs4 r0 ht0 ht1
        rw [hsx] at this
        exact this)
   | (replace mP:=mP;have HSt:Hid (∀q,Calls Tryz.prog 132 #[.pointer (some ⟨b,o,none⟩),.int .u64 tg] (v1.drewN q) fun e w'=>e=.returned (.int .i64 sx)∧w'=v1.drewN q):=fun q=>by
        have:=pQ b o sets tg (v1.drewN q) hs4 r0 ht0 ht1
        rw [hsx] at this
        exact this)
  clear hsx hf;go_cut [6] (fun s6 wx=>s6=.int .i64 f∧∃q,wx=v1.drewN q)
  case first=>
   first
    | (replace mL:=mL;go_quiet ((go_at_call 130;exact Calls.quiet_of_same (HSt.out _))))
    | (replace mP:=mP;go_quiet ((go_at_call 132;exact Calls.quiet_of_same (HSt.out _))))
   go_wp2_with fail;go_meet;exact ⟨by rw [HWm.out];(try (rw [show wrap64 (f:Int)=f from by unfold wrap64;omega])),nq,rfl⟩
  case rest=>
   obtain ⟨rfl,q,rfl⟩:=hcut;have n2:Below w.heap.size w (v1.drewN q):=below_drewN n1 q;first
    | (replace mL:=mL;have H2:Hid ((v1.drewN q).heap[w.heap.size]?=some (.cells #[.int .i64 lv,.int .u64 tg,.int .u64 asd,.bool gl,.bool vv,.int .u64 pt] 173 (0,0))):=H1)
    | (replace mP:=mP;have H2:Hid ((v1.drewN q).heap[w.heap.size]?=some (.cells #[.int .i64 lv,.int .u64 tg,.int .u64 asd,.bool gl,.bool vv,.int .u64 pt] 183 (0,0))):=H1)
   have l2:(v1.drewN q).heap.size=w.heap.size+1:=l1;generalize v1.drewN q=v2 at n2 H2 l2 ⊢;first
    | (replace mL:=mL;have O2:Hid (v2.ownsRow base 173 6 (.slice (some ⟨g,0,none⟩) n n) n (aH es)):=aj HO.out n2)
    | (replace mP:=mP;have O2:Hid (v2.ownsRow base 183 6 (.slice (some ⟨g,0,none⟩) n n) n (aH es)):=aj HO.out n2)
   clear r0 r1 x0 x1 x2 x3 x4 x5 HSt H1 n1 l1 HWm;have r1:v2.cell? ⟨b,o+1,none⟩=some (.int .i64 ways):=Below.cell2 n2 c1 hbl;have r2:v2.cell? ⟨b,o+2,none⟩=some (.slice (some ⟨g,0,none⟩) n n):=Below.cell2 n2 c2 hbl;obtain ⟨⟨x0,x1,x2,x3,x4,x5⟩,_⟩:=gH H2.out;have hll:(aH es).length=n*6:=by rw [eR,HN.out]
   have hgw:g≠w.heap.size:=by omega
   have hwg:w.heap.size≠g:=by omega
   go_wp2_with fail
   go_loop [7] (fun i=>∃q:Nat,f≤q∧(q:Int)≤f+ways∧i=.int .i64 q∧Hid (∀q':Nat,f≤q'→q'<q→(es[q']?.getD cL).valid=true)) (fun i=>f+4-(intOf i).toNat)
   case atStart=>exact ⟨f,Nat.le_refl _,by omega,rfl,fun q' h h'=>absurd h' (by omega)⟩
   case round=>
    obtain ⟨q,hq1,hq2,rfl,HQ⟩:=hrel;by_cases hqt:(q:Int)<f+ways
    ·have hqn:q<n:=by omega
     obtain ⟨⟨wv,wl,wt,wa,wg,wp⟩,hx⟩:∃x,es[q]?=some x:=⟨_,List.getElem?_eq_getElem (by rw [HN.out];exact hqn)⟩;have HXq:Hid (es[q]?=some ⟨wv,wl,wt,wa,wg,wp⟩):=hx;have g4:v2.cell? ⟨g,q*6+4,none⟩=some (.bool wv):=pR O2.out HN.out q _ hx 4 _ (by omega) rfl;clear hx;cases wv
     ·have hP:P=q-f:=by
       rw [←HW.out];unfold fU;simp only;rw [HFi.out,nm es f ways.toNat 0 (q-f) (by omega) (fun j hj=>by rw [Nat.zero_add];exact HQ.out (f+j) (by omega) (by omega)) (by rw [Nat.zero_add,show f+(q-f)=q by omega,HXq.out];rfl)];simp
      subst hP;go_wp2_with fail;have q0:=aI O2.out (q*6) _ (List.getElem?_eq_getElem (by omega));have q1:=aI O2.out (q*6+1) _ (List.getElem?_eq_getElem (by omega));have q2:=aI O2.out (q*6+2) _ (List.getElem?_eq_getElem (by omega));have q3:=aI O2.out (q*6+3) _ (List.getElem?_eq_getElem (by omega));have q4z:=aI O2.out (q*6+4) _ (List.getElem?_eq_getElem (by omega));have q5:=aI O2.out (q*6+5) _ (List.getElem?_eq_getElem (by omega));generalize (aH es)[q*6]'_=y0 at q0;generalize (aH es)[q*6+1]'_=y1 at q1;generalize (aH es)[q*6+2]'_=y2 at q2;generalize (aH es)[q*6+3]'_=y3 at q3;generalize (aH es)[q*6+4]'_=y4 at q4z;generalize (aH es)[q*6+5]'_=y5 at q5;have s0:=aP O2.out (q*6);have s1:=aP O2.out (q*6+1);have s2:=aP O2.out (q*6+2);have s3:=aP O2.out (q*6+3);have s4:=aP O2.out (q*6+4);have s5:=aP O2.out (q*6+5);go_still_tail 7,(by kernel_rfl);go_wp2_with fail;first
       | (replace mL:=mL;refine bodyPost_ret (v:=.tuple #[]) (by simp [results,Tryz.results113,go_sem]) rfl ⟨rfl,?_,?_⟩)
       | (replace mP:=mP;refine bodyPost_ret (v:=.tuple #[]) (by simp [results,Tryz.results115,go_sem]) rfl ⟨rfl,?_,?_⟩)
      ·rw [show f+(q-f)=q by omega,i7 es q _ (by rw [HN.out];exact hqn)];exact jR (aJ (aJ (aJ (aJ (aJ (aJ O2.out _ _) _ _) _ _) _ _) _ _) _ _)
      ·first
        | (replace mL:=mL;exact fs (tr n2) (fs (Bn v2 g (q*6) _ _ _ _ _ _) (qO _ _)))
        | (replace mP:=mP;exact fs (tr n2) (fs (Bo v2 g (q*6) _ _ _ _ _ _) (qO _ _)))
     ·go_wp2_with fail
      go_round
      case rel=>exact ⟨q+1,by omega,by omega,by go_num,fun q' h1 h2=>by
       by_cases e:q'=q
       ·subst e;rw [HXq.out];rfl
       ·exact HQ.out q' h1 (by omega)⟩
      case measure=>simp [intOf];omega
    ·have hP:P=(pick%ways).toNat:=by
      rw [←HW.out];unfold fU;simp only;rw [HFi.out,no es f ways.toNat 0 (fun j hj=>by rw [Nat.zero_add];exact HQ.out (f+j) (by omega) (by omega))];rfl
     have hpm:0≤pick%ways∧pick%ways<ways:=⟨Int.emod_nonneg _ (by omega),Int.emod_lt_of_pos _ (by omega)⟩;obtain ⟨r,hr⟩:∃r:Nat,(r:Int)=pick%ways:=⟨(pick%ways).toNat,Int.toNat_of_nonneg hpm.1⟩;have hPr:P=r:=by rw [hP,←hr];simp
     subst hPr;clear hP hpm;have hrm:pick%ways=(P:Int):=hr.symm;have hrb:(f:Int)+P<n:=by
      have:pick%ways<ways:=Int.emod_lt_of_pos _ (by omega);omega
     have hw0:¬(ways=0):=by omega
     have htm:pick.tmod ways=(P:Int):=by rw [Int.tmod_eq_emod_of_nonneg hp0];exact hr.symm
     clear hr hrm;obtain ⟨d,hd⟩:∃d:Nat,f+P=d:=⟨_,rfl⟩;have hdn:d<n:=by omega
     have HD:Hid (f+P=d):=hd;have hfp:(f:Int)+(P:Int)=(d:Int):=by omega
     clear hd;have hwd:IntKind.i64.wrap (d:Int)=(d:Int):=(IntKind.wrap_i64 _).trans (by omega);go_wp2_with fail;have q0:=aI O2.out (d*6) _ (List.getElem?_eq_getElem (by omega));have q1:=aI O2.out (d*6+1) _ (List.getElem?_eq_getElem (by omega));have q2:=aI O2.out (d*6+2) _ (List.getElem?_eq_getElem (by omega));have q3:=aI O2.out (d*6+3) _ (List.getElem?_eq_getElem (by omega));have q4:=aI O2.out (d*6+4) _ (List.getElem?_eq_getElem (by omega));have q5:=aI O2.out (d*6+5) _ (List.getElem?_eq_getElem (by omega));generalize (aH es)[d*6]'_=y0 at q0;generalize (aH es)[d*6+1]'_=y1 at q1;generalize (aH es)[d*6+2]'_=y2 at q2;generalize (aH es)[d*6+3]'_=y3 at q3;generalize (aH es)[d*6+4]'_=y4 at q4;generalize (aH es)[d*6+5]'_=y5 at q5;have s0:=aP O2.out (d*6);have s1:=aP O2.out (d*6+1);have s2:=aP O2.out (d*6+2);have s3:=aP O2.out (d*6+3);have s4:=aP O2.out (d*6+4);have s5:=aP O2.out (d*6+5);go_still_tail 14,(by kernel_rfl);go_wp2_with fail;go_end0;refine ⟨rfl,?_,?_⟩
     ·rw [HD.out,i7 es d _ (by rw [HN.out];exact hdn)];exact jR (aJ (aJ (aJ (aJ (aJ (aJ O2.out _ _) _ _) _ _) _ _) _ _) _ _)
     ·first
       | (replace mL:=mL;exact fs (tr n2) (fs (Bn v2 g (d*6) _ _ _ _ _ _) (qO _ _)))
       | (replace mP:=mP;exact fs (tr n2) (fs (Bo v2 g (d*6) _ _ _ _ _ _) (qO _ _)))
end Go.Proofs.YtaoaifmkhbgaiaaGreat
