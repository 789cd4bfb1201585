import Derived.Test.YtfgogedgolgnaaaEk08
import Derived.Test.YtfgogedgolgnaaaEk09
import Derived.Test.YtfgogedgolgnaaaEk06
namespace Go.Proofs.Ytfgogedgolgnaaa
open Go.RowKit
set_option linter.unusedVariables false
set_option maxHeartbeats 6400000
set_option maxRecDepth 20000
def fo (f:FenceM) (lv tg asd:Int) (gl:Bool):Bool:=(!f.hasVa || tg == bC f.va lv) && (!f.hasAsid || (!gl && asd == f.asid))
theorem db (f:FenceM) (lv tg asd:Int) (gl:Bool) (h:f.hasVa=false∨bm f.va=true):fo f lv tg asd gl=bB f lv tg asd gl:=by
 unfold fo bB;rcases h with h | h
 ·rw [h];simp
 ·rw [h];cases f.hasVa <;> simp [bne]
theorem eL (f:FenceM) (lv tg asd:Int) (gl:Bool) (h1:f.hasVa=true) (h2:bm f.va=false):bB f lv tg asd gl=false:=by
 unfold bB;rw [h1,h2];simp
theorem dn (lv tg asd:Int) (gl:Bool) (w:World):
 Calls Try.prog 81 #[.agg #[.int .i64 lv,.int .u64 tg,.int .u64 asd,.bool gl]] w fun e w'=>e=.returned (.bool false)∧Below w.heap.size w w':=by
 have n1:=(Below.refl w.heap.size w).alloc (Nat.le_refl _) (Obj.cells #[.int .i64 lv,.int .u64 tg,.int .u64 asd,.bool gl] 116);go_enter Try.func81,Try.ntmps81;go_wp2_with fail;go_ret;exact ⟨rfl,by first | exact n1 | exact Below.refl _ _⟩
theorem dp (hv:Bool) (fva:Int) (ha:Bool) (fa:Int) (lv tg asd:Int) (gl:Bool) (pf pv:Nat) (w:World) (hl:lv=0∨lv=1∨lv=2) (hv0:0<=fva) (hv1:fva<=18446744073709551615)
 (hF:w.heap[pf]?=some (.cells #[.bool hv,.int .u64 fva,.bool ha,.int .u64 fa] 49 (0,0))) (hV:w.heap[pv]?=some (.cells #[.int .u64 fva] 130 (0,0))):
 Calls Try.prog 82 #[.agg #[.int .i64 lv,.int .u64 tg,.int .u64 asd,.bool gl],.pointer (some ⟨pf,0,none⟩),.pointer (some ⟨pv,0,none⟩)] w fun e w'=>e=.returned (.bool (fo ⟨hv,fva,ha,fa⟩ lv tg asd gl))∧Below w.heap.size w w':=by
 have n1:=(Below.refl w.heap.size w).alloc (Nat.le_refl _) (Obj.cells #[.int .i64 lv,.int .u64 tg,.int .u64 asd,.bool gl] 116);have H1:Hid ((w.alloc (Obj.cells #[.int .i64 lv,.int .u64 tg,.int .u64 asd,.bool gl] 116)).heap[w.heap.size]?=some (.cells #[.int .i64 lv,.int .u64 tg,.int .u64 asd,.bool gl] 116 (0,0))):=heap_alloc_new w _;have lf:pf<w.heap.size:=(Array.getElem?_eq_some_iff.1 hF).1;have lv':pv<w.heap.size:=(Array.getElem?_eq_some_iff.1 hV).1;have F1:Hid ((w.alloc (Obj.cells #[.int .i64 lv,.int .u64 tg,.int .u64 asd,.bool gl] 116)).heap[pf]?=some (.cells #[.bool hv,.int .u64 fva,.bool ha,.int .u64 fa] 49 (0,0))):=aF hF n1 lf;have V1:Hid ((w.alloc (Obj.cells #[.int .i64 lv,.int .u64 tg,.int .u64 asd,.bool gl] 116)).heap[pv]?=some (.cells #[.int .u64 fva] 130 (0,0))):=aF hV n1 lv';obtain ⟨sb,hsb⟩:∃sb,(tg == bC fva lv)=sb:=⟨_,rfl⟩;have HSp:Hid (∀w,Calls Try.prog 83 #[.agg #[.int .i64 lv,.int .u64 tg,.int .u64 asd,.bool gl],.int .u64 fva] w fun e w'=>e=.returned (.bool sb)∧Below w.heap.size w w'):=fun w=>by
  have:=dP lv tg asd fva gl w hl hv0 hv1;rw [hsb] at this;exact this
 have hcov:fo ⟨hv,fva,ha,fa⟩ lv tg asd gl=((!hv || sb) && (!ha || (!gl && asd == fa))):=by unfold fo;rw [hsb]
 rw [hcov];obtain ⟨⟨f0,f1,f2,f3⟩,_,_,_,_⟩:=aG hF;have vc:w.cell? ⟨pv,0,none⟩=some (.int .u64 fva):=by simp [World.cell?,hV]
 clear hsb hcov hF hV;cases hv
 ·cases ha
  ·go_enter Try.func82,Try.ntmps82;go_wp2_with fail;go_ret;exact ⟨aj (by simp),n1⟩
  ·cases gl;all_goals
    go_enter Try.func82,Try.ntmps82;go_wp2_with fail;go_ret;exact ⟨aj (by simp),n1⟩
 ·cases ha
  ·cases sb;all_goals
    go_enter Try.func82,Try.ntmps82;go_wp2_with fail;generalize w.alloc (Obj.cells #[.int .i64 lv,.int .u64 tg,.int .u64 asd,.bool gl] 116)=v1 at n1 H1 F1 V1 |-;refine (HSp.out v1).mono ?_;rintro e v2 ⟨rfl,n2⟩;have A2:=Below.step n1 n2 (Nat.le_refl _);have F2:=ab F1 n2;have R2:=ab H1 n2;clear f0 f1 f2 f3 vc;obtain ⟨⟨f0,f1,f2,f3⟩,_,_,_,_⟩:=aG F2.out;obtain ⟨⟨r0,r1,r2,r3⟩,_,_,_,_⟩:=aG R2.out;go_wp2_with fail;go_ret;exact ⟨aj (by simp),A2⟩
  ·cases sb <;> cases gl;all_goals
    go_enter Try.func82,Try.ntmps82;go_wp2_with fail;generalize hv1:w.alloc _=v1 at n1 H1 F1 V1 |-;refine (HSp.out v1).mono ?_;rintro e v2 ⟨rfl,n2⟩;have A2:=Below.step n1 n2 (Nat.le_refl _);have F2:=ab F1 n2;have R2:=ab H1 n2;clear f0 f1 f2 f3 vc;obtain ⟨⟨f0,f1,f2,f3⟩,_,_,_,_⟩:=aG F2.out;obtain ⟨⟨r0,r1,r2,r3⟩,_,_,_,_⟩:=aG R2.out;go_wp2_with fail;go_ret;exact ⟨aj (by simp),A2⟩
def CovAns (base:Nat) (w:World) (e:Ending) (f:FenceM):Prop:=
 (f.hasVa=true∧bm f.va=false∧e=.returned (.func (.func 81) #[] #[]))∨
 ((f.hasVa=false∨bm f.va=true)∧∃pf pv,e=.returned (.func (.func 82) #[] #[.pointer (some ⟨pf,0,none⟩),.pointer (some ⟨pv,0,none⟩)])∧base<=pf∧base<=pv∧
  w.heap[pf]?=some (.cells #[.bool f.hasVa,.int .u64 f.va,.bool f.hasAsid,.int .u64 f.asid] 49 (0,0))∧w.heap[pv]?=some (.cells #[.int .u64 f.va] 130 (0,0)))
theorem dq (hv:Bool) (fva:Int) (ha:Bool) (fa:Int) (w:World) (hv0:0<=fva) (hv1:fva<=18446744073709551615):
 Calls Try.prog 47 #[.agg #[.bool hv,.int .u64 fva,.bool ha,.int .u64 fa]] w fun e w'=>CovAns w.heap.size w' e ⟨hv,fva,ha,fa⟩∧Below w.heap.size w w':=by
 have n1:=((Below.refl w.heap.size w).alloc (Nat.le_refl _) (Obj.cells #[.bool hv,.int .u64 fva,.bool ha,.int .u64 fa] 49)).alloc (by simp) (Obj.cells #[.int .u64 fva] 130);have H1:Hid (((w.alloc (Obj.cells #[.bool hv,.int .u64 fva,.bool ha,.int .u64 fa] 49)).alloc (Obj.cells #[.int .u64 fva] 130)).heap[w.heap.size]?=some (.cells #[.bool hv,.int .u64 fva,.bool ha,.int .u64 fa] 49 (0,0))):=by
  show _=_;rw [heap_alloc_old _ _ (by simp)];exact heap_alloc_new w _
 have H2:Hid (((w.alloc (Obj.cells #[.bool hv,.int .u64 fva,.bool ha,.int .u64 fa] 49)).alloc (Obj.cells #[.int .u64 fva] 130)).heap[w.heap.size+1]?=some (.cells #[.int .u64 fva] 130 (0,0))):=by
  have:=heap_alloc_new (w.alloc (Obj.cells #[.bool hv,.int .u64 fva,.bool ha,.int .u64 fa] 49)) (Obj.cells #[.int .u64 fva] 130);simp only [World.size_alloc] at this;exact this
 obtain ⟨cb,hcb⟩:∃cb,bm fva=cb:=⟨_,rfl⟩;have HCan:Hid (∀u:World,Calls Try.prog 80 #[.int .u64 fva] u fun e w'=>e=.returned (.bool cb)∧w'=u):=fun u=>by
  have:=dW fva u hv0 hv1;rw [hcb] at this;exact this
 have HCb:Hid (bm fva=cb):=hcb;clear hcb;cases hv
 ·go_enter Try.func47,Try.ntmps47;go_wp2_with fail;go_ret;exact ⟨.inr ⟨.inl rfl,_,_,rfl,Nat.le_refl _,by omega,H1.out,H2.out⟩,n1⟩
 ·cases cb
  ·go_enter Try.func47,Try.ntmps47;go_wp2_with (go_at_call 80;refine (HCan.out _).mono ?_;rintro e w' ⟨rfl,rfl⟩);go_ret;exact ⟨.inl ⟨rfl,HCb.out,rfl⟩,n1⟩
  ·go_enter Try.func47,Try.ntmps47;go_wp2_with (go_at_call 80;refine (HCan.out _).mono ?_;rintro e w' ⟨rfl,rfl⟩);go_ret;exact ⟨.inr ⟨.inr HCb.out,_,_,rfl,Nat.le_refl _,by omega,H1.out,H2.out⟩,n1⟩
section
attribute [local go_sem ↓] Go.wp_at_zero Go.wp_at_succ
theorem em (hv:Bool) (fva:Int) (ha:Bool) (fa:Int) (pf pv b o g n base:Nat) (es:List EntM) (sets ways:Int) (w:World) (hn:es.length=n) (hn1:n<=1048576) (hbl:b<w.heap.size) (hbg:b≠g) (hv0:0<=fva) (hv1:fva<=18446744073709551615) (hcan:hv=false∨bm fva=true) (hpf:pf≠g) (hpv:pv≠g) (hF:w.heap[pf]?=some (.cells #[.bool hv,.int .u64 fva,.bool ha,.int .u64 fa] 49 (0,0))) (hV:w.heap[pv]?=some (.cells #[.int .u64 fva] 130 (0,0)))
 (c2:w.cell? ⟨b,o+2,none⟩=some (.slice (some ⟨g,0,none⟩) n n)) (ho:w.ownsRow base 123 6 (.slice (some ⟨g,0,none⟩) n n) n (af es)) (hlv:∀(j:Nat) (x:EntM),es[j]?=some x->x.valid=true->0<=x.level∧x.level<=2):
 Calls Try.prog 84 #[.pointer (some ⟨b,o,none⟩),.func (.func 82) #[] #[.pointer (some ⟨pf,0,none⟩),.pointer (some ⟨pv,0,none⟩)]] w fun x w'=>x=.returned (.tuple #[])∧w'.ownsRow base 123 6 (.slice (some ⟨g,0,none⟩) n n) n (af (es.map (ay ⟨hv,fva,ha,fa⟩)))∧w.grownBy w' (some g):=by
 have HO:Hid (w.ownsRow base 123 6 (.slice (some ⟨g,0,none⟩) n n) n (af es)):=ho;have HN:Hid (es.length=n):=hn;have HLv:Hid (∀(j:Nat) (x:EntM),es[j]?=some x->x.valid=true->0<=x.level∧x.level<=2):=hlv;have hg:=(aw ho).2.2;simp only at hg;clear ho hn hlv;go_enter Try.func84,Try.ntmps84;go_wp2_with fail;go_loopw [11] (fun i wr=>∃k:Nat,k<=n∧i=.int .i64 k∧w.grownBy wr (some g)∧wr.ownsRow base 123 6 (.slice (some ⟨g,0,none⟩) n n) n (af (am ⟨hv,fva,ha,fa⟩ k es))) (fun i _=>n-(intOf i).toNat)
 case atStart=>exact ⟨0,Nat.zero_le _,rfl,bi _ _,by rw [show am ⟨hv,fva,ha,fa⟩ 0 es=es by simp [am]];exact HO.out⟩
 case round=>
  obtain ⟨k,hk,rfl,hgb,hO⟩:=hrel;have PO:Hid (wr.ownsRow base 123 6 (.slice (some ⟨g,0,none⟩) n n) n (af (am ⟨hv,fva,ha,fa⟩ k es))):=hO;have lr:w.heap.size<=wr.heap.size:=hgb.size;have hfl:(af (am ⟨hv,fva,ha,fa⟩ k es)).length=n*6:=hO.1;clear hO;have r2:wr.cell? ⟨b,o+2,none⟩=some (.slice (some ⟨g,0,none⟩) n n):=ce hgb c2 hbl hbg;by_cases hlt:k<n
  ·obtain ⟨⟨vv,lv,tg,asd,gl,pt⟩,hx⟩:∃x,es[k]?=some x:=⟨_,List.getElem?_eq_getElem (by rw [HN.out];exact hlt)⟩;have hx':(am ⟨hv,fva,ha,fa⟩ k es)[k]?=some ⟨vv,lv,tg,asd,gl,pt⟩:=by
    first
     | exact hx
     | (unfold am
        have hkl:k<=es.length:=by rw [HN.out];omega
        rw [List.getElem?_append_right (by simp;omega),List.length_map,List.length_take,Nat.min_eq_left hkl,Nat.sub_self,List.getElem?_drop,Nat.add_zero,hx])
   have HXk:Hid (es[k]?=some ⟨vv,lv,tg,asd,gl,pt⟩):=hx;have CE:∀j u,j<6->(bc ⟨vv,lv,tg,asd,gl,pt⟩)[j]?=some u->wr.cell? ⟨g,k*6+j,none⟩=some u:=fun j u hj hu=>bS PO.out (by have:=hfl;rw [aN] at this;omega) k _ hx' j u hj hu;have g0:wr.cell? ⟨g,k*6,none⟩=some (.int .i64 lv):=CE 0 _ (by omega) rfl;have g1:wr.cell? ⟨g,k*6+1,none⟩=some (.int .u64 tg):=CE 1 _ (by omega) rfl;have g2:wr.cell? ⟨g,k*6+2,none⟩=some (.int .u64 asd):=CE 2 _ (by omega) rfl;have g3:wr.cell? ⟨g,k*6+3,none⟩=some (.bool gl):=CE 3 _ (by omega) rfl;have g4:wr.cell? ⟨g,k*6+4,none⟩=some (.bool vv):=CE 4 _ (by omega) rfl;have g5:wr.cell? ⟨g,k*6+5,none⟩=some (.int .u64 pt):=CE 5 _ (by omega) rfl;have HNx:Hid _:=cm ⟨hv,fva,ha,fa⟩ k es _ hx;have HSm:Hid ((am ⟨hv,fva,ha,fa⟩ k es).set k ⟨vv,lv,tg,asd,gl,pt⟩=am ⟨hv,fva,ha,fa⟩ k es):=by
    show _=_;apply List.ext_getElem?;intro j;rw [List.getElem?_set];by_cases hj:k=j
    ·subst hj;have hkl:=(List.getElem?_eq_some_iff.1 hx').1;rw [if_pos rfl,if_pos hkl,hx']
    ·rw [if_neg hj]
   have HLx:Hid (vv=true->0<=lv∧lv<=2):=fun h=>HLv.out k _ hx h;clear CE hx hx';have n5:=(Below.refl wr.heap.size wr).alloc (Nat.le_refl _) (Obj.cells #[.int .i64 lv,.int .u64 tg,.int .u64 asd,.bool gl,.bool vv,.int .u64 pt] 123);have hgb5:=br hgb n5;cases vv
   ·have hst:ay ⟨hv,fva,ha,fa⟩ ⟨false,lv,tg,asd,gl,pt⟩=⟨false,lv,tg,asd,gl,pt⟩:=by simp [ay]
    go_wp2_with fail;go_roundw
    case rel=>exact ⟨k+1,by omega,by go_num,hgb5,by rw [HNx.out,hst,HSm.out];exact ah PO.out n5⟩
    case measure=>simp [intOf];omega
   ·obtain ⟨hl0,hl2⟩:=HLx.out rfl;obtain ⟨cb,hcb⟩:∃cb,bB ⟨hv,fva,ha,fa⟩ lv tg asd gl=cb:=⟨_,rfl⟩;have hst:ay ⟨hv,fva,ha,fa⟩ ⟨true,lv,tg,asd,gl,pt⟩=if cb=true then aC else ⟨true,lv,tg,asd,gl,pt⟩:=by simp [ay,hcb]
    have HSt:Hid _:=hst;have HCv:Hid (∀u:World,u.heap[pf]?=some (.cells #[.bool hv,.int .u64 fva,.bool ha,.int .u64 fa] 49 (0,0))->u.heap[pv]?=some (.cells #[.int .u64 fva] 130 (0,0))->Calls Try.prog 82 #[.agg #[.int .i64 lv,.int .u64 tg,.int .u64 asd,.bool gl],.pointer (some ⟨pf,0,none⟩),.pointer (some ⟨pv,0,none⟩)] u fun e w'=>e=.returned (.bool cb)∧Below u.heap.size u w'):=fun u h1 h2=>by
     have:=dp hv fva ha fa lv tg asd gl pf pv u (by omega) hv0 hv1 h1 h2;rw [db _ _ _ _ _ hcan,hcb] at this;exact this
    have F5:=aH hF hgb5 hpf;have V5:=aH hV hgb5 hpv;clear hcb hst;go_wp2_with fail;generalize wr.alloc (Obj.cells #[.int .i64 lv,.int .u64 tg,.int .u64 asd,.bool gl,.bool true,.int .u64 pt] 123)=v5 at n5 hgb5 F5 V5 |-;refine (HCv.out v5 F5 V5).mono ?_;rintro e v6 ⟨rfl,n6⟩;have n56:=Below.step n5 n6 (Nat.le_refl _);have hgb6:=br hgb n56;have SO:Hid (v6.ownsRow base 123 6 (.slice (some ⟨g,0,none⟩) n n) n (af (am ⟨hv,fva,ha,fa⟩ k es))):=ah PO.out n56;clear g0 g1 g2 g3 g4 g5 r2 F5 V5 n5 n6 hgb5 hgb;have r2:v6.cell? ⟨b,o+2,none⟩=some (.slice (some ⟨g,0,none⟩) n n):=ce hgb6 c2 hbl hbg;cases cb
    ·go_wp2_with fail;go_roundw
     case rel=>exact ⟨k+1,by omega,by go_num,hgb6,by rw [HNx.out,HSt.out];simp only [Bool.false_eq_true,if_false];rw [HSm.out];exact SO.out⟩
     case measure=>simp [intOf];omega
    ·
     have q0:=ae SO.out (k*6) _ (List.getElem?_eq_getElem (by omega));have q1:=ae SO.out (k*6+1) _ (List.getElem?_eq_getElem (by omega));have q2:=ae SO.out (k*6+2) _ (List.getElem?_eq_getElem (by omega));have q3:=ae SO.out (k*6+3) _ (List.getElem?_eq_getElem (by omega));have q4:=ae SO.out (k*6+4) _ (List.getElem?_eq_getElem (by omega));have q5:=ae SO.out (k*6+5) _ (List.getElem?_eq_getElem (by omega));generalize (af (am ⟨hv,fva,ha,fa⟩ k es))[k*6]'_=y0 at q0;generalize (af (am ⟨hv,fva,ha,fa⟩ k es))[k*6+1]'_=y1 at q1;generalize (af (am ⟨hv,fva,ha,fa⟩ k es))[k*6+2]'_=y2 at q2;generalize (af (am ⟨hv,fva,ha,fa⟩ k es))[k*6+3]'_=y3 at q3;generalize (af (am ⟨hv,fva,ha,fa⟩ k es))[k*6+4]'_=y4 at q4;generalize (af (am ⟨hv,fva,ha,fa⟩ k es))[k*6+5]'_=y5 at q5;have s0:=ag SO.out (k*6);have s1:=ag SO.out (k*6+1);have s2:=ag SO.out (k*6+2);have s3:=ag SO.out (k*6+3);have s4:=ag SO.out (k*6+4);have s5:=ag SO.out (k*6+5);go_wp2_with fail;go_roundw
     case rel=>
      refine ⟨k+1,by omega,by go_num,ap (ap (ap (ap (ap (ap hgb6 _ _) _ _) _ _) _ _) _ _) _ _,?_⟩;rw [HNx.out,HSt.out,if_pos (by trivial),be _ _ _ (by rw [bI,HN.out];exact hlt)];exact ac (ac (ac (ac (ac (ac SO.out _ _) _ _) _ _) _ _) _ _) _ _
     case measure=>simp [intOf];omega
  ·have hkn:k=n:=by omega
   subst hkn;go_wp2_with fail;go_end0;refine ⟨rfl,?_,hgb⟩;have hO:=PO.out;have hsn:am ⟨hv,fva,ha,fa⟩ k es=es.map (ay ⟨hv,fva,ha,fa⟩):=by
    have hq:es.length=k:=HN.out;unfold am;rw [<-hq,List.take_length,List.drop_length,List.append_nil]
   rw [hsn] at hO;exact hO
theorem en (hv:Bool) (fva:Int) (ha:Bool) (fa:Int) (pf pv b o g n base:Nat) (es:List EntM) (sets ways:Int) (w:World) (hn:es.length=n) (hn1:n<=1048576) (hbl:b<w.heap.size) (hbg:b≠g)
 (c2:w.cell? ⟨b,o+2,none⟩=some (.slice (some ⟨g,0,none⟩) n n)) (ho:w.ownsRow base 123 6 (.slice (some ⟨g,0,none⟩) n n) n (af es)) (hlv:∀(j:Nat) (x:EntM),es[j]?=some x->x.valid=true->0<=x.level∧x.level<=2):
 Calls Try.prog 84 #[.pointer (some ⟨b,o,none⟩),.func (.func 81) #[] #[]] w fun x w'=>x=.returned (.tuple #[])∧w'.ownsRow base 123 6 (.slice (some ⟨g,0,none⟩) n n) n (af (es))∧w.grownBy w' (some g):=by
 have HO:Hid (w.ownsRow base 123 6 (.slice (some ⟨g,0,none⟩) n n) n (af es)):=ho;have HN:Hid (es.length=n):=hn;have HLv:Hid (∀(j:Nat) (x:EntM),es[j]?=some x->x.valid=true->0<=x.level∧x.level<=2):=hlv;have hg:=(aw ho).2.2;simp only at hg;clear ho hn hlv;go_enter Try.func84,Try.ntmps84;go_wp2_with fail;go_loopw [11] (fun i wr=>∃k:Nat,k<=n∧i=.int .i64 k∧w.grownBy wr (some g)∧wr.ownsRow base 123 6 (.slice (some ⟨g,0,none⟩) n n) n (af (es))) (fun i _=>n-(intOf i).toNat)
 case atStart=>exact ⟨0,Nat.zero_le _,rfl,bi _ _,HO.out⟩
 case round=>
  obtain ⟨k,hk,rfl,hgb,hO⟩:=hrel;have PO:Hid (wr.ownsRow base 123 6 (.slice (some ⟨g,0,none⟩) n n) n (af (es))):=hO;have lr:w.heap.size<=wr.heap.size:=hgb.size;have hfl:(af (es)).length=n*6:=hO.1;clear hO;have r2:wr.cell? ⟨b,o+2,none⟩=some (.slice (some ⟨g,0,none⟩) n n):=ce hgb c2 hbl hbg;by_cases hlt:k<n
  ·obtain ⟨⟨vv,lv,tg,asd,gl,pt⟩,hx⟩:∃x,es[k]?=some x:=⟨_,List.getElem?_eq_getElem (by rw [HN.out];exact hlt)⟩;have hx':(es)[k]?=some ⟨vv,lv,tg,asd,gl,pt⟩:=by
    first
     | exact hx
     | (unfold am
        have hkl:k<=es.length:=by rw [HN.out];omega
        rw [List.getElem?_append_right (by simp;omega),List.length_map,List.length_take,Nat.min_eq_left hkl,Nat.sub_self,List.getElem?_drop,Nat.add_zero,hx])
   have HXk:Hid (es[k]?=some ⟨vv,lv,tg,asd,gl,pt⟩):=hx;have CE:∀j u,j<6->(bc ⟨vv,lv,tg,asd,gl,pt⟩)[j]?=some u->wr.cell? ⟨g,k*6+j,none⟩=some u:=fun j u hj hu=>bS PO.out (by have:=hfl;rw [aN] at this;omega) k _ hx' j u hj hu;have g0:wr.cell? ⟨g,k*6,none⟩=some (.int .i64 lv):=CE 0 _ (by omega) rfl;have g1:wr.cell? ⟨g,k*6+1,none⟩=some (.int .u64 tg):=CE 1 _ (by omega) rfl;have g2:wr.cell? ⟨g,k*6+2,none⟩=some (.int .u64 asd):=CE 2 _ (by omega) rfl;have g3:wr.cell? ⟨g,k*6+3,none⟩=some (.bool gl):=CE 3 _ (by omega) rfl;have g4:wr.cell? ⟨g,k*6+4,none⟩=some (.bool vv):=CE 4 _ (by omega) rfl;have g5:wr.cell? ⟨g,k*6+5,none⟩=some (.int .u64 pt):=CE 5 _ (by omega) rfl;have HSm:Hid ((es).set k ⟨vv,lv,tg,asd,gl,pt⟩=es):=by
    show _=_;apply List.ext_getElem?;intro j;rw [List.getElem?_set];by_cases hj:k=j
    ·subst hj;have hkl:=(List.getElem?_eq_some_iff.1 hx').1;rw [if_pos rfl,if_pos hkl,hx']
    ·rw [if_neg hj]
   have HLx:Hid (vv=true->0<=lv∧lv<=2):=fun h=>HLv.out k _ hx h;clear CE hx hx';have n5:=(Below.refl wr.heap.size wr).alloc (Nat.le_refl _) (Obj.cells #[.int .i64 lv,.int .u64 tg,.int .u64 asd,.bool gl,.bool vv,.int .u64 pt] 123);have hgb5:=br hgb n5;cases vv
   ·go_wp2_with fail;go_roundw
    case rel=>exact ⟨k+1,by omega,by go_num,hgb5,ah PO.out n5⟩
    case measure=>simp [intOf];omega
   ·go_wp2_with fail;generalize wr.alloc (Obj.cells #[.int .i64 lv,.int .u64 tg,.int .u64 asd,.bool gl,.bool true,.int .u64 pt] 123)=v5 at n5 hgb5 |-;refine (dn lv tg asd gl v5).mono ?_;rintro e v6 ⟨rfl,n6⟩;have n56:=Below.step n5 n6 (Nat.le_refl _);have hgb6:=br hgb n56;go_wp2_with fail;go_roundw
    case rel=>exact ⟨k+1,by omega,by go_num,hgb6,ah PO.out n56⟩
    case measure=>simp [intOf];omega
  ·have hkn:k=n:=by omega
   subst hkn;go_wp2_with fail;go_end0;refine ⟨rfl,?_,hgb⟩;have hO:=PO.out;exact hO
end
def CovVal (B:Nat) (w:World) (cv:Value) (f:FenceM):Prop:=
 (f.hasVa=true∧bm f.va=false∧cv=.func (.func 81) #[] #[])∨
 ((f.hasVa=false∨bm f.va=true)∧∃pf pv,cv=.func (.func 82) #[] #[.pointer (some ⟨pf,0,none⟩),.pointer (some ⟨pv,0,none⟩)]∧pf<B∧pv<B∧
  w.heap[pf]?=some (.cells #[.bool f.hasVa,.int .u64 f.va,.bool f.hasAsid,.int .u64 f.asid] 49 (0,0))∧w.heap[pv]?=some (.cells #[.int .u64 f.va] 130 (0,0)))
theorem CovVal.keep {B:Nat} {w w':World} {cv:Value} {f:FenceM} (h:CovVal B w cv f) (hb:Below w.heap.size w w'):CovVal B w' cv f:=by
 rcases h with h | ⟨h1,pf,pv,rfl,lf,lp,hF,hV⟩
 ·exact .inl h
 ·exact .inr ⟨h1,pf,pv,rfl,lf,lp,aF hF hb (Array.getElem?_eq_some_iff.1 hF).1,aF hV hb (Array.getElem?_eq_some_iff.1 hV).1⟩
theorem CovVal.up {B B':Nat} {w:World} {cv:Value} {f:FenceM} (h:CovVal B w cv f) (hb:B<=B'):CovVal B' w cv f:=by
 rcases h with h | ⟨h1,pf,pv,rfl,lf,lp,hF,hV⟩
 ·exact .inl h
 ·exact .inr ⟨h1,pf,pv,rfl,by omega,by omega,hF,hV⟩
theorem CovAns.val {base:Nat} {w:World} {e:Ending} {f:FenceM} (h:CovAns base w e f):∃cv,e=.returned cv∧CovVal w.heap.size w cv f:=by
 rcases h with ⟨h1,h2,rfl⟩ | ⟨h1,pf,pv,rfl,lf,lp,hF,hV⟩
 ·exact ⟨_,rfl,.inl ⟨h1,h2,rfl⟩⟩
 ·exact ⟨_,rfl,.inr ⟨h1,pf,pv,rfl,(Array.getElem?_eq_some_iff.1 hF).1,(Array.getElem?_eq_some_iff.1 hV).1,hF,hV⟩⟩
theorem dO {f:FenceM} (es:List EntM) (h1:f.hasVa=true) (h2:bm f.va=false):es.map (ay f)=es:=by
 have:ay f=id:=by
  funext e;simp [ay,eL f _ _ _ _ h1 h2]
 rw [this,List.map_id]
theorem eV (B:Nat) (cv:Value) (f:FenceM) (b o g n base:Nat) (es:List EntM) (sets ways:Int) (w:World) (hC:CovVal B w cv f) (hBg:B<=g) (hv0:0<=f.va) (hv1:f.va<=18446744073709551615) (hn:es.length=n) (hn1:n<=1048576) (hbl:b<w.heap.size) (hbg:b≠g)
 (c2:w.cell? ⟨b,o+2,none⟩=some (.slice (some ⟨g,0,none⟩) n n)) (ho:w.ownsRow base 123 6 (.slice (some ⟨g,0,none⟩) n n) n (af es)) (hlv:∀(j:Nat) (x:EntM),es[j]?=some x->x.valid=true->0<=x.level∧x.level<=2):
 Calls Try.prog 84 #[.pointer (some ⟨b,o,none⟩),cv] w fun x w'=>x=.returned (.tuple #[])∧w'.ownsRow base 123 6 (.slice (some ⟨g,0,none⟩) n n) n (af (es.map (ay f)))∧w.grownBy w' (some g):=by
 obtain ⟨hv,fva,ha,fa⟩:=f;rcases hC with ⟨h1,h2,rfl⟩ | ⟨h1,pf,pv,rfl,lf,lp,hF,hV⟩
 ·have:=en hv fva ha fa 0 0 b o g n base es sets ways w hn hn1 hbl hbg c2 ho hlv;rw [dO _ h1 h2];exact this
 ·exact em hv fva ha fa pf pv b o g n base es sets ways w hn hn1 hbl hbg hv0 hv1 h1 (by omega) (by omega) hF hV c2 ho hlv
def ff (base:Nat) (w:World) (e:Ending) (t:TlbM):Prop:=∃x,e=.returned (.tuple #[x,.bool true])∧TlbOwn base w x t
theorem dE (v:Value) (t:TlbM) (cv:Value) (f:FenceM) (w:World) (h:TlbAt w v t) (hC:CovVal w.heap.size w cv f) (hv0:0<=f.va) (hv1:f.va<=18446744073709551615):
 Calls Try.prog 48 #[v,cv] w fun e w'=>cond (an t false) (ff w.heap.size w' e ⟨t.sets,t.ways,t.es.map (ay f)⟩) (e=.returned (.tuple #[.agg #[.int .i64 0,.int .i64 0,.slice none 0 0],.bool false]))∧Below w.heap.size w w':=by
 have HK:Hid (bZ t):=TlbAt.ok h;have HT:Hid (TlbAt w v t):=h;obtain ⟨a,cap,rfl,_⟩:=h;obtain ⟨sets,ways,es⟩:=t;simp only at *;obtain ⟨n,hn⟩:∃n,es.length=n:=⟨_,rfl⟩;have HN:Hid (es.length=n):=hn;rw [hn] at HT |-;have n1:=((Below.refl w.heap.size w).alloc (Nat.le_refl _) (Obj.cells #[.int .i64 sets,.int .i64 ways,.slice a n cap] 29)).alloc (by simp) (Obj.cells #[.int .i64 0,.int .i64 0,.slice none 0 0] 29);have HT1:Hid (TlbAt ((w.alloc (Obj.cells #[.int .i64 sets,.int .i64 ways,.slice a n cap] 29)).alloc (Obj.cells #[.int .i64 0,.int .i64 0,.slice none 0 0] 29)) (.agg #[.int .i64 sets,.int .i64 ways,.slice a n cap]) ⟨sets,ways,es⟩):=HT.out.keep n1;have H3:Hid (((w.alloc (Obj.cells #[.int .i64 sets,.int .i64 ways,.slice a n cap] 29)).alloc (Obj.cells #[.int .i64 0,.int .i64 0,.slice none 0 0] 29)).heap[w.heap.size+1]?=some (.cells #[.int .i64 0,.int .i64 0,.slice none 0 0] 29 (0,0))):=by
  have:=heap_alloc_new (w.alloc (Obj.cells #[.int .i64 sets,.int .i64 ways,.slice a n cap] 29)) (Obj.cells #[.int .i64 0,.int .i64 0,.slice none 0 0] 29);simp only [World.size_alloc] at this;exact this
 have l1:w.heap.size+1<((w.alloc (Obj.cells #[.int .i64 sets,.int .i64 ways,.slice a n cap] 29)).alloc (Obj.cells #[.int .i64 0,.int .i64 0,.slice none 0 0] 29)).heap.size:=by simp
 have HCV:Hid (∀u,Below w.heap.size w u->CovVal w.heap.size u cv f):=fun u hu=>hC.keep hu;clear HT hn hC;obtain ⟨qv,hqv⟩:∃q,an ⟨sets,ways,es⟩ false=q:=⟨_,rfl⟩;have HQ:Hid (an ⟨sets,ways,es⟩ false=qv):=hqv;obtain ⟨Y,hY⟩:∃Y,es.map (ay f)=Y:=⟨_,rfl⟩;have HY:Hid (es.map (ay f)=Y):=hY;have HYl:Hid (Y.length=n):=by show _=_;rw [<-hY,List.length_map];exact HN.out
 rw [hqv,hY];clear hqv hY;go_enter Try.func48,Try.ntmps48;go_wp2_with fail;generalize ((w.alloc (Obj.cells #[.int .i64 sets,.int .i64 ways,.slice a n cap] 29)).alloc (Obj.cells #[.int .i64 0,.int .i64 0,.slice none 0 0] 29))=v1 at n1 HT1 H3 l1 |-;refine (bP _ ⟨sets,ways,es⟩ v1 HT1.out).mono ?_;rw [HQ.out];rintro e v2 ⟨hc,n2⟩;have A2:=Below.step n1 n2 (Nat.le_refl _);have K3:=ab H3 n2;have l2:w.heap.size+1<v2.heap.size:=Nat.lt_of_lt_of_le l1 n2.size;have s1:=n1.size;clear n1 HT1 H3;cases qv
 ·dsimp only [cond] at hc;subst hc;obtain ⟨⟨d0,d1,d2⟩,e0,e1,e2⟩:=aa K3.out;go_wp2_with fail;exact bodyPost_ret (v:=.tuple #[.agg #[.int .i64 0,.int .i64 0,.slice none 0 0],.bool false]) (by simp [results,Try.results48,go_sem,d0,d1,d2,l2]) rfl ⟨rfl,by first | exact (aS A2 (by omega) _ _ _).alloc (by simp;omega) _ | exact aS (A2.alloc A2.size _) (by omega) _ _ _⟩
 ·dsimp only [cond] at hc;obtain ⟨g,rfl,ho⟩:=hc;have hg:=aw ho;obtain ⟨_,hg1,hg2⟩:=hg;simp only at hg1 hg2 ho |-;rw [HN.out] at ho |-;have n3:=(Below.refl v2.heap.size v2).alloc (Nat.le_refl _) (Obj.cells #[.int .i64 sets,.int .i64 ways,.slice (some ⟨g,0,none⟩) n n] 78);have H3:Hid ((v2.alloc (Obj.cells #[.int .i64 sets,.int .i64 ways,.slice (some ⟨g,0,none⟩) n n] 78)).heap[v2.heap.size]?=some (.cells #[.int .i64 sets,.int .i64 ways,.slice (some ⟨g,0,none⟩) n n] 78 (0,0))):=heap_alloc_new v2 _;have O3:Hid ((v2.alloc (Obj.cells #[.int .i64 sets,.int .i64 ways,.slice (some ⟨g,0,none⟩) n n] 78)).ownsRow v1.heap.size 123 6 (.slice (some ⟨g,0,none⟩) n n) n (af es)):=ah ho n3;have A3:=Below.step A2 n3 (Nat.le_refl _);have J3:=ab K3 n3;have l3:v2.heap.size<(v2.alloc (Obj.cells #[.int .i64 sets,.int .i64 ways,.slice (some ⟨g,0,none⟩) n n] 78)).heap.size:=by simp
  clear ho;go_wp2_with fail;generalize v2.alloc (Obj.cells #[.int .i64 sets,.int .i64 ways,.slice (some ⟨g,0,none⟩) n n] 78)=v5 at n3 H3 O3 A3 J3 l3 |-;obtain ⟨⟨p0,p1,p2⟩,_,_,_⟩:=aa H3.out;refine (eV w.heap.size cv f v2.heap.size 0 g n v1.heap.size es sets ways v5 (HCV.out v5 A3) (by omega) hv0 hv1 HN.out (by rw [<-HN.out];exact HK.out.2.2.2) (by omega) (by omega) p2 O3.out (fun j x hx hv=>bN (t:=⟨sets,ways,es⟩) (cG HQ.out) j x hx hv)).mono ?_;rintro e v6 ⟨rfl,o6,m6⟩;rw [HY.out] at o6;have O6:Hid (v6.ownsRow v1.heap.size 123 6 (.slice (some ⟨g,0,none⟩) n n) n (af Y)):=o6;have H6:Hid (v6.heap[v2.heap.size]?=some (.cells #[.int .i64 sets,.int .i64 ways,.slice (some ⟨g,0,none⟩) n n] 78 (0,0))):=aH H3.out m6 (by omega);have J6:Hid (v6.heap[w.heap.size+1]?=some (.cells #[.int .i64 0,.int .i64 0,.slice none 0 0] 29 (0,0))):=aH J3.out m6 (by omega);have l6:v5.heap.size<=v6.heap.size:=m6.size;have A6:Below w.heap.size w v6:=A3.grown m6 A3.size (fun k hk=>by cases hk;omega);clear o6 m6 p0 p1 p2 H3 J3 O3 A3;obtain ⟨⟨p0,p1,p2⟩,_,_,_⟩:=aa H6.out;go_wp2_with fail;refine (eE v2.heap.size 0 g n ⟨sets,ways,Y⟩ v6 HYl.out (by rw [<-HN.out];exact HK.out.2.2.2) (by omega) (by omega) p0 p1 p2 (aU O6.out)).mono ?_;rintro e v7 ⟨⟨y,rfl,gy,cy,rfl,oy⟩,n7⟩;simp only at oy |-;have J7:=ab J6 n7;have A7:=Below.step A6 n7 (Nat.le_refl _);have gy1:=(aw oy).2.1;simp only at gy1;obtain ⟨⟨d0,d1,d2⟩,e0,e1,e2⟩:=aa J7.out;go_wp2_with fail;exact bodyPost_ret (v:=.tuple #[.agg #[.int .i64 sets,.int .i64 ways,.slice (some ⟨gy,0,none⟩) Y.length cy],.bool true]) (by simp [results,Try.results48,go_sem,d0,d1,d2]) rfl ⟨⟨_,rfl,gy,cy,rfl,aD (aR oy (gb3 v7 (w.heap.size+1) _ _ _) (by omega)) (by omega)⟩,aS A7 (by omega) _ _ _⟩
section
attribute [local go_sem ↓] Go.wp_at_zero Go.wp_at_succ
theorem ew (hv:Bool) (fva:Int) (ha:Bool) (fa:Int) (pf pv b o g n base:Nat) (es:List EntM) (sets ways:Int) (w:World) (hn:es.length=n) (hn1:n<=1048576) (hbl:b<w.heap.size) (hbg:b≠g) (hv0:0<=fva) (hv1:fva<=18446744073709551615) (hcan:hv=false∨bm fva=true) (hpf:pf≠g) (hpv:pv≠g) (hF:w.heap[pf]?=some (.cells #[.bool hv,.int .u64 fva,.bool ha,.int .u64 fa] 49 (0,0))) (hV:w.heap[pv]?=some (.cells #[.int .u64 fva] 130 (0,0)))
 (c2:w.cell? ⟨b,o+2,none⟩=some (.slice (some ⟨g,0,none⟩) n n)) (ho:w.ownsRow base 118 6 (.slice (some ⟨g,0,none⟩) n n) n (af es)) (hlv:∀(j:Nat) (x:EntM),es[j]?=some x->x.valid=true->0<=x.level∧x.level<=2):
 Calls Try.prog 85 #[.pointer (some ⟨b,o,none⟩),.func (.func 82) #[] #[.pointer (some ⟨pf,0,none⟩),.pointer (some ⟨pv,0,none⟩)]] w fun x w'=>x=.returned (.tuple #[])∧w'.ownsRow base 118 6 (.slice (some ⟨g,0,none⟩) n n) n (af (es.map (ay ⟨hv,fva,ha,fa⟩)))∧w.grownBy w' (some g):=by
 have HO:Hid (w.ownsRow base 118 6 (.slice (some ⟨g,0,none⟩) n n) n (af es)):=ho;have HN:Hid (es.length=n):=hn;have HLv:Hid (∀(j:Nat) (x:EntM),es[j]?=some x->x.valid=true->0<=x.level∧x.level<=2):=hlv;have hg:=(aw ho).2.2;simp only at hg;clear ho hn hlv;go_enter Try.func85,Try.ntmps85;go_wp2_with fail;go_loopw [11] (fun i wr=>∃k:Nat,k<=n∧i=.int .i64 k∧w.grownBy wr (some g)∧wr.ownsRow base 118 6 (.slice (some ⟨g,0,none⟩) n n) n (af (am ⟨hv,fva,ha,fa⟩ k es))) (fun i _=>n-(intOf i).toNat)
 case atStart=>exact ⟨0,Nat.zero_le _,rfl,bi _ _,by rw [show am ⟨hv,fva,ha,fa⟩ 0 es=es by simp [am]];exact HO.out⟩
 case round=>
  obtain ⟨k,hk,rfl,hgb,hO⟩:=hrel;have PO:Hid (wr.ownsRow base 118 6 (.slice (some ⟨g,0,none⟩) n n) n (af (am ⟨hv,fva,ha,fa⟩ k es))):=hO;have lr:w.heap.size<=wr.heap.size:=hgb.size;have hfl:(af (am ⟨hv,fva,ha,fa⟩ k es)).length=n*6:=hO.1;clear hO;have r2:wr.cell? ⟨b,o+2,none⟩=some (.slice (some ⟨g,0,none⟩) n n):=ce hgb c2 hbl hbg;by_cases hlt:k<n
  ·obtain ⟨⟨vv,lv,tg,asd,gl,pt⟩,hx⟩:∃x,es[k]?=some x:=⟨_,List.getElem?_eq_getElem (by rw [HN.out];exact hlt)⟩;have hx':(am ⟨hv,fva,ha,fa⟩ k es)[k]?=some ⟨vv,lv,tg,asd,gl,pt⟩:=by
    first
     | exact hx
     | (unfold am
        have hkl:k<=es.length:=by rw [HN.out];omega
        rw [List.getElem?_append_right (by simp;omega),List.length_map,List.length_take,Nat.min_eq_left hkl,Nat.sub_self,List.getElem?_drop,Nat.add_zero,hx])
   have HXk:Hid (es[k]?=some ⟨vv,lv,tg,asd,gl,pt⟩):=hx;have CE:∀j u,j<6->(bc ⟨vv,lv,tg,asd,gl,pt⟩)[j]?=some u->wr.cell? ⟨g,k*6+j,none⟩=some u:=fun j u hj hu=>bS PO.out (by have:=hfl;rw [aN] at this;omega) k _ hx' j u hj hu;have g0:wr.cell? ⟨g,k*6,none⟩=some (.int .i64 lv):=CE 0 _ (by omega) rfl;have g1:wr.cell? ⟨g,k*6+1,none⟩=some (.int .u64 tg):=CE 1 _ (by omega) rfl;have g2:wr.cell? ⟨g,k*6+2,none⟩=some (.int .u64 asd):=CE 2 _ (by omega) rfl;have g3:wr.cell? ⟨g,k*6+3,none⟩=some (.bool gl):=CE 3 _ (by omega) rfl;have g4:wr.cell? ⟨g,k*6+4,none⟩=some (.bool vv):=CE 4 _ (by omega) rfl;have g5:wr.cell? ⟨g,k*6+5,none⟩=some (.int .u64 pt):=CE 5 _ (by omega) rfl;have HNx:Hid _:=cm ⟨hv,fva,ha,fa⟩ k es _ hx;have HSm:Hid ((am ⟨hv,fva,ha,fa⟩ k es).set k ⟨vv,lv,tg,asd,gl,pt⟩=am ⟨hv,fva,ha,fa⟩ k es):=by
    show _=_;apply List.ext_getElem?;intro j;rw [List.getElem?_set];by_cases hj:k=j
    ·subst hj;have hkl:=(List.getElem?_eq_some_iff.1 hx').1;rw [if_pos rfl,if_pos hkl,hx']
    ·rw [if_neg hj]
   have HLx:Hid (vv=true->0<=lv∧lv<=2):=fun h=>HLv.out k _ hx h;clear CE hx hx';have n5:=(Below.refl wr.heap.size wr).alloc (Nat.le_refl _) (Obj.cells #[.int .i64 lv,.int .u64 tg,.int .u64 asd,.bool gl,.bool vv,.int .u64 pt] 118);have hgb5:=br hgb n5;cases vv
   ·have hst:ay ⟨hv,fva,ha,fa⟩ ⟨false,lv,tg,asd,gl,pt⟩=⟨false,lv,tg,asd,gl,pt⟩:=by simp [ay]
    go_wp2_with fail;go_roundw
    case rel=>exact ⟨k+1,by omega,by go_num,hgb5,by rw [HNx.out,hst,HSm.out];exact ah PO.out n5⟩
    case measure=>simp [intOf];omega
   ·obtain ⟨hl0,hl2⟩:=HLx.out rfl;obtain ⟨cb,hcb⟩:∃cb,bB ⟨hv,fva,ha,fa⟩ lv tg asd gl=cb:=⟨_,rfl⟩;have hst:ay ⟨hv,fva,ha,fa⟩ ⟨true,lv,tg,asd,gl,pt⟩=if cb=true then aC else ⟨true,lv,tg,asd,gl,pt⟩:=by simp [ay,hcb]
    have HSt:Hid _:=hst;have HCv:Hid (∀u:World,u.heap[pf]?=some (.cells #[.bool hv,.int .u64 fva,.bool ha,.int .u64 fa] 49 (0,0))->u.heap[pv]?=some (.cells #[.int .u64 fva] 130 (0,0))->Calls Try.prog 82 #[.agg #[.int .i64 lv,.int .u64 tg,.int .u64 asd,.bool gl],.pointer (some ⟨pf,0,none⟩),.pointer (some ⟨pv,0,none⟩)] u fun e w'=>e=.returned (.bool cb)∧Below u.heap.size u w'):=fun u h1 h2=>by
     have:=dp hv fva ha fa lv tg asd gl pf pv u (by omega) hv0 hv1 h1 h2;rw [db _ _ _ _ _ hcan,hcb] at this;exact this
    have F5:=aH hF hgb5 hpf;have V5:=aH hV hgb5 hpv;clear hcb hst;go_wp2_with fail;generalize wr.alloc (Obj.cells #[.int .i64 lv,.int .u64 tg,.int .u64 asd,.bool gl,.bool true,.int .u64 pt] 118)=v5 at n5 hgb5 F5 V5 |-;refine (HCv.out v5 F5 V5).mono ?_;rintro e v6 ⟨rfl,n6⟩;have n56:=Below.step n5 n6 (Nat.le_refl _);have hgb6:=br hgb n56;have SO:Hid (v6.ownsRow base 118 6 (.slice (some ⟨g,0,none⟩) n n) n (af (am ⟨hv,fva,ha,fa⟩ k es))):=ah PO.out n56;clear g0 g1 g2 g3 g4 g5 r2 F5 V5 n5 n6 hgb5 hgb;have r2:v6.cell? ⟨b,o+2,none⟩=some (.slice (some ⟨g,0,none⟩) n n):=ce hgb6 c2 hbl hbg;cases cb
    ·go_wp2_with fail;go_roundw
     case rel=>exact ⟨k+1,by omega,by go_num,hgb6,by rw [HNx.out,HSt.out];simp only [Bool.false_eq_true,if_false];rw [HSm.out];exact SO.out⟩
     case measure=>simp [intOf];omega
    ·
     have q0:=ae SO.out (k*6) _ (List.getElem?_eq_getElem (by omega));have q1:=ae SO.out (k*6+1) _ (List.getElem?_eq_getElem (by omega));have q2:=ae SO.out (k*6+2) _ (List.getElem?_eq_getElem (by omega));have q3:=ae SO.out (k*6+3) _ (List.getElem?_eq_getElem (by omega));have q4:=ae SO.out (k*6+4) _ (List.getElem?_eq_getElem (by omega));have q5:=ae SO.out (k*6+5) _ (List.getElem?_eq_getElem (by omega));generalize (af (am ⟨hv,fva,ha,fa⟩ k es))[k*6]'_=y0 at q0;generalize (af (am ⟨hv,fva,ha,fa⟩ k es))[k*6+1]'_=y1 at q1;generalize (af (am ⟨hv,fva,ha,fa⟩ k es))[k*6+2]'_=y2 at q2;generalize (af (am ⟨hv,fva,ha,fa⟩ k es))[k*6+3]'_=y3 at q3;generalize (af (am ⟨hv,fva,ha,fa⟩ k es))[k*6+4]'_=y4 at q4;generalize (af (am ⟨hv,fva,ha,fa⟩ k es))[k*6+5]'_=y5 at q5;have s0:=ag SO.out (k*6);have s1:=ag SO.out (k*6+1);have s2:=ag SO.out (k*6+2);have s3:=ag SO.out (k*6+3);have s4:=ag SO.out (k*6+4);have s5:=ag SO.out (k*6+5);go_wp2_with fail;go_roundw
     case rel=>
      refine ⟨k+1,by omega,by go_num,ap (ap (ap (ap (ap (ap hgb6 _ _) _ _) _ _) _ _) _ _) _ _,?_⟩;rw [HNx.out,HSt.out,if_pos (by trivial),be _ _ _ (by rw [bI,HN.out];exact hlt)];exact ac (ac (ac (ac (ac (ac SO.out _ _) _ _) _ _) _ _) _ _) _ _
     case measure=>simp [intOf];omega
  ·have hkn:k=n:=by omega
   subst hkn;go_wp2_with fail;go_end0;refine ⟨rfl,?_,hgb⟩;have hO:=PO.out;have hsn:am ⟨hv,fva,ha,fa⟩ k es=es.map (ay ⟨hv,fva,ha,fa⟩):=by
    have hq:es.length=k:=HN.out;unfold am;rw [<-hq,List.take_length,List.drop_length,List.append_nil]
   rw [hsn] at hO;exact hO
theorem ex (hv:Bool) (fva:Int) (ha:Bool) (fa:Int) (pf pv b o g n base:Nat) (es:List EntM) (sets ways:Int) (w:World) (hn:es.length=n) (hn1:n<=1048576) (hbl:b<w.heap.size) (hbg:b≠g)
 (c2:w.cell? ⟨b,o+2,none⟩=some (.slice (some ⟨g,0,none⟩) n n)) (ho:w.ownsRow base 118 6 (.slice (some ⟨g,0,none⟩) n n) n (af es)) (hlv:∀(j:Nat) (x:EntM),es[j]?=some x->x.valid=true->0<=x.level∧x.level<=2):
 Calls Try.prog 85 #[.pointer (some ⟨b,o,none⟩),.func (.func 81) #[] #[]] w fun x w'=>x=.returned (.tuple #[])∧w'.ownsRow base 118 6 (.slice (some ⟨g,0,none⟩) n n) n (af (es))∧w.grownBy w' (some g):=by
 have HO:Hid (w.ownsRow base 118 6 (.slice (some ⟨g,0,none⟩) n n) n (af es)):=ho;have HN:Hid (es.length=n):=hn;have HLv:Hid (∀(j:Nat) (x:EntM),es[j]?=some x->x.valid=true->0<=x.level∧x.level<=2):=hlv;have hg:=(aw ho).2.2;simp only at hg;clear ho hn hlv;go_enter Try.func85,Try.ntmps85;go_wp2_with fail;go_loopw [11] (fun i wr=>∃k:Nat,k<=n∧i=.int .i64 k∧w.grownBy wr (some g)∧wr.ownsRow base 118 6 (.slice (some ⟨g,0,none⟩) n n) n (af (es))) (fun i _=>n-(intOf i).toNat)
 case atStart=>exact ⟨0,Nat.zero_le _,rfl,bi _ _,HO.out⟩
 case round=>
  obtain ⟨k,hk,rfl,hgb,hO⟩:=hrel;have PO:Hid (wr.ownsRow base 118 6 (.slice (some ⟨g,0,none⟩) n n) n (af (es))):=hO;have lr:w.heap.size<=wr.heap.size:=hgb.size;have hfl:(af (es)).length=n*6:=hO.1;clear hO;have r2:wr.cell? ⟨b,o+2,none⟩=some (.slice (some ⟨g,0,none⟩) n n):=ce hgb c2 hbl hbg;by_cases hlt:k<n
  ·obtain ⟨⟨vv,lv,tg,asd,gl,pt⟩,hx⟩:∃x,es[k]?=some x:=⟨_,List.getElem?_eq_getElem (by rw [HN.out];exact hlt)⟩;have hx':(es)[k]?=some ⟨vv,lv,tg,asd,gl,pt⟩:=by
    first
     | exact hx
     | (unfold am
        have hkl:k<=es.length:=by rw [HN.out];omega
        rw [List.getElem?_append_right (by simp;omega),List.length_map,List.length_take,Nat.min_eq_left hkl,Nat.sub_self,List.getElem?_drop,Nat.add_zero,hx])
   have HXk:Hid (es[k]?=some ⟨vv,lv,tg,asd,gl,pt⟩):=hx;have CE:∀j u,j<6->(bc ⟨vv,lv,tg,asd,gl,pt⟩)[j]?=some u->wr.cell? ⟨g,k*6+j,none⟩=some u:=fun j u hj hu=>bS PO.out (by have:=hfl;rw [aN] at this;omega) k _ hx' j u hj hu;have g0:wr.cell? ⟨g,k*6,none⟩=some (.int .i64 lv):=CE 0 _ (by omega) rfl;have g1:wr.cell? ⟨g,k*6+1,none⟩=some (.int .u64 tg):=CE 1 _ (by omega) rfl;have g2:wr.cell? ⟨g,k*6+2,none⟩=some (.int .u64 asd):=CE 2 _ (by omega) rfl;have g3:wr.cell? ⟨g,k*6+3,none⟩=some (.bool gl):=CE 3 _ (by omega) rfl;have g4:wr.cell? ⟨g,k*6+4,none⟩=some (.bool vv):=CE 4 _ (by omega) rfl;have g5:wr.cell? ⟨g,k*6+5,none⟩=some (.int .u64 pt):=CE 5 _ (by omega) rfl;have HSm:Hid ((es).set k ⟨vv,lv,tg,asd,gl,pt⟩=es):=by
    show _=_;apply List.ext_getElem?;intro j;rw [List.getElem?_set];by_cases hj:k=j
    ·subst hj;have hkl:=(List.getElem?_eq_some_iff.1 hx').1;rw [if_pos rfl,if_pos hkl,hx']
    ·rw [if_neg hj]
   have HLx:Hid (vv=true->0<=lv∧lv<=2):=fun h=>HLv.out k _ hx h;clear CE hx hx';have n5:=(Below.refl wr.heap.size wr).alloc (Nat.le_refl _) (Obj.cells #[.int .i64 lv,.int .u64 tg,.int .u64 asd,.bool gl,.bool vv,.int .u64 pt] 118);have hgb5:=br hgb n5;cases vv
   ·go_wp2_with fail;go_roundw
    case rel=>exact ⟨k+1,by omega,by go_num,hgb5,ah PO.out n5⟩
    case measure=>simp [intOf];omega
   ·go_wp2_with fail;generalize wr.alloc (Obj.cells #[.int .i64 lv,.int .u64 tg,.int .u64 asd,.bool gl,.bool true,.int .u64 pt] 118)=v5 at n5 hgb5 |-;refine (dn lv tg asd gl v5).mono ?_;rintro e v6 ⟨rfl,n6⟩;have n56:=Below.step n5 n6 (Nat.le_refl _);have hgb6:=br hgb n56;go_wp2_with fail;go_roundw
    case rel=>exact ⟨k+1,by omega,by go_num,hgb6,ah PO.out n56⟩
    case measure=>simp [intOf];omega
  ·have hkn:k=n:=by omega
   subst hkn;go_wp2_with fail;go_end0;refine ⟨rfl,?_,hgb⟩;have hO:=PO.out;exact hO
end
end Go.Proofs.Ytfgogedgolgnaaa
