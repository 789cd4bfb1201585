import Derived.Test.YtfgogedgolgnaaaEk03
import Derived.Test.YtfgogedgolgnaaaRows
import Derived.Deep.Slices
import Derived.Lib.SmallJoins
namespace Go.Proofs.Ytfgogedgolgnaaa
open Go.RowKit
set_option linter.unusedVariables false
set_option maxHeartbeats 6400000
set_option maxRecDepth 20000
section
attribute [local go_sem ↓] Go.wp_at_zero Go.wp_at_succ
def am (f:FenceM) (k:Nat) (es:List EntM):List EntM:=(es.take k).map (ay f)++es.drop k
theorem bI (f:FenceM) (k:Nat) (es:List EntM):(am f k es).length=es.length:=by
 simp [am];omega
theorem cm (f:FenceM) (k:Nat) (es:List EntM) (x:EntM) (hx:es[k]?=some x):am f (k+1) es=(am f k es).set k (ay f x):=by
 obtain ⟨hk,rfl⟩:=List.getElem?_eq_some_iff.1 hx;unfold am;apply List.ext_getElem?;intro j;rw [List.getElem?_set];by_cases hj:k=j
 ·subst hj;rw [if_pos rfl,if_pos (by simp;omega),List.getElem?_append_left (by simp;omega)];simp [hk]
 ·rw [if_neg hj];by_cases hlt:j<k
  ·rw [List.getElem?_append_left (by simp;omega),List.getElem?_append_left (by simp;omega)];simp [hlt,show j<k+1 by omega]
  ·rw [List.getElem?_append_right (by simp;omega),List.getElem?_append_right (by simp;omega)];simp;rw [show min (k+1) es.length=k+1 by omega,show min k es.length=k by omega];congr 1;omega
theorem bT:∀(l:List EntM) (k:Nat) (e:EntM),k<l.length->ad (l.set k e)=((((((ad l).set (k*6) (.bool e.valid)).set (k*6+1) (.int .i64 e.level)).set (k*6+2) (.int .u64 e.tag)).set (k*6+3) (.int .u64 e.asid)).set (k*6+4) (.bool e.glob)).set (k*6+5) (.int .u64 e.pte)
 | x::r,0,e,h=>by simp [ad,bx]
 | x::r,k+1,e,h=>by
  have ih:=bT r k e (by simpa using h);rw [List.set_cons_succ];simp only [ad,ih];rw [show (k+1)*6=(bx x).length+k*6 by simp [bx];omega];simp only [Nat.add_assoc];rw [List.set_append_right _ _ (by simp [bx]),List.set_append_right _ _ (by omega),List.set_append_right _ _ (by omega),List.set_append_right _ _ (by omega),List.set_append_right _ _ (by omega),List.set_append_right _ _ (by omega)];simp
theorem dJ (v:Value) (t:TlbM) (f:FenceM) (w:World) (h:TlbAt w v t) (hf0:0<=f.va) (hf1:f.va<=18446744073709551615):
 Calls Try.prog 21 #[v,dZ f] w fun e w'=>(∃x,e=.returned x∧TlbOwn w.heap.size w' x (bL t f))∧Below w.heap.size w w':=by
 have HT:Hid (TlbAt w v t):=h;have HOK:Hid (bZ t):=TlbAt.ok h;obtain ⟨a,cap,rfl,hr,_,_,_,hl,hlc,hcm,hnil,hsp⟩:=h;obtain ⟨eb,heb⟩:∃eb,aT t=eb:=⟨_,rfl⟩;have HEb:Hid (aT t=eb):=heb;obtain ⟨sets,ways,es⟩:=t;obtain ⟨hv,fva,ha,fa⟩:=f;obtain ⟨n,hn⟩:∃n,es.length=n:=⟨_,rfl⟩;simp only at hr hl hlc hnil hf0 hf1 HT |-;have HN:Hid (es.length=n):=hn;rw [hn] at hr hl hlc hnil HT |-;obtain ⟨X,hX⟩:∃X,bL ⟨sets,ways,es⟩ ⟨hv,fva,ha,fa⟩=X:=⟨_,rfl⟩;have HX:Hid (bL ⟨sets,ways,es⟩ ⟨hv,fva,ha,fa⟩=X):=hX;rw [hX];have HR0:Hid (RowC w a n 6 (ad es)):=hr;have HLv:Hid (eb=true->∀(j:Nat) x,es[j]?=some x->x.valid=true->0<=x.level∧x.level<=2):=fun h j x hx hv=>bN (t:=⟨sets,ways,es⟩) (heb.trans h) j x hx hv;clear hX;unfold dZ;simp only;have n1:=(((Below.refl w.heap.size w).alloc (Nat.le_refl _) (Obj.cells #[.int .i64 sets,.int .i64 ways,.slice a n cap] 29)).alloc (by simp) (Obj.cells #[.bool hv,.int .u64 fva,.bool ha,.int .u64 fa] 49)).alloc (by simp;omega) (Obj.cells #[.int .i64 0,.int .i64 0,.slice none 0 0] 29);have HT1:Hid (TlbAt (((w.alloc (Obj.cells #[.int .i64 sets,.int .i64 ways,.slice a n cap] 29)).alloc (Obj.cells #[.bool hv,.int .u64 fva,.bool ha,.int .u64 fa] 49)).alloc (Obj.cells #[.int .i64 0,.int .i64 0,.slice none 0 0] 29)) (.agg #[.int .i64 sets,.int .i64 ways,.slice a n cap]) ⟨sets,ways,es⟩):=HT.out.keep n1;have HR1:Hid (RowC (((w.alloc (Obj.cells #[.int .i64 sets,.int .i64 ways,.slice a n cap] 29)).alloc (Obj.cells #[.bool hv,.int .u64 fva,.bool ha,.int .u64 fa] 49)).alloc (Obj.cells #[.int .i64 0,.int .i64 0,.slice none 0 0] 29)) a n 6 (ad es)):=hr.keep n1;have H1:Hid ((((w.alloc (Obj.cells #[.int .i64 sets,.int .i64 ways,.slice a n cap] 29)).alloc (Obj.cells #[.bool hv,.int .u64 fva,.bool ha,.int .u64 fa] 49)).alloc (Obj.cells #[.int .i64 0,.int .i64 0,.slice none 0 0] 29)).heap[w.heap.size]?=some (.cells #[.int .i64 sets,.int .i64 ways,.slice a n cap] 29 (0,0))):=by
  show _=_;rw [heap_alloc_old _ _ (by simp;omega),heap_alloc_old _ _ (by simp)];exact heap_alloc_new w _
 have H2:Hid ((((w.alloc (Obj.cells #[.int .i64 sets,.int .i64 ways,.slice a n cap] 29)).alloc (Obj.cells #[.bool hv,.int .u64 fva,.bool ha,.int .u64 fa] 49)).alloc (Obj.cells #[.int .i64 0,.int .i64 0,.slice none 0 0] 29)).heap[w.heap.size+1]?=some (.cells #[.bool hv,.int .u64 fva,.bool ha,.int .u64 fa] 49 (0,0))):=by
  show _=_;rw [heap_alloc_old _ _ (by simp)];have:=heap_alloc_new (w.alloc (Obj.cells #[.int .i64 sets,.int .i64 ways,.slice a n cap] 29)) (Obj.cells #[.bool hv,.int .u64 fva,.bool ha,.int .u64 fa] 49);simp only [World.size_alloc] at this;exact this
 have H3:Hid ((((w.alloc (Obj.cells #[.int .i64 sets,.int .i64 ways,.slice a n cap] 29)).alloc (Obj.cells #[.bool hv,.int .u64 fva,.bool ha,.int .u64 fa] 49)).alloc (Obj.cells #[.int .i64 0,.int .i64 0,.slice none 0 0] 29)).heap[w.heap.size+1+1]?=some (.cells #[.int .i64 0,.int .i64 0,.slice none 0 0] 29 (0,0))):=by
  have:=heap_alloc_new ((w.alloc (Obj.cells #[.int .i64 sets,.int .i64 ways,.slice a n cap] 29)).alloc (Obj.cells #[.bool hv,.int .u64 fva,.bool ha,.int .u64 fa] 49)) (Obj.cells #[.int .i64 0,.int .i64 0,.slice none 0 0] 29);simp only [World.size_alloc] at this;exact this
 have l1:w.heap.size+1+1<(((w.alloc (Obj.cells #[.int .i64 sets,.int .i64 ways,.slice a n cap] 29)).alloc (Obj.cells #[.bool hv,.int .u64 fva,.bool ha,.int .u64 fa] 49)).alloc (Obj.cells #[.int .i64 0,.int .i64 0,.slice none 0 0] 29)).heap.size:=by simp
 clear hr hnil hsp HT heb hn;go_enter Try.func21,Try.ntmps21;go_wp2_with fail;generalize (((w.alloc (Obj.cells #[.int .i64 sets,.int .i64 ways,.slice a n cap] 29)).alloc (Obj.cells #[.bool hv,.int .u64 fva,.bool ha,.int .u64 fa] 49)).alloc (Obj.cells #[.int .i64 0,.int .i64 0,.slice none 0 0] 29))=v1 at n1 HT1 HR1 H1 H2 H3 l1 |-;refine (dr _ ⟨sets,ways,es⟩ v1 HT1.out).mono ?_;rintro e v2 ⟨⟨x,rfl,g,cp,rfl,o2⟩,n2⟩;simp only at o2 |-;rw [HN.out] at o2 |-;have O2:Hid (v2.ownsRow v1.heap.size 42 6 (.slice (some ⟨g,0,none⟩) n cp) n (ad es)):=o2;have hg:=aw o2;have n12:=Below.step n1 n2 (Nat.le_refl _);have HT2:Hid (TlbAt v2 (.agg #[.int .i64 sets,.int .i64 ways,.slice a n cap]) ⟨sets,ways,es⟩):=HT1.out.keep n2;have HR2:Hid (RowC v2 a n 6 (ad es)):=RowC.keep HR1.out n2;have K1:=ab H1 n2;have K2:=ab H2 n2;have K3:=ab H3 n2;have l2:v1.heap.size<=v2.heap.size:=n2.size;obtain ⟨_,hg1,hg2⟩:=hg;simp only at hg1 hg2;clear o2 n1 n2 HT1 HR1 H1 H2 H3;obtain ⟨⟨c0,c1,c2⟩,_,_,_⟩:=aa K1.out;have s0:w.heap.size<v2.heap.size:=by omega
 go_wp2_with fail;have n3:=(Below.refl v2.heap.size v2).alloc (Nat.le_refl _) (Obj.cells #[.int .i64 sets,.int .i64 ways,.slice (some ⟨g,0,none⟩) n cp] 29);have H4:Hid ((v2.alloc (Obj.cells #[.int .i64 sets,.int .i64 ways,.slice (some ⟨g,0,none⟩) n cp] 29)).heap[v2.heap.size]?=some (.cells #[.int .i64 sets,.int .i64 ways,.slice (some ⟨g,0,none⟩) n cp] 29 (0,0))):=heap_alloc_new v2 _;have l3:v2.heap.size<(v2.alloc (Obj.cells #[.int .i64 sets,.int .i64 ways,.slice (some ⟨g,0,none⟩) n cp] 29)).heap.size:=by simp
 generalize v2.alloc (Obj.cells #[.int .i64 sets,.int .i64 ways,.slice (some ⟨g,0,none⟩) n cp] 29)=v3 at n3 H4 l3 |-;have n13:=Below.step n12 n3 (Nat.le_refl _);have HT3:Hid (TlbAt v3 (.agg #[.int .i64 sets,.int .i64 ways,.slice a n cap]) ⟨sets,ways,es⟩):=HT2.out.keep n3;refine (cQ _ ⟨sets,ways,es⟩ v3 HT3.out).mono ?_;rw [HEb.out];rintro e v4 ⟨rfl,n4⟩;have n34:=Below.step n3 n4 (Nat.le_refl _);have A4:=Below.step n12 n34 (Nat.le_refl _);have HR4:Hid (RowC v4 a n 6 (ad es)):=RowC.keep HR2.out n34;have O4:Hid (v4.ownsRow v1.heap.size 42 6 (.slice (some ⟨g,0,none⟩) n cp) n (ad es)):=ah O2.out n34;have P1:=ab K1 n34;have P2:=ab K2 n34;have P3:=ab K3 n34;have P4:=ab H4 n4;have l4:v2.heap.size<v4.heap.size:=Nat.lt_of_lt_of_le l3 n4.size;clear c0 c1 c2 n12 n13 n3 n4 n34 HT2 HT3 HR2 O2 K1 K2 K3 H4 l3;obtain ⟨⟨p0,p1,p2⟩,_,_,_⟩:=aa P4.out;cases eb
 ·have hfl:X=⟨sets,ways,es⟩:=by rw [<-HX.out];unfold bL;rw [if_neg (by rw [HEb.out];simp)]
  obtain ⟨⟨d0,d1,d2⟩,e0,e1,e2⟩:=aa P3.out;go_wp2_with fail;refine bodyPost_ret (v:=.agg #[.int .i64 sets,.int .i64 ways,.slice (some ⟨g,0,none⟩) n cp]) (by simp [results,Try.results21,go_sem,d0,d1,d2]) rfl ⟨⟨_,rfl,?_⟩,aS A4 (by omega) _ _ _⟩;rw [hfl];refine ⟨g,cp,by rw [HN.out],?_⟩;simp only;rw [HN.out];exact aD (aR O4.out (gb3 v4 (w.heap.size+1+1) _ _ _) (by omega)) (by omega)
 ·have HLv':=HLv.out rfl;have HL2:Hid (∀(j:Nat) x,es[j]?=some x->x.valid=true->0<=x.level∧x.level<=2):=HLv';clear HLv HLv';go_wp2_with fail;go_loopw [6] (fun i wr=>∃k:Nat,k<=n∧i=.int .i64 k∧v4.grownBy wr (some g)∧wr.ownsRow v1.heap.size 42 6 (.slice (some ⟨g,0,none⟩) n cp) n (ad (am ⟨hv,fva,ha,fa⟩ k es))) (fun i _=>n-(intOf i).toNat)
  case atStart=>exact ⟨0,Nat.zero_le _,rfl,bi _ _,by rw [show am ⟨hv,fva,ha,fa⟩ 0 es=es by simp [am]];exact O4.out⟩
  case round=>
   obtain ⟨k,hk,rfl,hn,hO⟩:=hrel;have HO:Hid (wr.ownsRow v1.heap.size 42 6 (.slice (some ⟨g,0,none⟩) n cp) n (ad (am ⟨hv,fva,ha,fa⟩ k es))):=hO;have lr:v4.heap.size<=wr.heap.size:=hn.size;clear p0 p1 p2;obtain ⟨⟨p0,p1,p2⟩,_,_,_⟩:=aa (aH P4.out hn (by omega));by_cases hlt:k<n
   ·obtain ⟨x,hx⟩:∃x,es[k]?=some x:=⟨_,List.getElem?_eq_getElem (by rw [HN.out];exact hlt)⟩;obtain ⟨b,off,rfl,hb⟩:∃b off,a=some ⟨b,off,none⟩∧b<w.heap.size:=by
     rcases HR0.out.2 with h | ⟨b,off,h,h2,_⟩
     ·omega
     ·exact ⟨b,off,h,h2⟩
    have CE:∀j u,j<6->(bx x)[j]?=some u->wr.cell? ⟨b,off+(k*6+j),none⟩=some u:=fun j u hj hu=>
     ce hn (Below.cell2 A4 (av HR0.out HN.out k x hx j u hj hu) hb) (by omega) (by omega)
    obtain ⟨vv,lv,tg,asd,gl,pt⟩:=x;have g0:wr.cell? ⟨b,off+k*6,none⟩=some (.bool vv):=CE 0 _ (by omega) rfl;have g1:wr.cell? ⟨b,off+k*6+1,none⟩=some (.int .i64 lv):=CE 1 _ (by omega) rfl;have g2:wr.cell? ⟨b,off+k*6+2,none⟩=some (.int .u64 tg):=CE 2 _ (by omega) rfl;have g3:wr.cell? ⟨b,off+k*6+3,none⟩=some (.int .u64 asd):=CE 3 _ (by omega) rfl;have g4:wr.cell? ⟨b,off+k*6+4,none⟩=some (.bool gl):=CE 4 _ (by omega) rfl;have g5:wr.cell? ⟨b,off+k*6+5,none⟩=some (.int .u64 pt):=CE 5 _ (by omega) rfl;have hok:aO ⟨vv,lv,tg,asd,gl,pt⟩:=HOK.out.1 _ (List.mem_of_getElem? hx);have HNx:Hid (am ⟨hv,fva,ha,fa⟩ (k+1) es=(am ⟨hv,fva,ha,fa⟩ k es).set k (ay ⟨hv,fva,ha,fa⟩ ⟨vv,lv,tg,asd,gl,pt⟩)):=cm _ k es _ hx;have HSm:Hid ((am ⟨hv,fva,ha,fa⟩ k es).set k ⟨vv,lv,tg,asd,gl,pt⟩=am ⟨hv,fva,ha,fa⟩ k es):=by
     show _=_;apply List.ext_getElem?;intro j;rw [List.getElem?_set];by_cases hj:k=j
     ·subst hj;rw [if_pos rfl,if_pos (by rw [bI,HN.out];exact hlt)];unfold am;have hkl:k<=es.length:=by rw [HN.out];omega
      rw [List.getElem?_append_right (by simp;omega),List.length_map,List.length_take,Nat.min_eq_left hkl,Nat.sub_self,List.getElem?_drop,Nat.add_zero,hx]
     ·rw [if_neg hj]
    have HLx:Hid (vv=true->0<=lv∧lv<=2):=fun h=>HL2.out k _ hx h;obtain ⟨⟨c0,c1,c2⟩,_,_,_⟩:=aa (aH P1.out hn (by omega));obtain ⟨⟨f0,f1,f2,f3⟩,_,_,_,_⟩:=aG (aH P2.out hn (by omega));have u0:w.heap.size<wr.heap.size:=by omega
    have u1:w.heap.size+1<wr.heap.size:=by omega
    have u2:v2.heap.size<wr.heap.size:=by omega
    have n5:=(Below.refl wr.heap.size wr).alloc (Nat.le_refl _) (Obj.cells #[.bool vv,.int .i64 lv,.int .u64 tg,.int .u64 asd,.bool gl,.int .u64 pt] 42);clear CE hx hO;cases vv
    ·have hst:ay ⟨hv,fva,ha,fa⟩ ⟨false,lv,tg,asd,gl,pt⟩=⟨false,lv,tg,asd,gl,pt⟩:=by simp [ay]
     go_wp2_with fail;go_roundw
     case rel=>exact ⟨k+1,by omega,by go_num,br hn n5,by rw [HNx.out,hst,HSm.out];exact ah HO.out n5⟩
     case measure=>simp [intOf];omega
    ·obtain ⟨hl0,hl2⟩:=HLx.out rfl;obtain ⟨cb,hcb⟩:∃cb,bB ⟨hv,fva,ha,fa⟩ lv tg asd gl=cb:=⟨_,rfl⟩;have HCov:Hid (∀w,Calls Try.prog 46 #[.agg #[.bool hv,.int .u64 fva,.bool ha,.int .u64 fa],.int .i64 lv,.int .u64 tg,.int .u64 asd,.bool gl] w fun e w'=>e=.returned (.bool cb)∧Below w.heap.size w w'):=fun w=>by
      have:=ea ⟨hv,fva,ha,fa⟩ lv tg asd gl w hf0 hf1 hl0 hl2;rw [hcb] at this;exact this
     have HCb:Hid (bB ⟨hv,fva,ha,fa⟩ lv tg asd gl=cb):=hcb;clear hcb;go_wp2_with fail;generalize wr.alloc (Obj.cells #[.bool true,.int .i64 lv,.int .u64 tg,.int .u64 asd,.bool gl,.int .u64 pt] 42)=v5 at n5 |-;refine (HCov.out v5).mono ?_;rintro e v6 ⟨rfl,n6⟩;have n56:=Below.step n5 n6 (Nat.le_refl _);have hn6:=br hn n56;have HO6:Hid (v6.ownsRow v1.heap.size 42 6 (.slice (some ⟨g,0,none⟩) n cp) n (ad (am ⟨hv,fva,ha,fa⟩ k es))):=ah HO.out n56;clear g0 g1 g2 g3 g4 g5 c0 c1 c2 f0 f1 f2 f3 p0 p1 p2 n5 n6 HO hn;obtain ⟨⟨p0,p1,p2⟩,_,_,_⟩:=aa (aH P4.out hn6 (by omega));cases cb
     ·have hst:ay ⟨hv,fva,ha,fa⟩ ⟨true,lv,tg,asd,gl,pt⟩=⟨true,lv,tg,asd,gl,pt⟩:=by simp [ay,HCb.out]
      go_wp2_with fail;go_roundw
      case rel=>exact ⟨k+1,by omega,by go_num,hn6,by rw [HNx.out,hst,HSm.out];exact HO6.out⟩
      case measure=>simp [intOf];omega
     ·have hst:ay ⟨hv,fva,ha,fa⟩ ⟨true,lv,tg,asd,gl,pt⟩=aC:=by simp [ay,HCb.out]
      have hcl:(ad (am ⟨hv,fva,ha,fa⟩ k es)).length=n*6:=by rw [aQ,bI,HN.out]
      have q0:=ae HO6.out (k*6) _ (List.getElem?_eq_getElem (by omega));have q1:=ae HO6.out (k*6+1) _ (List.getElem?_eq_getElem (by omega));have q2:=ae HO6.out (k*6+2) _ (List.getElem?_eq_getElem (by omega));have q3:=ae HO6.out (k*6+3) _ (List.getElem?_eq_getElem (by omega));have q4:=ae HO6.out (k*6+4) _ (List.getElem?_eq_getElem (by omega));have q5:=ae HO6.out (k*6+5) _ (List.getElem?_eq_getElem (by omega));generalize (ad (am ⟨hv,fva,ha,fa⟩ k es))[k*6]'_=y0 at q0;generalize (ad (am ⟨hv,fva,ha,fa⟩ k es))[k*6+1]'_=y1 at q1;generalize (ad (am ⟨hv,fva,ha,fa⟩ k es))[k*6+2]'_=y2 at q2;generalize (ad (am ⟨hv,fva,ha,fa⟩ k es))[k*6+3]'_=y3 at q3;generalize (ad (am ⟨hv,fva,ha,fa⟩ k es))[k*6+4]'_=y4 at q4;generalize (ad (am ⟨hv,fva,ha,fa⟩ k es))[k*6+5]'_=y5 at q5;have r0:=ag HO6.out (k*6);have r1:=ag HO6.out (k*6+1);have r2:=ag HO6.out (k*6+2);have r3:=ag HO6.out (k*6+3);have r4:=ag HO6.out (k*6+4);have r5:=ag HO6.out (k*6+5);go_wp2_with fail;go_roundw
      case rel=>
       refine ⟨k+1,by omega,by go_num,ap (ap (ap (ap (ap (ap hn6 _ _) _ _) _ _) _ _) _ _) _ _,?_⟩;rw [HNx.out,hst,bT _ _ _ (by rw [bI,HN.out];exact hlt)];exact ac (ac (ac (ac (ac (ac HO6.out _ _) _ _) _ _) _ _) _ _) _ _
      case measure=>simp [intOf];omega
   ·have hkn:k=n:=by omega
    subst hkn;have hfl:X=⟨sets,ways,es.map (ay ⟨hv,fva,ha,fa⟩)⟩:=by rw [<-HX.out];unfold bL;rw [if_pos HEb.out]
    have hsn:am ⟨hv,fva,ha,fa⟩ k es=es.map (ay ⟨hv,fva,ha,fa⟩):=by
     have hq:es.length=k:=HN.out;unfold am;rw [<-hq,List.take_length,List.drop_length,List.append_nil]
    obtain ⟨⟨d0,d1,d2⟩,e0,e1,e2⟩:=aa (aH P3.out hn (by omega));go_wp2_with fail;refine bodyPost_ret (v:=.agg #[.int .i64 sets,.int .i64 ways,.slice (some ⟨g,0,none⟩) k cp]) (by simp [results,Try.results21,go_sem,d0,d1,d2]) rfl ⟨⟨_,rfl,?_⟩,aS (A4.grown hn (by have:=A4.size;omega) (fun q hq=>by cases hq;omega)) (by omega) _ _ _⟩;rw [hfl];refine ⟨g,cp,by simp only [List.length_map];rw [HN.out],?_⟩;simp only [List.length_map];rw [HN.out,<-hsn];exact aD (aR HO.out (gb3 wr (w.heap.size+1+1) _ _ _) (by omega)) (by omega)
end
section
attribute [local go_sem ↓] Go.wp_at_zero Go.wp_at_succ
theorem cO (a:Option Addr) (n cap:Nat) (left:Int) (w:World) (hn:(n:Int)<=9223372036854775807) (h0:0<=left) (h1:left<=1048576):
 Calls Try.prog 29 #[.slice a n cap,.int .i64 left] w fun e w'=>e=.returned (.int .i64 (if left<n then -1 else left-n))∧w'=w:=by
 by_cases h:left<n
 ·rw [if_pos h];go_enter Try.func29,Try.ntmps29;go_wp2_with fail;go_ret;exact ⟨rfl,rfl⟩
 ·rw [if_neg h];go_enter Try.func29,Try.ntmps29;go_wp2_with fail;go_ret;exact ⟨rfl,rfl⟩
theorem bo (v:Bool) (l t a:Int) (g:Bool) (p:Int) (w:World):
 Calls Try.prog 17 #[.agg #[.bool v,.int .i64 l,.int .u64 t,.int .u64 a,.bool g,.int .u64 p]] w fun e w'=>e=.returned (.agg #[.bool v,.int .i64 l,.int .u64 t,.int .u64 a,.bool g,.int .u64 p])∧Below w.heap.size w w':=by
 go_enter Try.func17,Try.ntmps17;go_wp2_with fail;exact bodyPost_ret (v:=.agg #[.bool v,.int .i64 l,.int .u64 t,.int .u64 a,.bool g,.int .u64 p]) (by simp [results,Try.results17,go_sem]) rfl ⟨rfl,(((Below.refl _ _).alloc (Nat.le_refl _) _).alloc (by simp) _).alloc (by simp;omega) _⟩
theorem fy (es:List EntM) (ys:List Value) (k n:Nat) (x:EntM) (hx:es[k]?=some x) (hy:ys.length=n*6) (hk:k<n) (hn:es.length=n) (h:∀t,t<k*6->ys[t]?=(ad es)[t]?):
 ∀t,t<(k+1)*6->((((((ys.set (k*6) (.bool x.valid)).set (k*6+1) (.int .i64 x.level)).set (k*6+2) (.int .u64 x.tag)).set (k*6+3) (.int .u64 x.asid)).set (k*6+4) (.bool x.glob)).set (k*6+5) (.int .u64 x.pte))[t]?=(ad es)[t]?:=by
 intro t ht;obtain ⟨hk',rfl⟩:=List.getElem?_eq_some_iff.1 hx;have hj:=fun j hj=>cw es k j hk' hj;by_cases h0:t<k*6
 ·simp only [List.getElem?_set];rw [if_neg (by omega),if_neg (by omega),if_neg (by omega),if_neg (by omega),if_neg (by omega),if_neg (by omega)];exact h t h0
 ·rcases (show t=k*6∨t=k*6+1∨t=k*6+2∨t=k*6+3∨t=k*6+4∨t=k*6+5 by omega) with rfl | rfl | rfl | rfl | rfl | rfl
  ·have h6:(ad es)[k*6]?=(bx es[k])[0]?:=hj 0 (by omega);rw [h6,List.getElem?_set_ne (by omega),List.getElem?_set_ne (by omega),List.getElem?_set_ne (by omega),List.getElem?_set_ne (by omega),List.getElem?_set_ne (by omega),List.getElem?_set_self (by omega)];rfl
  ·rw [hj 1 (by omega),List.getElem?_set_ne (by omega),List.getElem?_set_ne (by omega),List.getElem?_set_ne (by omega),List.getElem?_set_ne (by omega),List.getElem?_set_self (by simp;omega)];rfl
  ·rw [hj 2 (by omega),List.getElem?_set_ne (by omega),List.getElem?_set_ne (by omega),List.getElem?_set_ne (by omega),List.getElem?_set_self (by simp;omega)];rfl
  ·rw [hj 3 (by omega),List.getElem?_set_ne (by omega),List.getElem?_set_ne (by omega),List.getElem?_set_self (by simp;omega)];rfl
  ·rw [hj 4 (by omega),List.getElem?_set_ne (by omega),List.getElem?_set_self (by simp;omega)];rfl
  ·rw [hj 5 (by omega),List.getElem?_set_self (by simp;omega)];rfl
theorem dR (a:Option Addr) (n cap:Nat) (es:List EntM) (w:World) (h:RowC w a n 6 (ad es)) (hn:es.length=n) (hl:n<=1048576):
 Calls Try.prog 31 #[.slice a n cap] w fun e w'=>
  e=.returned (.slice (some ⟨w.heap.size,0,none⟩) n n)∧w'.ownsRow w.heap.size 42 6 (.slice (some ⟨w.heap.size,0,none⟩) n n) n (ad es)∧Below w.heap.size w w':=by
 obtain ⟨i0,hi,hz0,hz1,hz2⟩:=info_parts Try.infoEnt;have HR:Hid (RowC w a n 6 (ad es)):=h;clear h;go_enter Try.func31,Try.ntmps31;go_wp2_with (at_make;refine wpList_make_full _ rfl _ _ 27 rfl w.heap.size 42 i0 (.agg #[.bool false,.int .i64 0,.int .u64 0,.int .u64 0,.bool false,.int .u64 0]) 6 Try.underlying27 hi hz0 hz1 _ _ _ _ n rfl rfl rfl rfl ?b2 ?b3 (Nat.le_refl _) ?_)
 case b2=>rw [hz2];omega
 case b3=>unfold maxLen;omega
 intro w0 hown0 hgrow0;have hn0:Below w.heap.size w w0:=(Below.refl _ _).grown hgrow0 (Nat.le_refl _) (fun k h=>by cases h);have HO0:Hid _:=hown0;clear hown0 hgrow0;go_wp2_with fail;go_loopw [4] (fun i wr=>∃(k:Nat) (ys:List Value),k<=n∧i=.int .i64 k∧(∀t,t<k*6->ys[t]?=(ad es)[t]?)∧wr.ownsRow w.heap.size 42 6 (.slice (some ⟨w.heap.size,0,none⟩) n n) n ys∧Below w.heap.size w wr) (fun i _=>n-(intOf i).toNat)
 case atStart=>exact ⟨0,_,Nat.zero_le _,rfl,fun t ht=>absurd ht (by omega),HO0.out,hn0⟩
 case round=>
  obtain ⟨k,ys,hk,rfl,hyz,hO,hb⟩:=hrel;have HO:Hid (wr.ownsRow w.heap.size 42 6 (.slice (some ⟨w.heap.size,0,none⟩) n n) n ys):=hO;have HZ:Hid (∀t,t<k*6->ys[t]?=(ad es)[t]?):=hyz;have hyl:ys.length=n*6:=hO.1;clear hO hyz;by_cases hlt:k<n
  ·obtain ⟨x,hx⟩:∃x,es[k]?=some x:=⟨_,List.getElem?_eq_getElem (by omega)⟩;obtain ⟨b,off,rfl,hbb⟩:∃b off,a=some ⟨b,off,none⟩∧b<w.heap.size:=by
    rcases HR.out.2 with h | ⟨b,off,h,h2,_⟩
    ·omega
    ·exact ⟨b,off,h,h2⟩
   have CE:∀j u,j<6->(bx x)[j]?=some u->wr.cell? ⟨b,off+(k*6+j),none⟩=some u:=fun j u hj hu=>
    Below.cell2 hb (av HR.out hn k x hx j u hj hu) hbb
   obtain ⟨vv,lv,tg,asd,gl,pt⟩:=x;have g0:wr.cell? ⟨b,off+k*6,none⟩=some (.bool vv):=CE 0 _ (by omega) rfl;have g1:wr.cell? ⟨b,off+k*6+1,none⟩=some (.int .i64 lv):=CE 1 _ (by omega) rfl;have g2:wr.cell? ⟨b,off+k*6+2,none⟩=some (.int .u64 tg):=CE 2 _ (by omega) rfl;have g3:wr.cell? ⟨b,off+k*6+3,none⟩=some (.int .u64 asd):=CE 3 _ (by omega) rfl;have g4:wr.cell? ⟨b,off+k*6+4,none⟩=some (.bool gl):=CE 4 _ (by omega) rfl;have g5:wr.cell? ⟨b,off+k*6+5,none⟩=some (.int .u64 pt):=CE 5 _ (by omega) rfl;have HX:Hid (es[k]?=some ⟨vv,lv,tg,asd,gl,pt⟩):=hx;clear CE hx;go_wp2_with fail;refine (bo vv lv tg asd gl pt wr).mono ?_;rintro e v2 ⟨rfl,n2⟩;have O2:Hid (v2.ownsRow w.heap.size 42 6 (.slice (some ⟨w.heap.size,0,none⟩) n n) n ys):=ah HO.out n2;have A2:=Below.step hb n2 (Nat.le_refl _);clear g0 g1 g2 g3 g4 g5 HO hb n2;have y0:=ae O2.out (k*6) _ (List.getElem?_eq_getElem (by omega));have y1:=ae O2.out (k*6+1) _ (List.getElem?_eq_getElem (by omega));have y2:=ae O2.out (k*6+2) _ (List.getElem?_eq_getElem (by omega));have y3:=ae O2.out (k*6+3) _ (List.getElem?_eq_getElem (by omega));have y4:=ae O2.out (k*6+4) _ (List.getElem?_eq_getElem (by omega));have y5:=ae O2.out (k*6+5) _ (List.getElem?_eq_getElem (by omega));generalize ys[k*6]'_=z0 at y0;generalize ys[k*6+1]'_=z1 at y1;generalize ys[k*6+2]'_=z2 at y2;generalize ys[k*6+3]'_=z3 at y3;generalize ys[k*6+4]'_=z4 at y4;generalize ys[k*6+5]'_=z5 at y5;have r0:=ag O2.out (k*6);have r1:=ag O2.out (k*6+1);have r2:=ag O2.out (k*6+2);have r3:=ag O2.out (k*6+3);have r4:=ag O2.out (k*6+4);have r5:=ag O2.out (k*6+5);go_wp2_with fail;go_roundw
   case rel=>
    refine ⟨k+1,_,by omega,by go_num,fy es ys k n _ HX.out hyl hlt hn HZ.out,ac (ac (ac (ac (ac (ac O2.out _ _) _ _) _ _) _ _) _ _) _ _,A2.grown (ap (ap (ap (ap (ap (ap (bi v2 (some w.heap.size)) _ _) _ _) _ _) _ _) _ _) _ _) A2.size (fun q hq=>by cases hq;omega)⟩
   case measure=>simp [intOf];omega
  ·have hyy:ys=ad es:=by
    apply List.ext_getElem?;intro t;by_cases ht:t<n*6
    ·exact HZ.out t (by omega)
    ·rw [List.getElem?_eq_none (by omega),List.getElem?_eq_none (by rw [aQ];omega)]
   rw [hyy] at HO;clear HZ hyl hyy;go_wp2_with fail;go_ret;exact ⟨rfl,HO.out,hb⟩
theorem aI (sets ways:Int) (a:Option Addr) (n cap:Nat) (es:List EntM) (w:World) (h:RowC w a n 6 (ad es)) (hn:es.length=n) (hl:n<=1048576):
 Calls Try.prog 10 #[.agg #[.int .i64 sets,.int .i64 ways,.slice a n cap]] w fun e w'=>(∃x,e=.returned x∧TlbOwn w.heap.size w' x ⟨sets,ways,es⟩)∧Below w.heap.size w w':=by
 have n1:=(((Below.refl w.heap.size w).alloc (Nat.le_refl _) (Obj.cells #[.int .i64 sets,.int .i64 ways,.slice a n cap] 24)).alloc (by simp) (Obj.cells #[.int .i64 0,.int .i64 0,.slice none 0 0] 29)).alloc (by simp;omega) (Obj.cells #[.int .i64 sets,.int .i64 ways,.slice none 0 0] 29);have HR:Hid (RowC (((w.alloc (Obj.cells #[.int .i64 sets,.int .i64 ways,.slice a n cap] 24)).alloc (Obj.cells #[.int .i64 0,.int .i64 0,.slice none 0 0] 29)).alloc (Obj.cells #[.int .i64 sets,.int .i64 ways,.slice none 0 0] 29)) a n 6 (ad es)):=h.keep n1;have H2:Hid ((((w.alloc (Obj.cells #[.int .i64 sets,.int .i64 ways,.slice a n cap] 24)).alloc (Obj.cells #[.int .i64 0,.int .i64 0,.slice none 0 0] 29)).alloc (Obj.cells #[.int .i64 sets,.int .i64 ways,.slice none 0 0] 29)).heap[w.heap.size+1]?=some (.cells #[.int .i64 0,.int .i64 0,.slice none 0 0] 29 (0,0))):=by
  show _=_;rw [heap_alloc_old _ _ (by simp)];have:=heap_alloc_new (w.alloc (Obj.cells #[.int .i64 sets,.int .i64 ways,.slice a n cap] 24)) (Obj.cells #[.int .i64 0,.int .i64 0,.slice none 0 0] 29);simp only [World.size_alloc] at this;exact this
 have H3:Hid ((((w.alloc (Obj.cells #[.int .i64 sets,.int .i64 ways,.slice a n cap] 24)).alloc (Obj.cells #[.int .i64 0,.int .i64 0,.slice none 0 0] 29)).alloc (Obj.cells #[.int .i64 sets,.int .i64 ways,.slice none 0 0] 29)).heap[w.heap.size+1+1]?=some (.cells #[.int .i64 sets,.int .i64 ways,.slice none 0 0] 29 (0,0))):=by
  have:=heap_alloc_new ((w.alloc (Obj.cells #[.int .i64 sets,.int .i64 ways,.slice a n cap] 24)).alloc (Obj.cells #[.int .i64 0,.int .i64 0,.slice none 0 0] 29)) (Obj.cells #[.int .i64 sets,.int .i64 ways,.slice none 0 0] 29);simp only [World.size_alloc] at this;exact this
 have l1:w.heap.size+1+1<(((w.alloc (Obj.cells #[.int .i64 sets,.int .i64 ways,.slice a n cap] 24)).alloc (Obj.cells #[.int .i64 0,.int .i64 0,.slice none 0 0] 29)).alloc (Obj.cells #[.int .i64 sets,.int .i64 ways,.slice none 0 0] 29)).heap.size:=by simp
 clear h;go_enter Try.func10,Try.ntmps10;go_wp2_with fail;generalize (((w.alloc (Obj.cells #[.int .i64 sets,.int .i64 ways,.slice a n cap] 24)).alloc (Obj.cells #[.int .i64 0,.int .i64 0,.slice none 0 0] 29)).alloc (Obj.cells #[.int .i64 sets,.int .i64 ways,.slice none 0 0] 29))=v1 at n1 HR H2 H3 l1 |-;refine (dR a n cap es v1 HR.out hn hl).mono ?_;rintro e v2 ⟨rfl,o2,n2⟩;have O2:Hid (v2.ownsRow v1.heap.size 42 6 (.slice (some ⟨v1.heap.size,0,none⟩) n n) n (ad es)):=o2;have A2:=Below.step n1 n2 (Nat.le_refl _);have K2:=ab H2 n2;have K3:=ab H3 n2;obtain ⟨⟨d0,d1,d2⟩,e0,e1,e2⟩:=aa K2.out;obtain ⟨⟨p0,p1,p2⟩,f0,f1,f2⟩:=aa K3.out;clear o2 n1 n2 HR H2 H3;go_wp2_with fail;refine bodyPost_ret (v:=.agg #[.int .i64 sets,.int .i64 ways,.slice (some ⟨v1.heap.size,0,none⟩) n n]) (by simp [results,Try.results10,go_sem,d0,d1,d2]) rfl ⟨⟨_,rfl,v1.heap.size,n,by simp only;rw [hn],?_⟩,aS (A2.setCell (p:=⟨w.heap.size+1+1,2,none⟩) (by show w.heap.size<=w.heap.size+1+1;omega) _) (by omega) _ _ _⟩;simp only;rw [hn];exact aD (aR (aR O2.out (ap (bi v2 (some (w.heap.size+1+1))) 2 _) l1) (gb3 _ (w.heap.size+1) _ _ _) (by omega)) (by omega)
theorem bt (sets ways:Int) (a:Option Addr) (n cap:Nat) (left:Int) (w:World) (hn:(n:Int)<=9223372036854775807) (h0:0<=left) (h1:left<=1048576):
 Calls Try.prog 8 #[.agg #[.int .i64 sets,.int .i64 ways,.slice a n cap],.int .i64 left] w fun e w'=>e=.returned (.int .i64 (if left<n then -1 else left-n))∧Below w.heap.size w w':=by
 have n1:=(Below.refl w.heap.size w).alloc (Nat.le_refl _) (Obj.cells #[.int .i64 sets,.int .i64 ways,.slice a n cap] 24);by_cases h:left<n
 ·rw [if_pos h];have HS:Hid (∀w,Calls Try.prog 29 #[.slice a n cap,.int .i64 left] w fun e w'=>e=.returned (.int .i64 (-1))∧w'=w):=fun w=>by
   have:=cO a n cap left w hn h0 h1;rw [if_pos h] at this;exact this
  clear h;go_enter Try.func8,Try.ntmps8;go_wp2_with (go_at_call 29;refine (HS.out _).mono ?_;rintro e w' ⟨rfl,rfl⟩);go_ret;exact ⟨rfl,n1⟩
 ·rw [if_neg h];have HS:Hid (∀w,Calls Try.prog 29 #[.slice a n cap,.int .i64 left] w fun e w'=>e=.returned (.int .i64 (left-n))∧w'=w):=fun w=>by
   have:=cO a n cap left w hn h0 h1;rw [if_neg h] at this;exact this
  have h':decide (left-(n:Int)<0)=false:=by rw [decide_eq_false_iff_not];omega
  clear h;go_enter Try.func8,Try.ntmps8;go_wp2_with (go_at_call 29;refine (HS.out _).mono ?_;rintro e w' ⟨rfl,rfl⟩);go_ret;exact ⟨rfl,n1⟩
end
section
attribute [local go_sem ↓] Go.wp_at_zero Go.wp_at_succ
theorem dV (v:Bool) (l t a:Int) (g:Bool) (p:Int) (w:World):
 Calls Try.prog 71 #[.agg #[.bool v,.int .i64 l,.int .u64 t,.int .u64 a,.bool g,.int .u64 p],.agg #[.bool v,.int .i64 l,.int .u64 t,.int .u64 a,.bool g,.int .u64 p]] w fun e w'=>e=.returned (.bool true)∧Below w.heap.size w w':=by
 cases v <;> cases g;all_goals
  go_enter Try.func71,Try.ntmps71;go_wp2_with fail;go_ret;exact ⟨rfl,((Below.refl _ _).alloc (Nat.le_refl _) _).alloc (by simp) _⟩
theorem eQ (f:Bool) (i l p:Int) (w:World):
 Calls Try.prog 15 #[.agg #[.bool f,.int .i64 i,.int .i64 l,.int .u64 p],.agg #[.bool f,.int .i64 i,.int .i64 l,.int .u64 p]] w fun e w'=>e=.returned (.bool true)∧Below w.heap.size w w':=by
 cases f;all_goals
  go_enter Try.func15,Try.ntmps15;go_wp2_with fail;go_ret;exact ⟨rfl,((Below.refl _ _).alloc (Nat.le_refl _) _).alloc (by simp) _⟩
theorem dI (a b:Option Addr) (n ca cb:Nat) (es:List EntM) (w:World) (h:RowC w a n 6 (ad es)) (h':RowC w b n 6 (ad es)) (hn:es.length=n) (hl:n<=1048576):
 Calls Try.prog 34 #[.slice a n ca,.slice b n cb] w fun e w'=>e=.returned (.bool true)∧Below w.heap.size w w':=by
 have HR:Hid (RowC w a n 6 (ad es)):=h;have HR':Hid (RowC w b n 6 (ad es)):=h';clear h h';go_enter Try.func34,Try.ntmps34;go_wp2_with fail;go_loopw [5] (fun i wr=>∃(k:Nat),k<=n∧i=.int .i64 k∧Below w.heap.size w wr) (fun i _=>n-(intOf i).toNat)
 case atStart=>exact ⟨0,Nat.zero_le _,rfl,Below.refl _ _⟩
 case round=>
  obtain ⟨k,hk,rfl,hb⟩:=hrel;by_cases hlt:k<n
  ·obtain ⟨x,hx⟩:∃x:EntM,es[k]?=some x:=⟨_,List.getElem?_eq_getElem (by omega)⟩;have R1:=RowC.keep HR.out hb;have R2:=RowC.keep HR'.out hb;obtain ⟨b1,o1,rfl,lb1⟩:∃b1 o1,a=some ⟨b1,o1,none⟩∧b1<wr.heap.size:=by
    rcases R1.2 with h | ⟨b1,o1,h,h2,_⟩
    ·omega
    ·exact ⟨b1,o1,h,h2⟩
   obtain ⟨b2,o2,rfl,lb2⟩:∃b2 o2,b=some ⟨b2,o2,none⟩∧b2<wr.heap.size:=by
    rcases R2.2 with h | ⟨b2,o2,h,h2,_⟩
    ·omega
    ·exact ⟨b2,o2,h,h2⟩
   obtain ⟨vv,lv,tg,asd,gl,pt⟩:=x;have C1:=fun j u hj hu=>aq (av R1 hn k _ hx j u hj hu) lb1;have C2:=fun j u hj hu=>aq (av R2 hn k _ hx j u hj hu) lb2;have g0:∀u:Lies wr,u.w.cell? ⟨b1,o1+k*6,none⟩=some (.bool vv):=C1 0 _ (by omega) rfl;have g1:∀u:Lies wr,u.w.cell? ⟨b1,o1+k*6+1,none⟩=some (.int .i64 lv):=C1 1 _ (by omega) rfl;have g2:∀u:Lies wr,u.w.cell? ⟨b1,o1+k*6+2,none⟩=some (.int .u64 tg):=C1 2 _ (by omega) rfl;have g3:∀u:Lies wr,u.w.cell? ⟨b1,o1+k*6+3,none⟩=some (.int .u64 asd):=C1 3 _ (by omega) rfl;have g4:∀u:Lies wr,u.w.cell? ⟨b1,o1+k*6+4,none⟩=some (.bool gl):=C1 4 _ (by omega) rfl;have g5:∀u:Lies wr,u.w.cell? ⟨b1,o1+k*6+5,none⟩=some (.int .u64 pt):=C1 5 _ (by omega) rfl;have f0:∀u:Lies wr,u.w.cell? ⟨b2,o2+k*6,none⟩=some (.bool vv):=C2 0 _ (by omega) rfl;have f1:∀u:Lies wr,u.w.cell? ⟨b2,o2+k*6+1,none⟩=some (.int .i64 lv):=C2 1 _ (by omega) rfl;have f2:∀u:Lies wr,u.w.cell? ⟨b2,o2+k*6+2,none⟩=some (.int .u64 tg):=C2 2 _ (by omega) rfl;have f3:∀u:Lies wr,u.w.cell? ⟨b2,o2+k*6+3,none⟩=some (.int .u64 asd):=C2 3 _ (by omega) rfl;have f4:∀u:Lies wr,u.w.cell? ⟨b2,o2+k*6+4,none⟩=some (.bool gl):=C2 4 _ (by omega) rfl;have f5:∀u:Lies wr,u.w.cell? ⟨b2,o2+k*6+5,none⟩=some (.int .u64 pt):=C2 5 _ (by omega) rfl;have ne:=ci wr;clear C1 C2 R1 R2 hx;go_wp2_with fail;refine ai (by kernel_rfl) (by kernel_rfl) ?_;repeat (go_big_quiet_step ((go_at_call 71;exact ao _ (dV _ _ _ _ _ _ _))))
   refine wpQuiet_nil ?_;rintro _ ⟨u,rfl⟩;have hb2:=Below.step hb u.h (Nat.le_refl _);generalize u.w=v2 at hb2 |-;clear g0 g1 g2 g3 g4 g5 f0 f1 f2 f3 f4 f5 hb;go_wp2_with fail;go_roundw
   case rel=>exact ⟨k+1,by omega,by go_num,hb2⟩
   case measure=>simp [intOf];omega
  ·clear HR HR';go_wp2_with fail;go_ret;exact ⟨rfl,hb⟩
theorem aZ (sets ways:Int) (a b:Option Addr) (n ca cb:Nat) (es:List EntM) (w:World) (h:RowC w a n 6 (ad es)) (h':RowC w b n 6 (ad es)) (hn:es.length=n) (hl:n<=1048576):
 Calls Try.prog 12 #[.agg #[.int .i64 sets,.int .i64 ways,.slice a n ca],.agg #[.int .i64 sets,.int .i64 ways,.slice b n cb]] w fun e w'=>e=.returned (.bool true)∧Below w.heap.size w w':=by
 have n1:=((Below.refl w.heap.size w).alloc (Nat.le_refl _) (Obj.cells #[.int .i64 sets,.int .i64 ways,.slice a n ca] 29)).alloc (by simp) (Obj.cells #[.int .i64 sets,.int .i64 ways,.slice b n cb] 29);have HR:Hid (RowC _ a n 6 (ad es)):=RowC.keep h n1;have HR':Hid (RowC _ b n 6 (ad es)):=RowC.keep h' n1;clear h h';go_enter Try.func12,Try.ntmps12;go_wp2_with fail;refine (dI a b n ca cb es _ HR.out HR'.out hn hl).mono ?_;rintro e v2 ⟨rfl,n2⟩;have n12:=Below.step n1 n2 (Nat.le_refl _);clear n1 n2 HR HR';go_wp2_with fail;go_ret;exact ⟨rfl,n12⟩
end
section
open Go.ChangeShapes Go.WideShapes Go.RowKit Go.Joins Go.Deep
theorem fO (b off i:Nat):Addr.add ⟨b,off,none⟩ i=⟨b,off+i,none⟩:=by
 unfold Addr.add;split
 ·next h=>subst h;rfl
 ·rfl
theorem eh {w:World} {a:Addr} {es:List EntM} {n:Nat} (hn:es.length=n) (h:∀i (hi:i<es.length) j,j<6->w.cell? (a.add (i*6+j))=(bx es[i])[j]?):RowC w (some a) n 6 (ad es):=by
 refine ⟨by rw [aQ,hn],?_⟩;by_cases h0:n=0
 ·exact .inl h0
 ·obtain ⟨b,off,spot⟩:=a;have hc:=h 0 (by omega) 0 (by omega);have hc':w.cell? (Addr.add ⟨b,off,spot⟩ 0)=some (.bool (es[0]'(by omega)).valid):=by simpa [bx] using hc
  have hspot:spot=none:=by simpa [Addr.add] using World.cell?_spot hc'
  subst hspot;refine .inr ⟨b,off,rfl,?_,fun i v hi=>?_⟩
  ·have hc0:w.cell? ⟨b,off,none⟩=some (.bool (es[0]'(by omega)).valid):=by simpa [Addr.add] using hc'
   unfold World.cell? at hc0;split at hc0
   ·next he=>exact (Array.getElem?_eq_some_iff.1 he).1
   ·cases hc0
  ·have hlt:i<(ad es).length:=(List.getElem?_eq_some_iff.1 hi).1;rw [aQ] at hlt;have hq:i/6<es.length:=by omega
   have:=h (i/6) hq (i%6) (by omega);rw [<-cw es (i/6) (i%6) hq (by omega),show i/6*6+i%6=i by omega,fO,hi] at this;exact this
section
variable {H:Type} {enc:TypeId × Value->H} {P:Program} {w:World} {base:Nat} {spare:Nat->Bool} {held:Bool}
theorem dS {t:TypeId} {f0 f1 f2 f3 f4 f5:Field} {fuel:Nat} {cs:List Value} {x:DataW H × List MemPlace} (ht:P.underlying t=some (.struct #[f0,f1,f2,f3,f4,f5])) (hone:oneCellFields P #[f0,f1,f2,f3,f4,f5]=true) (hC:P.cellsOf t=6) (h:DataW.trod enc P w base spare held fuel t cs=some x):
 ∃c0 c1 c2 c3 c4 c5 y0 y1 y2 y3 y4 y5 n,cs=[c0,c1,c2,c3,c4,c5]∧DataW.trod enc P w base spare held n f0.type [c0]=some y0∧DataW.trod enc P w base spare held n f1.type [c1]=some y1∧DataW.trod enc P w base spare held n f2.type [c2]=some y2∧
  DataW.trod enc P w base spare held n f3.type [c3]=some y3∧DataW.trod enc P w base spare held n f4.type [c4]=some y4∧DataW.trod enc P w base spare held n f5.type [c5]=some y5:=by
 obtain ⟨xs,n,_,rfl,hl,hlen,hf⟩:=DataW.trod_struct ht h;rw [hC] at hl;obtain ⟨o0,k0⟩:=hone_of hone 0 f0 rfl;obtain ⟨o1,k1⟩:=hone_of hone 1 f1 rfl;obtain ⟨o2,k2⟩:=hone_of hone 2 f2 rfl;obtain ⟨o3,k3⟩:=hone_of hone 3 f3 rfl;obtain ⟨o4,k4⟩:=hone_of hone 4 f4 rfl;obtain ⟨o5,k5⟩:=hone_of hone 5 f5 rfl
 match cs,hl with
 | [c0,c1,c2,c3,c4,c5],_=>
  match xs,hlen with
  | [y0,y1,y2,y3,y4,y5],_=>
   exact ⟨c0,c1,c2,c3,c4,c5,y0,y1,y2,y3,y4,y5,n,rfl,by simpa [o0,k0] using hf 0 f0 rfl,by simpa [o1,k1] using hf 1 f1 rfl,by simpa [o2,k2] using hf 2 f2 rfl,by simpa [o3,k3] using hf 3 f3 rfl,by simpa [o4,k4] using hf 4 f4 rfl,by simpa [o5,k5] using hf 5 f5 rfl⟩
end
theorem ei {H:Type} {enc:TypeId × Value->H} {w:World} {base:Nat} {spare:Nat->Bool} {held:Bool} {fuel:Nat} {cs:List Value} {x:DataW H × List MemPlace}
 (h:DataW.trod enc Try.prog w base spare held fuel 40 cs=some x):∃e:EntM,cs=bx e∧aO e:=by
 obtain ⟨c0,c1,c2,c3,c4,c5,y0,y1,y2,y3,y4,y5,n,rfl,h0,h1,h2,h3,h4,h5⟩:=dS Try.underlying40 (by kernel_rfl) (by kernel_rfl) h;obtain ⟨b,f0,_⟩:=DataW.trod_bool Try.underlying4 h0;obtain ⟨l,f1,_,w1⟩:=DataW.trod_int Try.underlying2 h1;obtain ⟨t,f2,_,w2⟩:=DataW.trod_int Try.underlying33 h2;obtain ⟨a,f3,_,w3⟩:=DataW.trod_int Try.underlying33 h3;obtain ⟨g,f4,_⟩:=DataW.trod_bool Try.underlying4 h4;obtain ⟨p,f5,_,w5⟩:=DataW.trod_int Try.underlying33 h5;simp at f0 f1 f2 f3 f4 f5;subst f0 f1 f2 f3 f4 f5;exact ⟨⟨b,l,t,a,g,p⟩,rfl,bounds_i64 w1,bounds_u64 w2,bounds_u64 w3,bounds_u64 w5⟩
theorem fg {H:Type} {enc:TypeId × Value->H} {w:World} {base:Nat} {spare:Nat->Bool} {held:Bool} {fuel:Nat} {v:Value} {x:DataW H × List MemPlace}
 (h:DataW.trod enc Try.prog w base spare held fuel 22 [v]=some x):
 ∃a cap es,v=.slice a es.length cap∧RowC w a es.length 6 (ad es)∧(∀e∈es,aO e)∧es.length<=cap∧(cap:Int)<=9223372036854775807:=by
 rcases open_slice Try.underlying22 h with ⟨hcs,_⟩ | ⟨a,len,cap,m,n,D,Pl,hcs,_,hl,hm,hmm,_,hx⟩
 ·simp at hcs;subst hcs;exact ⟨none,0,[],rfl,RowC.nil _ _ _,by simp,by simp,by simp⟩
 ·simp at hcs;subst hcs;have hlm:len<=m:=by rw [hmm];split <;> omega
  rw [show Try.prog.cellsOf 40=6 from by kernel_rfl] at hx;have inh:Inhabited EntM:=⟨aC⟩;obtain ⟨E,hE⟩:=choose_lt (α:=EntM) (n:=len) (p:=fun i e=>(∀j,j<6->w.cell? (a.add (i*6+j))=(bx e)[j]?)∧aO e) (fun i hi=>by
   obtain ⟨cs',h1,h2⟩:=hx i (by omega);obtain ⟨e,rfl,he⟩:=ei h2;obtain ⟨_,_,h3⟩:=World.cells?_some h1;exact ⟨e,fun j hj=>by rw [<-add_add];exact h3 j hj,he⟩)
  refine ⟨some a,cap,(List.range len).map E,by simp,eh rfl (fun i hi j hj=>?_),?_,by simpa using hl,by unfold maxLen at hm;omega⟩
  ·simp only [List.getElem_map,List.getElem_range];exact (hE i (by simpa using hi)).1 j hj
  ·intro e he;simp at he;obtain ⟨i,hi,rfl⟩:=he;exact (hE i hi).2
set_option maxRecDepth 100000 in
theorem eM {H:Type} {enc:TypeId × Value->H} {w:World} {base b0:Nat} {spare:Nat->Bool} {held:Bool} {r:Reach} {v:Value} {d:DataW H} {p:List MemPlace}
 (hv:Value.okWide Try.prog w r b0 40 v) (h:DataW.Trod enc Try.prog w base spare held 40 v d p):∃e:EntM,v=bQ e∧aO e:=by
 obtain ⟨cs,rfl,_⟩:=okWide_struct Try.underlying40 hv;obtain ⟨fuel,hf⟩:=h;obtain ⟨e,hc,he⟩:=ei hf;refine ⟨e,?_,he⟩;have hc':cs.toList=bx e:=by simpa [Value.cells] using hc
 unfold bQ;congr 1;apply Array.ext';simpa [bx] using hc'
theorem fP:Try.prog.cellsOf 24=3:=by kernel_rfl
set_option maxRecDepth 100000 in
theorem cP {H:Type} {enc:TypeId × Value->H} {w:World} {base b0:Nat} {spare:Nat->Bool} {held:Bool} {r:Reach} {v:Value} {d:DataW H} {p:List MemPlace}
 (hv:Value.okWide Try.prog w r b0 24 v) (h:DataW.Trod enc Try.prog w base spare held 24 v d p):
 ∃sets ways a cap es,v=.agg #[.int .i64 sets,.int .i64 ways,.slice a es.length cap]∧RowC w a es.length 6 (ad es)∧(∀e∈es,aO e)∧
  (-9223372036854775808<=sets∧sets<=9223372036854775807)∧(-9223372036854775808<=ways∧ways<=9223372036854775807)∧es.length<=cap∧(cap:Int)<=9223372036854775807:=by
 obtain ⟨c0,c1,c2,y0,y1,y2,m,rfl,_,_,e0,e1,e2⟩:=open_agg3 Try.underlying24 (by kernel_rfl) fP hv h;obtain ⟨s,f0,_,w0⟩:=DataW.trod_int Try.underlying2 e0;obtain ⟨y,f1,_,w1⟩:=DataW.trod_int Try.underlying2 e1;simp at f0 f1;subst f0 f1;obtain ⟨a,cap,es,rfl,hr,ho,hl,hm⟩:=fg e2;exact ⟨s,y,a,cap,es,rfl,hr,ho,bounds_i64 w0,bounds_i64 w1,hl,hm⟩
end
theorem ey (a k:Nat):(a &&& 2^k != 0)=(a/2^k%2 == 1):=by
 have e:(a/2^k%2 == 1)=a.testBit k:=by rw [Nat.testBit_eq_decide_div_mod_eq];rfl
 rw [e];cases h:a.testBit k
 ·have:a &&& 2^k=0:=by
   apply Nat.eq_of_testBit_eq;intro i;rw [Nat.testBit_and,Nat.testBit_two_pow,Nat.zero_testBit];by_cases hi:k=i
   ·subst hi;simp [h]
   ·simp [hi]
  simp [this]
 ·have:a &&& 2^k≠0:=by
   intro h0;have:=congrArg (fun n=>n.testBit k) h0;simp [Nat.testBit_and,h] at this
  simpa using this
theorem cr (a m n:Nat):(a &&& (m ||| n) != 0)=((a &&& m != 0) || (a &&& n != 0)):=by
 rw [Nat.and_or_distrib_left];cases h:(a &&& m != 0) <;> cases h':(a &&& n != 0) <;> simp_all [Nat.or_eq_zero_iff]
def cX (x m:Int):Bool:=bits .and .u64 x m != 0
theorem bz (a m:Nat) (ha:a<18446744073709551616) (hm:m<18446744073709551616):cX a m=(a &&& m != 0):=by
 rw [cX,u64_and_nat a m ha hm];cases h:(a &&& m != 0)
 ·simp at h;simp [h]
 ·simp at h;simp;omega
theorem bp (k:Nat) (x p:Int) (hp:p=2^k) (hk:p<18446744073709551616) (h0:0<=x) (h1:x<=18446744073709551615):cX x p=aK x p:=by
 obtain ⟨a,rfl⟩:=Int.eq_ofNat_of_zero_le h0;have e:p=((2^k:Nat):Int):=by rw [hp];push_cast;rfl
 rw [e] at hk |-;rw [bz a (2^k) (by omega) (by omega),ey,aK];rw [show ((a:Int)/((2^k:Nat):Int)%2)=((a/2^k%2:Nat):Int) by omega];generalize a/2^k%2=t;rw [Bool.eq_iff_iff];simp only [beq_iff_eq];omega
theorem fq (x:Int) (h0:0<=x) (h1:x<=18446744073709551615):cX x 14=(aK x 2 || aK x 4 || aK x 8):=by
 rw [<-bp 1 x 2 rfl (by omega) h0 h1,<-bp 2 x 4 rfl (by omega) h0 h1,<-bp 3 x 8 rfl (by omega) h0 h1];obtain ⟨a,rfl⟩:=Int.eq_ofNat_of_zero_le h0;rw [show (14:Int)=((14:Nat):Int) from rfl,show (2:Int)=((2:Nat):Int) from rfl,show (4:Int)=((4:Nat):Int) from rfl,show (8:Int)=((8:Nat):Int) from rfl];rw [bz a 14 (by omega) (by omega),bz a 2 (by omega) (by omega),bz a 4 (by omega) (by omega),bz a 8 (by omega) (by omega)];rw [<-cr,<-cr];rfl
theorem fr (x:Int) (h0:0<=x) (h1:x<=18446744073709551615):cX x 208=(aK x 16 || aK x 64 || aK x 128):=by
 rw [<-bp 4 x 16 rfl (by omega) h0 h1,<-bp 6 x 64 rfl (by omega) h0 h1,<-bp 7 x 128 rfl (by omega) h0 h1];obtain ⟨a,rfl⟩:=Int.eq_ofNat_of_zero_le h0;rw [show (208:Int)=((208:Nat):Int) from rfl,show (16:Int)=((16:Nat):Int) from rfl,show (64:Int)=((64:Nat):Int) from rfl,show (128:Int)=((128:Nat):Int) from rfl];rw [bz a 208 (by omega) (by omega),bz a 16 (by omega) (by omega),bz a 64 (by omega) (by omega),bz a 128 (by omega) (by omega)];rw [<-cr,<-cr];rfl
end Go.Proofs.Ytfgogedgolgnaaa
