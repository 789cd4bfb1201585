import Derived.Test.YtfgogedgolgnaaaGreatZk19
import Derived.Test.YtfgogedgolgnaaaGreatZk18
namespace Go.Proofs.YtfgogedgolgnaaaGreat
open Go.RowKit
set_option linter.unusedVariables false
set_option maxHeartbeats 6400000
set_option maxRecDepth 20000
section
attribute [local go_sem ↓] Go.wp_at_zero Go.wp_at_succ
theorem Tryz.infoSlotL:(Tryz.prog.info? 136).map (fun i=>(i.zero,i.size,i.bytes))=some (some (.agg #[.int .i64 0,.int .u64 0,.int .u64 0,.bool false,.bool false,.int .u64 0]),6,48):=by kernel_rfl
def kA (base:Nat) (w:World) (e:Ending) (t:TlbM):Prop:=
 ∃g,e=.returned (.tuple #[.agg #[.int .i64 t.sets,.int .i64 t.ways,.slice (some ⟨g,0,none⟩) t.es.length t.es.length],.bool true])∧w.ownsRow base 136 6 (.slice (some ⟨g,0,none⟩) t.es.length t.es.length) t.es.length (av t.es)
theorem mx (n:Nat) (hn:n<=1048576):∃cs:Array Value,cs.toList=av (List.replicate n aZ)∧∀u:World,(Instr.makeSlice 78 (.int .i64 (n:Int)) (.int .i64 (n:Int))).run Tryz.prog u=.ok (.slice (some ⟨u.heap.size,0,none⟩) n n) (u.alloc (.cells cs 136)):=by
 obtain ⟨i0,hi,hz0,hz1,hz2⟩:=info_parts Tryz.infoSlotL;refine ⟨madeCells (Value.agg #[.int .i64 0,.int .u64 0,.int .u64 0,.bool false,.bool false,.int .u64 0]).cells (n*6),?_,fun u=>?_⟩
 ·exact jg aZ n
 ·have:=run_make (P:=Tryz.prog) u 78 136 i0 _ Tryz.underlying78 hi hz0 .i64 .i64 n n (by omega) (Int.le_refl _) (by rw [hz2];omega) (by omega);rw [hz1] at this;simpa using this
theorem iE (v:Value) (t:TlbM) (w:World) (h:TlbAt w v t):
 Calls Tryz.prog 60 #[v] w fun e w'=>cond (aA t false) (kA w.heap.size w' e t) (e=.returned (.tuple #[.agg #[.int .i64 0,.int .i64 0,.slice none 0 0],.bool false]))∧Below w.heap.size w w':=by
 obtain ⟨a,cap,rfl,hr,he,hs,hw,hl,hlc,hcm,hnil,hsp⟩:=h;obtain ⟨sets,ways,es⟩:=t;obtain ⟨n,hn⟩:∃n,es.length=n:=⟨_,rfl⟩;simp only at hr he hs hw hl hlc hnil |-;have HN:Hid (es.length=n):=hn;rw [hn] at hr hl hlc hnil |-;have HR:Hid (RowC w a n 6 (al es)):=hr;have HE:Hid (∀e∈es,bf e):=he;obtain ⟨X,hX⟩:∃X,aA ⟨sets,ways,es⟩ false=X:=⟨_,rfl⟩;have HX:Hid (aA ⟨sets,ways,es⟩ false=X):=hX;rw [hX];clear hX hr he hnil hsp hn;have n1:=((Below.refl w.heap.size w).alloc (Nat.le_refl _) (Obj.cells #[.int .i64 sets,.int .i64 ways,.slice a n cap] 34)).alloc (by simp) (Obj.cells #[.int .i64 0,.int .i64 0,.slice none 0 0] 80);have H1:Hid (((w.alloc (Obj.cells #[.int .i64 sets,.int .i64 ways,.slice a n cap] 34)).alloc (Obj.cells #[.int .i64 0,.int .i64 0,.slice none 0 0] 80)).heap[w.heap.size]?=some (.cells #[.int .i64 sets,.int .i64 ways,.slice a n cap] 34 (0,0))):=by
  show _=_;rw [heap_alloc_old _ _ (by simp)];exact heap_alloc_new w _
 have H2:Hid (((w.alloc (Obj.cells #[.int .i64 sets,.int .i64 ways,.slice a n cap] 34)).alloc (Obj.cells #[.int .i64 0,.int .i64 0,.slice none 0 0] 80)).heap[w.heap.size+1]?=some (.cells #[.int .i64 0,.int .i64 0,.slice none 0 0] 80 (0,0))):=by
  have:=heap_alloc_new (w.alloc (Obj.cells #[.int .i64 sets,.int .i64 ways,.slice a n cap] 34)) (Obj.cells #[.int .i64 0,.int .i64 0,.slice none 0 0] 80);simp only [World.size_alloc] at this;exact this
 have l1:w.heap.size+1<((w.alloc (Obj.cells #[.int .i64 sets,.int .i64 ways,.slice a n cap] 34)).alloc (Obj.cells #[.int .i64 0,.int .i64 0,.slice none 0 0] 80)).heap.size:=by simp
 obtain ⟨sb,hsb⟩:∃sb,decide ((sets=1∨sets=2∨sets=4∨sets=8)∧1<=ways∧ways<=4∧(n:Int)=sets*ways)=sb:=⟨_,rfl⟩;have HSb:Hid (decide ((sets=1∨sets=2∨sets=4∨sets=8)∧1<=ways∧ways<=4∧(n:Int)=sets*ways)=sb):=hsb;have HSM:Hid (dm ⟨sets,ways,es⟩=sb):=by show _=_;unfold dm;simp only;rw [HN.out];exact hsb
 clear hsb;go_enter Tryz.func60,Tryz.ntmps60;go_wp2_with fail;generalize ((w.alloc (Obj.cells #[.int .i64 sets,.int .i64 ways,.slice a n cap] 34)).alloc (Obj.cells #[.int .i64 0,.int .i64 0,.slice none 0 0] 80))=v1 at n1 H1 H2 l1 |-;refine (dZ sets ways a n cap v1 hl hs hw).mono ?_;rw [HSb.out];rintro e v2 ⟨rfl,n2⟩;have A2:=Below.step n1 n2 (Nat.le_refl _);have K1:=aa H1 n2;have K2:=aa H2 n2;have l2:w.heap.size+1<v2.heap.size:=Nat.lt_of_lt_of_le l1 n2.size;clear n1 n2 H1 H2 l1;obtain ⟨⟨c0,c1,c2⟩,_,_,_⟩:=ai K1.out;obtain ⟨⟨d0,d1,d2⟩,e0,e1,e2⟩:=ai K2.out;cases sb
 ·have hxf:X=false:=by rw [<-HX.out];unfold aA;rw [HSM.out];rfl
  subst hxf;go_wp2_with fail;exact bodyPost_ret (v:=.tuple #[.agg #[.int .i64 0,.int .i64 0,.slice none 0 0],.bool false]) (by simp [results,Tryz.results60,go_sem,d0,d1,d2]) rfl ⟨rfl,cA A2 (by omega) _ _ _⟩
 ·have hsh:(sets=1∨sets=2∨sets=4∨sets=8)∧1<=ways∧ways<=4∧(n:Int)=sets*ways:=by simpa using HSb.out
  obtain ⟨hs4,hw1,hw4,hnw⟩:=hsh;have hn0:0<n:=by
   have:0<sets*ways:=Int.mul_pos (by omega) (by omega);omega
  obtain ⟨cs,hcs,hmk⟩:=mx n hl;have HCS:Hid (cs.toList=av (List.replicate n aZ)):=hcs;clear hcs HSb;have HNw:Hid ((n:Int)=sets*ways):=hnw;clear hnw;have ne1:v2.heap.size≠w.heap.size:=by omega
  have ne2:v2.heap.size≠w.heap.size+1:=by omega
  have ne3:w.heap.size<v2.heap.size:=by omega
  have ne4:w.heap.size≠v2.heap.size:=by omega
  have ne5:w.heap.size≠v2.heap.size+1:=by omega
  go_wp2_with fail;go_cut [4] (fun s4 wx=>∃cb g,s4=.pointer (some ⟨cb,0,none⟩)∧v2.heap.size<=cb∧cb<wx.heap.size∧cb≠g∧wx.heap[cb]?=some (.cells #[.int .i64 sets,.int .i64 ways,.slice (some ⟨g,0,none⟩) n n] 80 (0,0))∧wx.ownsRow v2.heap.size 136 6 (.slice (some ⟨g,0,none⟩) n n) n (av (List.replicate n aZ))∧Below v2.heap.size v2 wx)
  case first=>
   go_region
   ·go_wp2_with fail;go_meet;obtain ⟨q1,q2,q3,q4⟩:=jh v2 80 136 #[.int .i64 sets,.int .i64 ways,.slice (some ⟨v2.heap.size,0,none⟩) n n] cs _ n HCS.out (by rw [bK];simp) (by unfold maxLen;omega);exact ⟨_,_,rfl,by omega,q4,by omega,q1,q2,q3⟩
   ·go_wp2_with fail;go_meet;obtain ⟨q1,q2,q3,q4⟩:=ji v2 80 136 #[.int .i64 sets,.int .i64 ways,.slice (some ⟨v2.heap.size+1,0,none⟩) n n] cs _ n HCS.out (by rw [bK];simp) (by unfold maxLen;omega);exact ⟨_,_,rfl,Nat.le_refl _,q4,by omega,q1,q2,q3⟩
  case rest=>
   obtain ⟨cb,g,rfl,hcb,hcl,hcg,hC,hO,hbl⟩:=hcut;have HC:Hid (wc.heap[cb]?=some (.cells #[.int .i64 sets,.int .i64 ways,.slice (some ⟨g,0,none⟩) n n] 80 (0,0))):=hC;have HO:Hid (wc.ownsRow v2.heap.size 136 6 (.slice (some ⟨g,0,none⟩) n n) n (av (List.replicate n aZ))):=hO;have hgg:=aE hO;obtain ⟨_,hg1,hg2⟩:=hgg;simp only at hg1 hg2;clear hC hO c0 c1 c2 d0 d1 d2 e0 e1 e2;have L1:=aa K1 hbl;obtain ⟨⟨c0,c1,c2⟩,_,_,_⟩:=ai L1.out;go_wp2_with fail;go_loopw [25] (fun i wr=>∃k:Nat,k<=n∧i=.int .i64 k∧wr.heap[cb]?=some (.cells #[.int .i64 sets,.int .i64 ways,.slice (some ⟨g,0,none⟩) n n] 80 (0,0))∧wr.ownsRow v2.heap.size 136 6 (.slice (some ⟨g,0,none⟩) n n) n (av (aG k n es))∧Below v2.heap.size v2 wr∧Hid (∀j x,j<k->es[j]?=some x->aB ⟨sets,ways,es⟩ false j x=true)) (fun i _=>n-(intOf i).toNat)
   case atStart=>exact ⟨0,Nat.zero_le _,rfl,HC.out,by rw [cU];exact HO.out,hbl,fun j x hj=>absurd hj (by omega)⟩
   case round=>
    obtain ⟨k,hk,rfl,hC,hO,hb,HA⟩:=hrel;have PC:Hid (wr.heap[cb]?=some (.cells #[.int .i64 sets,.int .i64 ways,.slice (some ⟨g,0,none⟩) n n] 80 (0,0))):=hC;have PO:Hid (wr.ownsRow v2.heap.size 136 6 (.slice (some ⟨g,0,none⟩) n n) n (av (aG k n es))):=hO;have lc:cb<wr.heap.size:=(Array.getElem?_eq_some_iff.1 hC).1;have lg:g<wr.heap.size:=(aE hO).2.2;have A3:=Below.step A2 hb (Nat.le_refl _);have P1:=aa K1 hb;have P2:=aa K2 hb;clear hC hO c0 c1 c2;by_cases hlt:k<n
    ·obtain ⟨⟨vv,lv,tg,asd,gl,pt⟩,hx⟩:∃x,es[k]?=some x:=⟨_,List.getElem?_eq_getElem (by rw [HN.out];exact hlt)⟩;obtain ⟨b,off,rfl,hbb⟩:∃b off,a=some ⟨b,off,none⟩∧b<w.heap.size:=by
      rcases HR.out.2 with h | ⟨b,off,h,h2,_⟩
      ·omega
      ·exact ⟨b,off,h,h2⟩
     have CE:∀j u,j<6->(cJ ⟨vv,lv,tg,asd,gl,pt⟩)[j]?=some u->wr.cell? ⟨b,off+(k*6+j),none⟩=some u:=fun j u hj hu=>Below.cell2 A3 (aL HR.out HN.out k _ hx j u hj hu) hbb;have g0:wr.cell? ⟨b,off+k*6,none⟩=some (.bool vv):=CE 0 _ (by omega) rfl;have g1:wr.cell? ⟨b,off+k*6+1,none⟩=some (.int .i64 lv):=CE 1 _ (by omega) rfl;have g2:wr.cell? ⟨b,off+k*6+2,none⟩=some (.int .u64 tg):=CE 2 _ (by omega) rfl;have g3:wr.cell? ⟨b,off+k*6+3,none⟩=some (.int .u64 asd):=CE 3 _ (by omega) rfl;have g4:wr.cell? ⟨b,off+k*6+4,none⟩=some (.bool gl):=CE 4 _ (by omega) rfl;have g5:wr.cell? ⟨b,off+k*6+5,none⟩=some (.int .u64 pt):=CE 5 _ (by omega) rfl;have hok:bf ⟨vv,lv,tg,asd,gl,pt⟩:=HE.out _ (List.mem_of_getElem? hx);have HXk:Hid (es[k]?=some ⟨vv,lv,tg,asd,gl,pt⟩):=hx;clear CE hx;have HEq:=kW vv lv tg asd gl pt;have n5:=(Below.refl wr.heap.size wr).alloc (Nat.le_refl _) (Obj.cells #[.bool vv,.int .i64 lv,.int .u64 tg,.int .u64 asd,.bool gl,.int .u64 pt] 74);obtain ⟨⟨c0,c1,c2⟩,_,_,_⟩:=ai P1.out;obtain ⟨zb,hzb⟩:∃zb,ev ⟨vv,lv,tg,asd,gl,pt⟩=zb:=⟨_,rfl⟩;rw [hzb] at HEq;have HZb:Hid (ev ⟨vv,lv,tg,asd,gl,pt⟩=zb):=hzb;clear hzb;have HPf:Hid (aB ⟨sets,ways,es⟩ false k ⟨vv,lv,tg,asd,gl,pt⟩=false->X=false):=fun h=>by
      rw [<-HX.out];unfold aA;rw [HSM.out];simp only [Bool.true_and];exact bL _ false es 0 k _ HXk.out (by rw [Nat.zero_add];exact h)
     have HPt:Hid (aB ⟨sets,ways,es⟩ false k ⟨vv,lv,tg,asd,gl,pt⟩=true->∀j x,j<k+1->es[j]?=some x->aB ⟨sets,ways,es⟩ false j x=true):=fun h j x hj hx'=>by
      by_cases e:j=k
      ·subst e;rw [HXk.out] at hx';cases hx';exact h
      ·exact HA.out j x (by omega) hx'
     cases zb
     ·go_wp2_with fail;generalize wr.alloc (Obj.cells #[.bool vv,.int .i64 lv,.int .u64 tg,.int .u64 asd,.bool gl,.int .u64 pt] 74)=v5 at n5 |-;obtain ⟨gd,hgd⟩:∃gd,ay ⟨vv,lv,tg,asd,gl,pt⟩ false=gd:=⟨_,rfl⟩;have HGd:Hid (ay ⟨vv,lv,tg,asd,gl,pt⟩ false=gd):=hgd;have HSl:Hid (∀u,Calls Tryz.prog 80 #[.agg #[.bool vv,.int .i64 lv,.int .u64 tg,.int .u64 asd,.bool gl,.int .u64 pt]] u fun e w'=>e=.returned (.tuple #[aW (if gd=true then ⟨vv,lv,tg,asd,gl,pt⟩ else aZ),.bool gd])∧Below u.heap.size u w'):=fun u=>by
       have:=ju ⟨vv,lv,tg,asd,gl,pt⟩ u hok;rw [hgd] at this;exact this
      clear hgd;refine (HSl.out v5).mono ?_;have hpl:aB ⟨sets,ways,es⟩ false k ⟨vv,lv,tg,asd,gl,pt⟩=(gd && (tg%sets == (k:Int)/ways)):=by
       have hz:=HZb.out;unfold ev at hz;unfold aB;rw [HGd.out];simp only at hz |-;rw [hz,Bool.false_or]
      have HPl:Hid _:=hpl;clear hpl HSl;cases gd
      ·rintro e v6 ⟨rfl,n6⟩;have hxf:X=false:=HPf.out (by rw [HPl.out];rfl);subst hxf;simp only [aW,aZ,Bool.false_eq_true,if_false];have n56:=Below.step n5 n6 (Nat.le_refl _);have Q2:=aa P2 n56;have l6:wr.heap.size<=v6.heap.size:=n56.size;have n7:=(Below.refl v6.heap.size v6).alloc (Nat.le_refl _) (Obj.cells #[.int .i64 0,.int .u64 0,.int .u64 0,.bool false,.bool false,.int .u64 0] 136);have Q3:=aa Q2 n7;have A6:=Below.step A3 (Below.step n56 n7 (Nat.le_refl _)) (Nat.le_refl _);clear g0 g1 g2 g3 g4 g5 c0 c1 c2;obtain ⟨⟨d0,d1,d2⟩,e0,e1,e2⟩:=ai Q2.out;have m1:w.heap.size+1<v6.heap.size:=by omega
       have m2:v6.heap.size≠w.heap.size+1:=by omega
       go_wp2_with fail;go_quiet (fail);go_wp2_with fail;exact bodyPost_ret (v:=.tuple #[.agg #[.int .i64 0,.int .i64 0,.slice none 0 0],.bool false]) (by simp [results,Tryz.results60,go_sem,d0,d1,d2,m1]) rfl ⟨rfl,cA (below_drewN A6 _) (by omega) _ _ _⟩
      ·rintro e v6 ⟨rfl,n6⟩;simp only [aW,if_true];have n56:=Below.step n5 n6 (Nat.le_refl _);have Q1:=aa P1 n56;have Q2:=aa P2 n56;have QC:=aa PC n56;have QO:Hid (v6.ownsRow v2.heap.size 136 6 (.slice (some ⟨g,0,none⟩) n n) n (av (aG k n es))):=ae PO.out n56;have l6:wr.heap.size<=v6.heap.size:=n56.size;clear g0 g1 g2 g3 g4 g5 c0 c1 c2;have n7:=(Below.refl v6.heap.size v6).alloc (Nat.le_refl _) (Obj.cells #[.int .i64 lv,.int .u64 tg,.int .u64 asd,.bool gl,.bool vv,.int .u64 pt] 136);have RS:Hid ((v6.alloc (Obj.cells #[.int .i64 lv,.int .u64 tg,.int .u64 asd,.bool gl,.bool vv,.int .u64 pt] 136)).heap[v6.heap.size]?=some (.cells #[.int .i64 lv,.int .u64 tg,.int .u64 asd,.bool gl,.bool vv,.int .u64 pt] 136 (0,0))):=heap_alloc_new v6 _;have l7:v6.heap.size<(v6.alloc (Obj.cells #[.int .i64 lv,.int .u64 tg,.int .u64 asd,.bool gl,.bool vv,.int .u64 pt] 136)).heap.size:=by simp
       have R2:=aa Q2 n7;have RC:=aa QC n7;have RO:Hid ((v6.alloc (Obj.cells #[.int .i64 lv,.int .u64 tg,.int .u64 asd,.bool gl,.bool vv,.int .u64 pt] 136)).ownsRow v2.heap.size 136 6 (.slice (some ⟨g,0,none⟩) n n) n (av (aG k n es))):=ae QO.out n7;have n57:=Below.step n56 n7 (Nat.le_refl _);have A7:=Below.step A3 n57 (Nat.le_refl _);have B7:=Below.step hb n57 (Nat.le_refl _);have m1:w.heap.size+1<v6.heap.size:=by omega
       clear n5 n6 n56 n7 n57 Q1 Q2 QC QO;go_wp2_with fail;generalize v6.alloc (Obj.cells #[.int .i64 lv,.int .u64 tg,.int .u64 asd,.bool gl,.bool vv,.int .u64 pt] 136)=v7 at RS l7 R2 RC RO A7 B7 |-;obtain ⟨⟨p0,p1,p2⟩,_,_,_⟩:=ai RC.out;obtain ⟨⟨d0,d1,d2⟩,e0,e1,e2⟩:=ai R2.out;obtain ⟨⟨s0,s1,s2,s3,s4,s5⟩,_⟩:=bG RS.out;obtain ⟨sx,hsx⟩:∃sx,tg%sets=sx:=⟨_,rfl⟩;have HSet:Hid (∀q,Calls Tryz.prog 81 #[.pointer (some ⟨cb,0,none⟩),.int .u64 tg] (v7.drewN q) fun e w'=>e=.returned (.int .i64 sx)∧w'=v7.drewN q):=fun q=>by
        have:=fs cb 0 sets tg (v7.drewN q) hs4 p0 hok.2.1.1 hok.2.1.2;rw [hsx] at this;exact this
       have HPl2:Hid (aB ⟨sets,ways,es⟩ false k ⟨vv,lv,tg,asd,gl,pt⟩=(sx == (k:Int)/ways)):=by
        show _=_;rw [HPl.out,hsx,Bool.true_and]
       clear hsx hok HPl;have hdv:0<=(k:Int)/ways∧(k:Int)/ways<=k:=⟨Int.ediv_nonneg (by omega) (by omega),Int.ediv_le_self _ (by omega)⟩;obtain ⟨qv,hqv⟩:∃qv,(k:Int)/ways=qv:=⟨_,rfl⟩;rw [hqv] at hdv HPl2;have hwr:wrap64 ((k:Int)/ways)=qv:=by rw [hqv];unfold wrap64;omega
       clear hqv;by_cases hne:sx=qv
       ·subst hne;go_quiet ((go_at_call 81;exact Calls.quiet_of_same (HSet.out _)));have SO:Hid ((v7.drewN nq).ownsRow v2.heap.size 136 6 (.slice (some ⟨g,0,none⟩) n n) n (av (aG k n es))):=RO;have SC:Hid ((v7.drewN nq).heap[cb]?=some (.cells #[.int .i64 sets,.int .i64 ways,.slice (some ⟨g,0,none⟩) n n] 80 (0,0))):=RC;have SS:Hid ((v7.drewN nq).heap[v6.heap.size]?=some (.cells #[.int .i64 lv,.int .u64 tg,.int .u64 asd,.bool gl,.bool vv,.int .u64 pt] 136 (0,0))):=RS;have B8:Below v2.heap.size v2 (v7.drewN nq):=below_drewN B7 nq;generalize v7.drewN nq=v8 at SO SC SS B8 |-;have hfl:(av (aG k n es)).length=n*6:=by
         have:=HN.out;subst this;rw [bK,bU _ _ (by omega)]
        have q0:=an SO.out (k*6) _ (List.getElem?_eq_getElem (by omega));have q1:=an SO.out (k*6+1) _ (List.getElem?_eq_getElem (by omega));have q2:=an SO.out (k*6+2) _ (List.getElem?_eq_getElem (by omega));have q3:=an SO.out (k*6+3) _ (List.getElem?_eq_getElem (by omega));have q4:=an SO.out (k*6+4) _ (List.getElem?_eq_getElem (by omega));have q5:=an SO.out (k*6+5) _ (List.getElem?_eq_getElem (by omega));generalize (av (aG k n es))[k*6]'_=y0 at q0;generalize (av (aG k n es))[k*6+1]'_=y1 at q1;generalize (av (aG k n es))[k*6+2]'_=y2 at q2;generalize (av (aG k n es))[k*6+3]'_=y3 at q3;generalize (av (aG k n es))[k*6+4]'_=y4 at q4;generalize (av (aG k n es))[k*6+5]'_=y5 at q5;have r0:=ar SO.out (k*6);have r1:=ar SO.out (k*6+1);have r2:=ar SO.out (k*6+2);have r3:=ar SO.out (k*6+3);have r4:=ar SO.out (k*6+4);have r5:=ar SO.out (k*6+5);clear p0 p1 p2 d0 d1 d2 e0 e1 e2 s0 s1 s2 s3 s4 s5;obtain ⟨⟨p0,p1,p2⟩,_,_,_⟩:=ai SC.out;obtain ⟨⟨s0,s1,s2,s3,s4,s5⟩,_⟩:=bG SS.out;go_wp2_with fail;go_roundw
        case rel=>
         refine ⟨k+1,by omega,by go_num,aV SC.out (aj (aj (aj (aj (aj (aj (aO v8 (some g)) _ _) _ _) _ _) _ _) _ _) _ _) hcg,?_,?_,HPt.out (by rw [HPl2.out];simp)⟩
         ·have:=HN.out;subst this;rw [cL k es _ HXk.out,cx _ _ _ (by rw [bU _ _ (by omega)];exact hlt)];exact ak (ak (ak (ak (ak (ak SO.out _ _) _ _) _ _) _ _) _ _) _ _
         ·exact (((((B8.setCell (p:=⟨g,_,none⟩) hg1 _).setCell (p:=⟨g,_,none⟩) hg1 _).setCell (p:=⟨g,_,none⟩) hg1 _).setCell (p:=⟨g,_,none⟩) hg1 _).setCell (p:=⟨g,_,none⟩) hg1 _).setCell (p:=⟨g,_,none⟩) hg1 _
        case measure=>simp [intOf];omega
       ·have hne':(sx != qv)=true:=by rw [bne_iff_ne];exact hne
        have hxf:X=false:=HPf.out (by rw [HPl2.out];simpa using hne);subst hxf;go_quiet ((go_at_call 81;exact Calls.quiet_of_same (HSet.out _)));go_wp2_with fail;exact bodyPost_ret (v:=.tuple #[.agg #[.int .i64 0,.int .i64 0,.slice none 0 0],.bool false]) (by simp [results,Tryz.results60,go_sem,d0,d1,d2]) rfl ⟨rfl,cA (below_drewN A7 _) (by omega) _ _ _⟩
     ·have hz:=HZb.out;simp only [ev,Bool.and_eq_true,beq_iff_eq] at hz;obtain ⟨⟨⟨⟨⟨rfl,rfl⟩,rfl⟩,rfl⟩,rfl⟩,rfl⟩:=hz;go_wp2_with fail;go_roundw
      case rel=>exact ⟨k+1,by omega,by go_num,(aa PC n5).out,by
       have:=HN.out;subst this;rw [fy k es HXk.out];exact ae PO.out n5,Below.step hb n5 (Nat.le_refl _),HPt.out (by simp [aB])⟩
      case measure=>simp [intOf];omega
    ·have hkn:k=n:=by omega
     subst hkn;have hxt:X=true:=by
      rw [<-HX.out];unfold aA;rw [HSM.out];simp only [Bool.true_and];exact bI _ false es 0 (fun j x hx=>by rw [Nat.zero_add];exact HA.out j x (by have:=(List.getElem?_eq_some_iff.1 hx).1;have:=HN.out;omega) hx)
     subst hxt;obtain ⟨⟨d0,d1,d2⟩,e0,e1,e2⟩:=ai P2.out;obtain ⟨⟨p0,p1,p2⟩,_,_,_⟩:=ai PC.out;have ne6:w.heap.size+1≠cb:=by omega
     go_wp2_with fail;refine bodyPost_ret (v:=.tuple #[.agg #[.int .i64 sets,.int .i64 ways,.slice (some ⟨g,0,none⟩) k k],.bool true]) (by simp [results,Tryz.results60,go_sem,d0,d1,d2]) rfl ⟨⟨g,by simp only;rw [HN.out],?_⟩,cA A3 (by omega) _ _ _⟩;simp only;rw [HN.out];have:=PO.out;have hq:=HN.out;subst hq;rw [dD] at this;exact ax (bg this (gb3 wr (w.heap.size+1) _ _ _) (by omega)) (by omega)
end
section
attribute [local go_sem ↓] Go.wp_at_zero Go.wp_at_succ
theorem mu (w:World) (g i:Nat) (x y z u v t:Value):w.grownBy ((((((w.setCell ⟨g,i,none⟩ x).setCell ⟨g,i+1,none⟩ y).setCell ⟨g,i+2,none⟩ z).setCell ⟨g,i+3,none⟩ u).setCell ⟨g,i+4,none⟩ v).setCell ⟨g,i+5,none⟩ t) (some g):=
 aj (aj (aj (aj (aj (aj (aO w (some g)) _ _) _ _) _ _) _ _) _ _) _ _
theorem jc (b o g n base:Nat) (t:TlbM) (e:EntM) (pick:Int) (w:World) (hn:t.es.length=n) (hn1:n<=1048576) (hs4:t.sets=1∨t.sets=2∨t.sets=4∨t.sets=8) (hw1:1<=t.ways) (hw4:t.ways<=4) (hnw:(n:Int)=t.sets*t.ways) (hbl:b<w.heap.size) (hbg:b≠g)
 (c0:w.cell? ⟨b,o,none⟩=some (.int .i64 t.sets)) (c1:w.cell? ⟨b,o+1,none⟩=some (.int .i64 t.ways)) (c2:w.cell? ⟨b,o+2,none⟩=some (.slice (some ⟨g,0,none⟩) n n)) (ho:w.ownsRow base 136 6 (.slice (some ⟨g,0,none⟩) n n) n (av t.es)) (ht0:0<=e.tag) (ht1:e.tag<=18446744073709551615) (hp0:0<=pick) (hp1:pick<=255):
 Calls Tryz.prog 108 #[.pointer (some ⟨b,o,none⟩),aW e,.int .i64 pick] w fun x w'=>x=.returned (.tuple #[])∧w'.ownsRow base 136 6 (.slice (some ⟨g,0,none⟩) n n) n (av (t.es.set (bD t e+cG t e pick) e))∧w.grownBy w' (some g):=by
 obtain ⟨sets,ways,es⟩:=t;obtain ⟨vv,lv,tg,asd,gl,pt⟩:=e;simp only at *;have HO:Hid (w.ownsRow base 136 6 (.slice (some ⟨g,0,none⟩) n n) n (av es)):=ho;have HN:Hid (es.length=n):=hn;have hg:=(aE ho).2.2;simp only at hg;clear ho hn;obtain ⟨sx,hsx⟩:∃sx,tg%sets=sx:=⟨_,rfl⟩;have hsb:0<=sx∧sx<sets:=by rw [<-hsx];exact ⟨Int.emod_nonneg _ (by omega),Int.emod_lt_of_pos _ (by omega)⟩
 obtain ⟨f,hf⟩:∃f:Nat,(f:Int)=sx*ways:=⟨(sx*ways).toNat,Int.toNat_of_nonneg (Int.mul_nonneg hsb.1 (by omega))⟩;have hfn:(f:Int)+ways<=n:=by
  rw [hnw,hf];have:(sx+1)*ways<=sets*ways:=Int.mul_le_mul_of_nonneg_right (by omega) (by omega);rw [Int.add_mul,Int.one_mul] at this;exact this
 have HFi:Hid (bD ⟨sets,ways,es⟩ ⟨vv,lv,tg,asd,gl,pt⟩=f):=by
  show _=_;unfold bD;simp only;rw [hsx,<-hf];simp
 have HWm:Hid (sx*ways=(f:Int)):=hf.symm;obtain ⟨P,hP⟩:∃P,cG ⟨sets,ways,es⟩ ⟨vv,lv,tg,asd,gl,pt⟩ pick=P:=⟨_,rfl⟩;have HW:Hid (cG ⟨sets,ways,es⟩ ⟨vv,lv,tg,asd,gl,pt⟩ pick=P):=hP;rw [HFi.out,hP];clear hP hnw;unfold aW;simp only;have n1:=(Below.refl w.heap.size w).alloc (Nat.le_refl _) (Obj.cells #[.int .i64 lv,.int .u64 tg,.int .u64 asd,.bool gl,.bool vv,.int .u64 pt] 136);have H1:Hid ((w.alloc (Obj.cells #[.int .i64 lv,.int .u64 tg,.int .u64 asd,.bool gl,.bool vv,.int .u64 pt] 136)).heap[w.heap.size]?=some (.cells #[.int .i64 lv,.int .u64 tg,.int .u64 asd,.bool gl,.bool vv,.int .u64 pt] 136 (0,0))):=heap_alloc_new w _;have l1:(w.alloc (Obj.cells #[.int .i64 lv,.int .u64 tg,.int .u64 asd,.bool gl,.bool vv,.int .u64 pt] 136)).heap.size=w.heap.size+1:=by simp
 go_enter Tryz.func108,Tryz.ntmps108;go_wp2_with fail;generalize w.alloc (Obj.cells #[.int .i64 lv,.int .u64 tg,.int .u64 asd,.bool gl,.bool vv,.int .u64 pt] 136)=v1 at n1 H1 l1 |-;have r0:v1.cell? ⟨b,o,none⟩=some (.int .i64 sets):=Below.cell2 n1 c0 hbl;have r1:v1.cell? ⟨b,o+1,none⟩=some (.int .i64 ways):=Below.cell2 n1 c1 hbl;obtain ⟨⟨x0,x1,x2,x3,x4,x5⟩,_⟩:=bG H1.out;have HSt:Hid (∀q,Calls Tryz.prog 81 #[.pointer (some ⟨b,o,none⟩),.int .u64 tg] (v1.drewN q) fun e w'=>e=.returned (.int .i64 sx)∧w'=v1.drewN q):=fun q=>by
  have:=fs b o sets tg (v1.drewN q) hs4 r0 ht0 ht1;rw [hsx] at this;exact this
 clear hsx hf;go_cut [6] (fun s6 wx=>s6=.int .i64 f∧∃q,wx=v1.drewN q)
 case first=>
  go_quiet ((go_at_call 81;exact Calls.quiet_of_same (HSt.out _)));go_wp2_with fail;go_meet;exact ⟨by rw [HWm.out];(try (rw [show wrap64 (f:Int)=f from by unfold wrap64;omega])),nq,rfl⟩
 case rest=>
  obtain ⟨rfl,q,rfl⟩:=hcut;have n2:Below w.heap.size w (v1.drewN q):=below_drewN n1 q;have H2:Hid ((v1.drewN q).heap[w.heap.size]?=some (.cells #[.int .i64 lv,.int .u64 tg,.int .u64 asd,.bool gl,.bool vv,.int .u64 pt] 136 (0,0))):=H1;have l2:(v1.drewN q).heap.size=w.heap.size+1:=l1;generalize v1.drewN q=v2 at n2 H2 l2 |-;have O2:Hid (v2.ownsRow base 136 6 (.slice (some ⟨g,0,none⟩) n n) n (av es)):=ae HO.out n2;clear r0 r1 x0 x1 x2 x3 x4 x5 HSt H1 n1 l1 HWm;have r1:v2.cell? ⟨b,o+1,none⟩=some (.int .i64 ways):=Below.cell2 n2 c1 hbl;have r2:v2.cell? ⟨b,o+2,none⟩=some (.slice (some ⟨g,0,none⟩) n n):=Below.cell2 n2 c2 hbl;obtain ⟨⟨x0,x1,x2,x3,x4,x5⟩,_⟩:=bG H2.out;have hll:(av es).length=n*6:=by rw [bK,HN.out]
  have hgw:g≠w.heap.size:=by omega
  have hwg:w.heap.size≠g:=by omega
  go_wp2_with fail
  go_loop [7] (fun i=>∃q:Nat,f<=q∧(q:Int)<=f+ways∧i=.int .i64 q∧Hid (∀q':Nat,f<=q'->q'<q->(es[q']?.getD aZ).valid=true)) (fun i=>f+4-(intOf i).toNat)
  case atStart=>exact ⟨f,Nat.le_refl _,by omega,rfl,fun q' h h'=>absurd h' (by omega)⟩
  case round=>
   obtain ⟨q,hq1,hq2,rfl,HQ⟩:=hrel;by_cases hqt:(q:Int)<f+ways
   ·have hqn:q<n:=by omega
    obtain ⟨⟨wv,wl,wt,wa,wg,wp⟩,hx⟩:∃x,es[q]?=some x:=⟨_,List.getElem?_eq_getElem (by rw [HN.out];exact hqn)⟩;have HXq:Hid (es[q]?=some ⟨wv,wl,wt,wa,wg,wp⟩):=hx;have g4:v2.cell? ⟨g,q*6+4,none⟩=some (.bool wv):=hU O2.out HN.out q _ hx 4 _ (by omega) rfl;clear hx;cases wv
    ·have hP:P=q-f:=by
      rw [<-HW.out];unfold cG;simp only;rw [HFi.out,dF es f ways.toNat 0 (q-f) (by omega) (fun j hj=>by rw [Nat.zero_add];exact HQ.out (f+j) (by omega) (by omega)) (by rw [Nat.zero_add,show f+(q-f)=q by omega,HXq.out];rfl)];simp
     subst hP;go_wp2_with fail;have q0:=an O2.out (q*6) _ (List.getElem?_eq_getElem (by omega));have q1:=an O2.out (q*6+1) _ (List.getElem?_eq_getElem (by omega));have q2:=an O2.out (q*6+2) _ (List.getElem?_eq_getElem (by omega));have q3:=an O2.out (q*6+3) _ (List.getElem?_eq_getElem (by omega));have q4z:=an O2.out (q*6+4) _ (List.getElem?_eq_getElem (by omega));have q5:=an O2.out (q*6+5) _ (List.getElem?_eq_getElem (by omega));generalize (av es)[q*6]'_=y0 at q0;generalize (av es)[q*6+1]'_=y1 at q1;generalize (av es)[q*6+2]'_=y2 at q2;generalize (av es)[q*6+3]'_=y3 at q3;generalize (av es)[q*6+4]'_=y4 at q4z;generalize (av es)[q*6+5]'_=y5 at q5;have s0:=ar O2.out (q*6);have s1:=ar O2.out (q*6+1);have s2:=ar O2.out (q*6+2);have s3:=ar O2.out (q*6+3);have s4:=ar O2.out (q*6+4);have s5:=ar O2.out (q*6+5);go_still_tail 7,(by kernel_rfl);go_wp2_with fail;refine bodyPost_ret (v:=.tuple #[]) (by simp [results,Tryz.results108,go_sem]) rfl ⟨rfl,?_,?_⟩
     ·rw [show f+(q-f)=q by omega,cx es q _ (by rw [HN.out];exact hqn)];exact dd (ak (ak (ak (ak (ak (ak O2.out _ _) _ _) _ _) _ _) _ _) _ _)
     ·exact bR (fT n2) (bR (mu v2 g (q*6) _ _ _ _ _ _) (fI _ _))
    ·go_wp2_with fail
     go_round
     case rel=>exact ⟨q+1,by omega,by omega,by go_num,fun q' h1 h2=>by
      by_cases e:q'=q
      ·subst e;rw [HXq.out];rfl
      ·exact HQ.out q' h1 (by omega)⟩
     case measure=>simp [intOf];omega
   ·have hP:P=(pick%ways).toNat:=by
     rw [<-HW.out];unfold cG;simp only;rw [HFi.out,dG es f ways.toNat 0 (fun j hj=>by rw [Nat.zero_add];exact HQ.out (f+j) (by omega) (by omega))];rfl
    have hpm:0<=pick%ways∧pick%ways<ways:=⟨Int.emod_nonneg _ (by omega),Int.emod_lt_of_pos _ (by omega)⟩;obtain ⟨r,hr⟩:∃r:Nat,(r:Int)=pick%ways:=⟨(pick%ways).toNat,Int.toNat_of_nonneg hpm.1⟩;have hPr:P=r:=by rw [hP,<-hr];simp
    subst hPr;clear hP hpm;have hrm:pick%ways=(P:Int):=hr.symm;have hrb:(f:Int)+P<n:=by
     have:pick%ways<ways:=Int.emod_lt_of_pos _ (by omega);omega
    have hw0:¬(ways=0):=by omega
    have htm:pick.tmod ways=(P:Int):=by rw [Int.tmod_eq_emod_of_nonneg hp0];exact hr.symm
    clear hr hrm;obtain ⟨d,hd⟩:∃d:Nat,f+P=d:=⟨_,rfl⟩;have hdn:d<n:=by omega
    have HD:Hid (f+P=d):=hd;have hfp:(f:Int)+(P:Int)=(d:Int):=by omega
    clear hd;have hwd:IntKind.i64.wrap (d:Int)=(d:Int):=(IntKind.wrap_i64 _).trans (by omega);go_wp2_with fail;have q0:=an O2.out (d*6) _ (List.getElem?_eq_getElem (by omega));have q1:=an O2.out (d*6+1) _ (List.getElem?_eq_getElem (by omega));have q2:=an O2.out (d*6+2) _ (List.getElem?_eq_getElem (by omega));have q3:=an O2.out (d*6+3) _ (List.getElem?_eq_getElem (by omega));have q4:=an O2.out (d*6+4) _ (List.getElem?_eq_getElem (by omega));have q5:=an O2.out (d*6+5) _ (List.getElem?_eq_getElem (by omega));generalize (av es)[d*6]'_=y0 at q0;generalize (av es)[d*6+1]'_=y1 at q1;generalize (av es)[d*6+2]'_=y2 at q2;generalize (av es)[d*6+3]'_=y3 at q3;generalize (av es)[d*6+4]'_=y4 at q4;generalize (av es)[d*6+5]'_=y5 at q5;have s0:=ar O2.out (d*6);have s1:=ar O2.out (d*6+1);have s2:=ar O2.out (d*6+2);have s3:=ar O2.out (d*6+3);have s4:=ar O2.out (d*6+4);have s5:=ar O2.out (d*6+5);go_still_tail 14,(by kernel_rfl);go_wp2_with fail;go_end0;refine ⟨rfl,?_,?_⟩
    ·rw [HD.out,cx es d _ (by rw [HN.out];exact hdn)];exact dd (ak (ak (ak (ak (ak (ak O2.out _ _) _ _) _ _) _ _) _ _) _ _)
    ·exact bR (fT n2) (bR (mu v2 g (d*6) _ _ _ _ _ _) (fI _ _))
end
theorem gP (b o g n base:Nat) (t:TlbM) (pt lv va asd pick:Int) (w:World) (hn:t.es.length=n) (hn1:n<=1048576) (hs4:t.sets=1∨t.sets=2∨t.sets=4∨t.sets=8) (hw1:1<=t.ways) (hw4:t.ways<=4) (hnw:(n:Int)=t.sets*t.ways) (hbl:b<w.heap.size) (hbg:b≠g)
 (c0:w.cell? ⟨b,o,none⟩=some (.int .i64 t.sets)) (c1:w.cell? ⟨b,o+1,none⟩=some (.int .i64 t.ways)) (c2:w.cell? ⟨b,o+2,none⟩=some (.slice (some ⟨g,0,none⟩) n n)) (ho:w.ownsRow base 136 6 (.slice (some ⟨g,0,none⟩) n n) n (av t.es))
 (hl:lv=0∨lv=1∨lv=2) (hv0:0<=va) (hv1:va<=18446744073709551615) (h0:0<=pt) (h1:pt<=18446744073709551615) (hp0:0<=pick) (hp1:pick<=255):
 Calls Tryz.prog 90 #[.pointer (some ⟨b,o,none⟩),.int .u64 pt,.int .i64 lv,.int .u64 va,.int .u64 asd,.int .i64 pick] w fun x w'=>x=.returned (.tuple #[])∧
  w'.ownsRow base 136 6 (.slice (some ⟨g,0,none⟩) n n) n (av (t.es.set (bD t ⟨true,lv,bP va lv,asd,aI pt 32,pt⟩+cG t ⟨true,lv,bP va lv,asd,aI pt 32,pt⟩ pick) ⟨true,lv,bP va lv,asd,aI pt 32,pt⟩))∧w.grownBy w' (some g):=by
 have hgl:=(aE ho).2.2;simp only at hgl;have HO:Hid (w.ownsRow base 136 6 (.slice (some ⟨g,0,none⟩) n n) n (av t.es)):=ho;have htb:=dX va lv hl;have HR:Hid (∀w,Calls Tryz.prog 106 #[.int .u64 pt,.int .i64 lv,.int .u64 va,.int .u64 asd] w fun e w'=>e=.returned (.agg #[.int .i64 lv,.int .u64 (bP va lv),.int .u64 asd,.bool (aI pt 32)])∧Below w.heap.size w w'):=fun w=>fC pt lv va asd w hl hv0 hv1 h0 h1;generalize bP va lv=tm at *;generalize aI pt 32=g5 at *;clear ho;go_enter Tryz.func90,Tryz.ntmps90;go_wp2_with fail;refine (HR.out w).mono ?_;rintro e v1 ⟨rfl,n1⟩;have n2:=n1.alloc n1.size (Obj.cells #[.int .i64 lv,.int .u64 tm,.int .u64 asd,.bool g5] 134);go_wp2_with fail;generalize v1.alloc (Obj.cells #[.int .i64 lv,.int .u64 tm,.int .u64 asd,.bool g5] 134)=v2 at n2 |-;refine (jc b o g n base t ⟨true,lv,tm,asd,g5,pt⟩ pick v2 hn hn1 hs4 hw1 hw4 hnw (Nat.lt_of_lt_of_le hbl n2.size) hbg (Below.cell2 n2 c0 hbl) (Below.cell2 n2 c1 hbl) (Below.cell2 n2 c2 hbl) (ae HO.out n2) htb.1 (by simp only;omega) hp0 hp1).mono ?_;rintro e v3 ⟨rfl,o3,m3⟩;go_wp2_with fail;go_end0;exact ⟨rfl,o3,bR (fT n2) m3⟩
section
attribute [local go_sem ↓] Go.wp_at_zero Go.wp_at_succ
theorem fK (mode:Int) (sum mxr:Bool) (satp kind:Int) (w:World):
 Calls Tryz.prog 35 #[bC mode sum mxr satp,.int .i64 kind] w fun e w'=>e=.returned (.bool (decide (0<=kind∧kind<=2∧0<=mode∧mode<=2)))∧Below w.heap.size w w':=by
 unfold bC;have b1:=(Below.refl w.heap.size w).alloc (Nat.le_refl _) (Obj.cells #[.int .i64 mode,.bool sum,.bool mxr,.int .u64 satp] 41);obtain ⟨kb,hkb⟩:∃kb,decide (0<=kind∧kind<=2∧0<=mode∧mode<=2)=kb:=⟨_,rfl⟩;rw [hkb];have HK:Hid (decide (0<=kind∧kind<=2∧0<=mode∧mode<=2)=kb):=hkb;clear hkb;by_cases h1:0<=kind
 ·by_cases h2:kind<=2
  ·by_cases h3:0<=mode
   ·go_enter Tryz.func35,Tryz.ntmps35;go_wp2_with fail;go_ret;exact ⟨ah (by rw [<-HK.out];simp [h1,h2,h3]),b1⟩
   ·go_enter Tryz.func35,Tryz.ntmps35;go_wp2_with fail;go_ret;exact ⟨ah (by rw [<-HK.out];symm;rw [decide_eq_false_iff_not];omega),b1⟩
  ·go_enter Tryz.func35,Tryz.ntmps35;go_wp2_with fail;go_ret;exact ⟨ah (by rw [<-HK.out];symm;rw [decide_eq_false_iff_not];omega),b1⟩
 ·go_enter Tryz.func35,Tryz.ntmps35;go_wp2_with fail;go_ret;exact ⟨ah (by rw [<-HK.out];symm;rw [decide_eq_false_iff_not];omega),b1⟩
theorem gD (mode:Int) (sum mxr:Bool) (satp:Int) (w:World) (h0:0<=satp) (h1:satp<=18446744073709551615):
 Calls Tryz.prog 62 #[bC mode sum mxr satp] w fun e w'=>e=.returned (.bool (onM mode satp))∧Below w.heap.size w w':=by
 unfold bC;have b1:=(Below.refl w.heap.size w).alloc (Nat.le_refl _) (Obj.cells #[.int .i64 mode,.bool sum,.bool mxr,.int .u64 satp] 41);have HS:Hid (satp/1152921504606846976=satp/1152921504606846976%16):=show _=_ by omega
 cases hs:(satp/1152921504606846976 == 8)
 ·go_enter Tryz.func62,Tryz.ntmps62;go_wp2_with fail;go_ret;exact ⟨ah (by rw [onM,<-HS.out,hs];rfl),b1⟩
 ·cases hm0:(mode == 0)
  ·go_enter Tryz.func62,Tryz.ntmps62;go_wp2_with fail;go_ret;exact ⟨ah (by rw [onM,<-HS.out,hs,hm0];rfl),b1⟩
  ·go_enter Tryz.func62,Tryz.ntmps62;go_wp2_with fail;go_ret;exact ⟨ah (by rw [onM,<-HS.out,hs,hm0];rfl),b1⟩
theorem cQ (pte level mode:Int) (sum mxr:Bool) (satp kind va:Int) (w:World) (h0:0<=pte) (h1:pte<=18446744073709551615) (hv:0<=va) (hv':va<=18446744073709551615) (hl:level=0∨level=1∨level=2):
 Calls Tryz.prog 68 #[.int .u64 pte,.int .i64 level,bC mode sum mxr satp,.int .i64 kind,.int .u64 va] w fun e w'=>
  e=.returned (.tuple #[.int .u64 (if aY pte kind mode sum mxr=true then cz pte level va else 0),bv (if aY pte kind mode sum mxr=true then 1 else 2)])∧Below w.heap.size w w':=by
 unfold bC;have b1:=(Below.refl w.heap.size w).alloc (Nat.le_refl _) (Obj.cells #[.int .i64 mode,.bool sum,.bool mxr,.int .u64 satp] 41);cases hg:aY pte kind mode sum mxr
 ·have HG:Hid (aY pte kind mode sum mxr=false):=hg;clear hg;rw [if_neg (by simp),if_neg (by simp)];go_enter Tryz.func68,Tryz.ntmps68;go_wp2_with (go_at_call 91;refine (ea pte kind mode sum mxr _ h0 h1).mono ?_;rintro e w' ⟨rfl,rfl⟩;rw [HG.out]);exact bodyPost_ret (v:=.tuple #[.int .u64 0,.iface 128 (.agg #[])]) (by simp [results,Tryz.results68,go_sem]) rfl ⟨rfl,b1⟩
 ·have HG:Hid (aY pte kind mode sum mxr=true):=hg;clear hg;rw [if_pos rfl,if_pos rfl];go_enter Tryz.func68,Tryz.ntmps68;go_wp2_with (first
   | (go_at_call 91;refine (ea pte kind mode sum mxr _ h0 h1).mono ?_;rintro e w' ⟨rfl,rfl⟩;rw [HG.out])
   | (go_at_call 92;refine (lV pte level va _ h0 h1 hl hv hv').mono ?_;rintro e w' ⟨rfl,rfl⟩))
  exact bodyPost_ret (v:=.tuple #[.int .u64 (cz pte level va),.nilIface]) (by simp [results,Tryz.results68,go_sem]) rfl ⟨rfl,b1⟩
theorem mM (w:World):(binOp .neq 91 (.iface 128 (.agg #[])) .nilIface).run Tryz.prog w=.ok (.bool true) w:=by kernel_rfl
theorem mN (w:World):(binOp .neq 91 (.iface 139 (.agg #[])) .nilIface).run Tryz.prog w=.ok (.bool true) w:=by kernel_rfl
theorem mO (w:World):(binOp .neq 91 .nilIface .nilIface).run Tryz.prog w=.ok (.bool false) w:=by kernel_rfl
end
end Go.Proofs.YtfgogedgolgnaaaGreat
