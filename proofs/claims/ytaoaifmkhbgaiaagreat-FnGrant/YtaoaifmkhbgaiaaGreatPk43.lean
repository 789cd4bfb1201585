import Derived.BigRegion
import Derived.Deep.Cut
import Derived.Deep.DeepCutAuto
import Derived.Test.YtaoaifmkhbgaiaaGreatPk41
import Derived.Test.YtaoaifmkhbgaiaaGreatPk42
import Derived.Test.YtaoaifmkhbgaiaaGreatPk06
namespace Go.Proofs.YtaoaifmkhbgaiaaGreat
open Go.RowKit
set_option linter.unusedVariables false
attribute [local go_sem ↓] Go.wp_at_zero Go.wp_at_succ
theorem Tryz.infoSlotL:(Tryz.prog.info? 173).map (fun i=>(i.zero,i.size,i.bytes))=some (some (.agg #[.int .i64 0,.int .u64 0,.int .u64 0,.bool false,.bool false,.int .u64 0]),6,48):=by kernel_rfl
theorem Tryz.infoSlotP:(Tryz.prog.info? 183).map (fun i=>(i.zero,i.size,i.bytes))=some (some (.agg #[.int .i64 0,.int .u64 0,.int .u64 0,.bool false,.bool false,.int .u64 0]),6,48):=by kernel_rfl
def yO (base:Nat) (w:World) (e:Ending) (t:TlbM):Prop:=
 ∃g,e=.returned (.tuple #[.agg #[.int .i64 t.sets,.int .i64 t.ways,.slice (some ⟨g,0,none⟩) t.es.length t.es.length],.bool true])∧w.ownsRow base 173 6 (.slice (some ⟨g,0,none⟩) t.es.length t.es.length) t.es.length (aH t.es)
def yP (base:Nat) (w:World) (e:Ending) (t:TlbM):Prop:=
 ∃g,e=.returned (.tuple #[.agg #[.int .i64 t.sets,.int .i64 t.ways,.slice (some ⟨g,0,none⟩) t.es.length t.es.length],.bool true])∧w.ownsRow base 183 6 (.slice (some ⟨g,0,none⟩) t.es.length t.es.length) t.es.length (aH t.es)
def zJ (z0:Nat) (z1:Nat):Prop:=∀(n:Nat) (hn:n≤1048576),∃cs:Array Value,cs.toList=aH (List.replicate n cL)∧∀u:World,(Instr.makeSlice z0 (.int .i64 (n:Int)) (.int .i64 (n:Int))).run Tryz.prog u=.ok (.slice (some ⟨u.heap.size,0,none⟩) n n) (u.alloc (.cells cs z1))
set_option maxHeartbeats 1600000 in
theorem AG:zJ 104 173∧zJ 107 183:=by
 refine ⟨?_,?_⟩;have mL:Hid True:=trivial
 rotate_left
 have mP:Hid True:=trivial
 rotate_left
 all_goals
  intro n hn;first
   | (replace mL:=mL;obtain ⟨i0,hi,hz0,hz1,hz2⟩:=info_parts Tryz.infoSlotL)
   | (replace mP:=mP;obtain ⟨i0,hi,hz0,hz1,hz2⟩:=info_parts Tryz.infoSlotP)
  refine ⟨madeCells (Value.agg #[.int .i64 0,.int .u64 0,.int .u64 0,.bool false,.bool false,.int .u64 0]).cells (n*6),?_,fun u=>?_⟩
  ·exact zr cL n
  ·first
    | (replace mL:=mL;have:=run_make (P:=Tryz.prog) u 104 173 i0 _ Tryz.underlying104 hi hz0 .i64 .i64 n n (by omega) (Int.le_refl _) (by rw [hz2];omega) (by omega))
    | (replace mP:=mP;have:=run_make (P:=Tryz.prog) u 107 183 i0 _ Tryz.underlying107 hi hz0 .i64 .i64 n n (by omega) (Int.le_refl _) (by rw [hz2];omega) (by omega))
   rw [hz1] at this;simpa using this
set_option maxRecDepth 20000 in
set_option maxHeartbeats 3200000 in
theorem eO:(∀(v:Value) (t:TlbM) (w:World) (h:TlbAt w v t),Calls Tryz.prog 95 #[v] w fun e w'=>cond (aG t false) (yO w.heap.size w' e t) (e=.returned (.tuple #[.agg #[.int .i64 0,.int .i64 0,.slice none 0 0],.bool false]))∧Below w.heap.size w w')∧
 (∀(v:Value) (t:TlbM) (w:World) (h:TlbAt w v t),Calls Tryz.prog 98 #[v] w fun e w'=>cond (aG t true) (yP w.heap.size w' e t) (e=.returned (.tuple #[.agg #[.int .i64 0,.int .i64 0,.slice none 0 0],.bool false]))∧Below w.heap.size w w'):=by
 refine ⟨?_,?_⟩;have mL:Hid True:=trivial
 rotate_left
 have mP:Hid True:=trivial
 rotate_left
 all_goals
  intro v t w h;obtain ⟨a,cap,rfl,hr,he,hs,hw,hl,hlc,hcm,hnil,hsp⟩:=h;obtain ⟨sets,ways,es⟩:=t;obtain ⟨n,hn⟩:∃n,es.length=n:=⟨_,rfl⟩;simp only at hr he hs hw hl hlc hnil ⊢;have HN:Hid (es.length=n):=hn;rw [hn] at hr hl hlc hnil ⊢;have HR:Hid (RowC w a n 6 (aL es)):=hr;have HE:Hid (∀e∈es,dq e):=he;first
   | (replace mL:=mL;obtain ⟨X,hX⟩:∃X,aG ⟨sets,ways,es⟩ false=X:=⟨_,rfl⟩)
   | (replace mP:=mP;obtain ⟨X,hX⟩:∃X,aG ⟨sets,ways,es⟩ true=X:=⟨_,rfl⟩)
  first
   | (replace mL:=mL;have HX:Hid (aG ⟨sets,ways,es⟩ false=X):=hX)
   | (replace mP:=mP;have HX:Hid (aG ⟨sets,ways,es⟩ true=X):=hX)
  rw [hX];clear hX hr he hnil hsp hn;first
   | (replace mL:=mL;have n1:=((Below.refl w.heap.size w).alloc (Nat.le_refl _) (Obj.cells #[.int .i64 sets,.int .i64 ways,.slice a n cap] 28)).alloc (by simp) (Obj.cells #[.int .i64 0,.int .i64 0,.slice none 0 0] 106))
   | (replace mP:=mP;have n1:=((Below.refl w.heap.size w).alloc (Nat.le_refl _) (Obj.cells #[.int .i64 sets,.int .i64 ways,.slice a n cap] 28)).alloc (by simp) (Obj.cells #[.int .i64 0,.int .i64 0,.slice none 0 0] 109))
  first
   | (replace mL:=mL;have H1:Hid (((w.alloc (Obj.cells #[.int .i64 sets,.int .i64 ways,.slice a n cap] 28)).alloc (Obj.cells #[.int .i64 0,.int .i64 0,.slice none 0 0] 106)).heap[w.heap.size]?=some (.cells #[.int .i64 sets,.int .i64 ways,.slice a n cap] 28 (0,0))):=by
        show _=_
        rw [heap_alloc_old _ _ (by simp)]
        exact heap_alloc_new w _)
   | (replace mP:=mP;have H1:Hid (((w.alloc (Obj.cells #[.int .i64 sets,.int .i64 ways,.slice a n cap] 28)).alloc (Obj.cells #[.int .i64 0,.int .i64 0,.slice none 0 0] 109)).heap[w.heap.size]?=some (.cells #[.int .i64 sets,.int .i64 ways,.slice a n cap] 28 (0,0))):=by
        show _=_
        rw [heap_alloc_old _ _ (by simp)]
        exact heap_alloc_new w _)
  first
   | (replace mL:=mL;have H2:Hid (((w.alloc (Obj.cells #[.int .i64 sets,.int .i64 ways,.slice a n cap] 28)).alloc (Obj.cells #[.int .i64 0,.int .i64 0,.slice none 0 0] 106)).heap[w.heap.size+1]?=some (.cells #[.int .i64 0,.int .i64 0,.slice none 0 0] 106 (0,0))):=by
        have:=heap_alloc_new (w.alloc (Obj.cells #[.int .i64 sets,.int .i64 ways,.slice a n cap] 28)) (Obj.cells #[.int .i64 0,.int .i64 0,.slice none 0 0] 106)
        simp only [World.size_alloc] at this
        exact this)
   | (replace mP:=mP;have H2:Hid (((w.alloc (Obj.cells #[.int .i64 sets,.int .i64 ways,.slice a n cap] 28)).alloc (Obj.cells #[.int .i64 0,.int .i64 0,.slice none 0 0] 109)).heap[w.heap.size+1]?=some (.cells #[.int .i64 0,.int .i64 0,.slice none 0 0] 109 (0,0))):=by
        have:=heap_alloc_new (w.alloc (Obj.cells #[.int .i64 sets,.int .i64 ways,.slice a n cap] 28)) (Obj.cells #[.int .i64 0,.int .i64 0,.slice none 0 0] 109)
        simp only [World.size_alloc] at this
        exact this)
  first
   | (replace mL:=mL;have l1:w.heap.size+1<((w.alloc (Obj.cells #[.int .i64 sets,.int .i64 ways,.slice a n cap] 28)).alloc (Obj.cells #[.int .i64 0,.int .i64 0,.slice none 0 0] 106)).heap.size:=by simp)
   | (replace mP:=mP;have l1:w.heap.size+1<((w.alloc (Obj.cells #[.int .i64 sets,.int .i64 ways,.slice a n cap] 28)).alloc (Obj.cells #[.int .i64 0,.int .i64 0,.slice none 0 0] 109)).heap.size:=by simp)
  obtain ⟨sb,hsb⟩:∃sb,decide ((sets=1∨sets=2∨sets=4∨sets=8)∧1≤ways∧ways≤4∧(n:Int)=sets*ways)=sb:=⟨_,rfl⟩;have HSb:Hid (decide ((sets=1∨sets=2∨sets=4∨sets=8)∧1≤ways∧ways≤4∧(n:Int)=sets*ways)=sb):=hsb;have HSM:Hid (ip ⟨sets,ways,es⟩=sb):=by show _=_;unfold ip;simp only;rw [HN.out];exact hsb
  clear hsb;first
   | (replace mL:=mL;go_enter Tryz.func95,Tryz.ntmps95)
   | (replace mP:=mP;go_enter Tryz.func98,Tryz.ntmps98)
  go_wp2_with fail;first
   | (replace mL:=mL;generalize ((w.alloc (Obj.cells #[.int .i64 sets,.int .i64 ways,.slice a n cap] 28)).alloc (Obj.cells #[.int .i64 0,.int .i64 0,.slice none 0 0] 106))=v1 at n1 H1 H2 l1 ⊢)
   | (replace mP:=mP;generalize ((w.alloc (Obj.cells #[.int .i64 sets,.int .i64 ways,.slice a n cap] 28)).alloc (Obj.cells #[.int .i64 0,.int .i64 0,.slice none 0 0] 109))=v1 at n1 H1 H2 l1 ⊢)
  refine (sj sets ways a n cap v1 hl hs hw).mono ?_;rw [HSb.out];rintro e v2 ⟨rfl,n2⟩;have A2:=Below.step n1 n2 (Nat.le_refl _);have K1:=ae H1 n2;have K2:=ae H2 n2;have l2:w.heap.size+1<v2.heap.size:=Nat.lt_of_lt_of_le l1 n2.size;clear n1 n2 H1 H2 l1;obtain ⟨⟨c0,c1,c2⟩,_,_,_⟩:=ao K1.out;obtain ⟨⟨d0,d1,d2⟩,e0,e1,e2⟩:=ao K2.out;cases sb
  ·have hxf:X=false:=by rw [←HX.out];unfold aG;rw [HSM.out];rfl
   subst hxf;go_wp2_with fail;first
    | (replace mL:=mL;exact bodyPost_ret (v:=.tuple #[.agg #[.int .i64 0,.int .i64 0,.slice none 0 0],.bool false]) (by simp [results,Tryz.results95,go_sem,d0,d1,d2]) rfl ⟨rfl,eg A2 (by omega) _ _ _⟩)
    | (replace mP:=mP;exact bodyPost_ret (v:=.tuple #[.agg #[.int .i64 0,.int .i64 0,.slice none 0 0],.bool false]) (by simp [results,Tryz.results98,go_sem,d0,d1,d2]) rfl ⟨rfl,eg A2 (by omega) _ _ _⟩)
  ·have hsh:(sets=1∨sets=2∨sets=4∨sets=8)∧1≤ways∧ways≤4∧(n:Int)=sets*ways:=by simpa using HSb.out
   obtain ⟨hs4,hw1,hw4,hnw⟩:=hsh;have hn0:0<n:=by
    have:0<sets*ways:=Int.mul_pos (by omega) (by omega);omega
   first
    | (replace mL:=mL;obtain ⟨cs,hcs,hmk⟩:=AG.1 n hl)
    | (replace mP:=mP;obtain ⟨cs,hcs,hmk⟩:=AG.2 n hl)
   have HCS:Hid (cs.toList=aH (List.replicate n cL)):=hcs;clear hcs HSb;have HNw:Hid ((n:Int)=sets*ways):=hnw;clear hnw;have ne1:v2.heap.size≠w.heap.size:=by omega
   have ne2:v2.heap.size≠w.heap.size+1:=by omega
   have ne3:w.heap.size<v2.heap.size:=by omega
   have ne4:w.heap.size≠v2.heap.size:=by omega
   have ne5:w.heap.size≠v2.heap.size+1:=by omega
   go_wp2_with fail;first
    | (replace mL:=mL;go_cut [4] (fun s4 wx=>∃cb g,s4=.pointer (some ⟨cb,0,none⟩)∧v2.heap.size≤cb∧cb<wx.heap.size∧cb≠g∧wx.heap[cb]?=some (.cells #[.int .i64 sets,.int .i64 ways,.slice (some ⟨g,0,none⟩) n n] 106 (0,0))∧wx.ownsRow v2.heap.size 173 6 (.slice (some ⟨g,0,none⟩) n n) n (aH (List.replicate n cL))∧Below v2.heap.size v2 wx))
    | (replace mP:=mP;go_cut [4] (fun s4 wx=>∃cb g,s4=.pointer (some ⟨cb,0,none⟩)∧v2.heap.size≤cb∧cb<wx.heap.size∧cb≠g∧wx.heap[cb]?=some (.cells #[.int .i64 sets,.int .i64 ways,.slice (some ⟨g,0,none⟩) n n] 109 (0,0))∧wx.ownsRow v2.heap.size 183 6 (.slice (some ⟨g,0,none⟩) n n) n (aH (List.replicate n cL))∧Below v2.heap.size v2 wx))
   case first=>
    go_region
    ·go_wp2_with fail;go_meet;first
      | (replace mL:=mL;obtain ⟨q1,q2,q3,q4⟩:=ve v2 106 173 #[.int .i64 sets,.int .i64 ways,.slice (some ⟨v2.heap.size,0,none⟩) n n] cs _ n HCS.out (by rw [eR];simp) (by unfold maxLen;omega))
      | (replace mP:=mP;obtain ⟨q1,q2,q3,q4⟩:=ve v2 109 183 #[.int .i64 sets,.int .i64 ways,.slice (some ⟨v2.heap.size,0,none⟩) n n] cs _ n HCS.out (by rw [eR];simp) (by unfold maxLen;omega))
     exact ⟨_,_,rfl,by omega,q4,by omega,q1,q2,q3⟩
    ·go_wp2_with fail;go_meet;first
      | (replace mL:=mL;obtain ⟨q1,q2,q3,q4⟩:=vf v2 106 173 #[.int .i64 sets,.int .i64 ways,.slice (some ⟨v2.heap.size+1,0,none⟩) n n] cs _ n HCS.out (by rw [eR];simp) (by unfold maxLen;omega))
      | (replace mP:=mP;obtain ⟨q1,q2,q3,q4⟩:=vf v2 109 183 #[.int .i64 sets,.int .i64 ways,.slice (some ⟨v2.heap.size+1,0,none⟩) n n] cs _ n HCS.out (by rw [eR];simp) (by unfold maxLen;omega))
     exact ⟨_,_,rfl,Nat.le_refl _,q4,by omega,q1,q2,q3⟩
   case rest=>
    obtain ⟨cb,g,rfl,hcb,hcl,hcg,hC,hO,hbl⟩:=hcut;first
     | (replace mL:=mL;have HC:Hid (wc.heap[cb]?=some (.cells #[.int .i64 sets,.int .i64 ways,.slice (some ⟨g,0,none⟩) n n] 106 (0,0))):=hC)
     | (replace mP:=mP;have HC:Hid (wc.heap[cb]?=some (.cells #[.int .i64 sets,.int .i64 ways,.slice (some ⟨g,0,none⟩) n n] 109 (0,0))):=hC)
    first
     | (replace mL:=mL;have HO:Hid (wc.ownsRow v2.heap.size 173 6 (.slice (some ⟨g,0,none⟩) n n) n (aH (List.replicate n cL))):=hO)
     | (replace mP:=mP;have HO:Hid (wc.ownsRow v2.heap.size 183 6 (.slice (some ⟨g,0,none⟩) n n) n (aH (List.replicate n cL))):=hO)
    have hgg:=bI hO;obtain ⟨_,hg1,hg2⟩:=hgg;simp only at hg1 hg2;clear hC hO c0 c1 c2 d0 d1 d2 e0 e1 e2;have L1:=ae K1 hbl;obtain ⟨⟨c0,c1,c2⟩,_,_,_⟩:=ao L1.out;go_wp2_with fail;first
     | (replace mL:=mL;go_loopw [25] (fun i wr=>∃k:Nat,k≤n∧i=.int .i64 k∧wr.heap[cb]?=some (.cells #[.int .i64 sets,.int .i64 ways,.slice (some ⟨g,0,none⟩) n n] 106 (0,0))∧wr.ownsRow v2.heap.size 173 6 (.slice (some ⟨g,0,none⟩) n n) n (aH (cS k n es))∧Below v2.heap.size v2 wr∧Hid (∀j x,j<k→es[j]?=some x→cx ⟨sets,ways,es⟩ false j x=true)) (fun i _=>n-(intOf i).toNat))
     | (replace mP:=mP;go_loopw [25] (fun i wr=>∃k:Nat,k≤n∧i=.int .i64 k∧wr.heap[cb]?=some (.cells #[.int .i64 sets,.int .i64 ways,.slice (some ⟨g,0,none⟩) n n] 109 (0,0))∧wr.ownsRow v2.heap.size 183 6 (.slice (some ⟨g,0,none⟩) n n) n (aH (cS k n es))∧Below v2.heap.size v2 wr∧Hid (∀j x,j<k→es[j]?=some x→cx ⟨sets,ways,es⟩ true j x=true)) (fun i _=>n-(intOf i).toNat))
    case atStart=>exact ⟨0,Nat.zero_le _,rfl,HC.out,by rw [oJ];exact HO.out,hbl,fun j x hj=>absurd hj (by omega)⟩
    case round=>
     obtain ⟨k,hk,rfl,hC,hO,hb,HA⟩:=hrel;first
      | (replace mL:=mL;have PC:Hid (wr.heap[cb]?=some (.cells #[.int .i64 sets,.int .i64 ways,.slice (some ⟨g,0,none⟩) n n] 106 (0,0))):=hC)
      | (replace mP:=mP;have PC:Hid (wr.heap[cb]?=some (.cells #[.int .i64 sets,.int .i64 ways,.slice (some ⟨g,0,none⟩) n n] 109 (0,0))):=hC)
     first
      | (replace mL:=mL;have PO:Hid (wr.ownsRow v2.heap.size 173 6 (.slice (some ⟨g,0,none⟩) n n) n (aH (cS k n es))):=hO)
      | (replace mP:=mP;have PO:Hid (wr.ownsRow v2.heap.size 183 6 (.slice (some ⟨g,0,none⟩) n n) n (aH (cS k n es))):=hO)
     have lc:cb<wr.heap.size:=(Array.getElem?_eq_some_iff.1 hC).1;have lg:g<wr.heap.size:=(bI hO).2.2;have A3:=Below.step A2 hb (Nat.le_refl _);have P1:=ae K1 hb;have P2:=ae K2 hb;clear hC hO c0 c1 c2;by_cases hlt:k<n
     ·obtain ⟨⟨vv,lv,tg,asd,gl,pt⟩,hx⟩:∃x,es[k]?=some x:=⟨_,List.getElem?_eq_getElem (by rw [HN.out];exact hlt)⟩;obtain ⟨b,off,rfl,hbb⟩:∃b off,a=some ⟨b,off,none⟩∧b<w.heap.size:=by
       rcases HR.out.2 with h | ⟨b,off,h,h2,_⟩
       ·omega
       ·exact ⟨b,off,h,h2⟩
      have CE:∀j u,j<6→(jn ⟨vv,lv,tg,asd,gl,pt⟩)[j]?=some u→wr.cell? ⟨b,off+(k*6+j),none⟩=some u:=fun j u hj hu=>Below.cell2 A3 (dG HR.out HN.out k _ hx j u hj hu) hbb;have g0:wr.cell? ⟨b,off+k*6,none⟩=some (.bool vv):=CE 0 _ (by omega) rfl;have g1:wr.cell? ⟨b,off+k*6+1,none⟩=some (.int .i64 lv):=CE 1 _ (by omega) rfl;have g2:wr.cell? ⟨b,off+k*6+2,none⟩=some (.int .u64 tg):=CE 2 _ (by omega) rfl;have g3:wr.cell? ⟨b,off+k*6+3,none⟩=some (.int .u64 asd):=CE 3 _ (by omega) rfl;have g4:wr.cell? ⟨b,off+k*6+4,none⟩=some (.bool gl):=CE 4 _ (by omega) rfl;have g5:wr.cell? ⟨b,off+k*6+5,none⟩=some (.int .u64 pt):=CE 5 _ (by omega) rfl;have hok:dq ⟨vv,lv,tg,asd,gl,pt⟩:=HE.out _ (List.mem_of_getElem? hx);have HXk:Hid (es[k]?=some ⟨vv,lv,tg,asd,gl,pt⟩):=hx;clear CE hx;have HEq:=AT vv lv tg asd gl pt;have n5:=(Below.refl wr.heap.size wr).alloc (Nat.le_refl _) (Obj.cells #[.bool vv,.int .i64 lv,.int .u64 tg,.int .u64 asd,.bool gl,.int .u64 pt] 62);obtain ⟨⟨c0,c1,c2⟩,_,_,_⟩:=ao P1.out;obtain ⟨zb,hzb⟩:∃zb,rU ⟨vv,lv,tg,asd,gl,pt⟩=zb:=⟨_,rfl⟩;rw [hzb] at HEq;have HZb:Hid (rU ⟨vv,lv,tg,asd,gl,pt⟩=zb):=hzb;clear hzb;first
       | (replace mL:=mL;have HPf:Hid (cx ⟨sets,ways,es⟩ false k ⟨vv,lv,tg,asd,gl,pt⟩=false→X=false):=fun h=>by
            rw [←HX.out];unfold aG;rw [HSM.out];simp only [Bool.true_and]
            exact ir _ false es 0 k _ HXk.out (by rw [Nat.zero_add];exact h))
       | (replace mP:=mP;have HPf:Hid (cx ⟨sets,ways,es⟩ true k ⟨vv,lv,tg,asd,gl,pt⟩=false→X=false):=fun h=>by
            rw [←HX.out];unfold aG;rw [HSM.out];simp only [Bool.true_and]
            exact ir _ true es 0 k _ HXk.out (by rw [Nat.zero_add];exact h))
      first
       | (replace mL:=mL;have HPt:Hid (cx ⟨sets,ways,es⟩ false k ⟨vv,lv,tg,asd,gl,pt⟩=true→∀j x,j<k+1→es[j]?=some x→cx ⟨sets,ways,es⟩ false j x=true):=fun h j x hj hx'=>by
            by_cases e:j=k
            ·subst e;rw [HXk.out] at hx';cases hx';exact h
            ·exact HA.out j x (by omega) hx')
       | (replace mP:=mP;have HPt:Hid (cx ⟨sets,ways,es⟩ true k ⟨vv,lv,tg,asd,gl,pt⟩=true→∀j x,j<k+1→es[j]?=some x→cx ⟨sets,ways,es⟩ true j x=true):=fun h j x hj hx'=>by
            by_cases e:j=k
            ·subst e;rw [HXk.out] at hx';cases hx';exact h
            ·exact HA.out j x (by omega) hx')
      cases zb
      ·go_wp2_with fail;generalize wr.alloc (Obj.cells #[.bool vv,.int .i64 lv,.int .u64 tg,.int .u64 asd,.bool gl,.int .u64 pt] 62)=v5 at n5 ⊢;first
        | (replace mL:=mL;obtain ⟨gd,hgd⟩:∃gd,aS ⟨vv,lv,tg,asd,gl,pt⟩ false=gd:=⟨_,rfl⟩)
        | (replace mP:=mP;obtain ⟨gd,hgd⟩:∃gd,aS ⟨vv,lv,tg,asd,gl,pt⟩ true=gd:=⟨_,rfl⟩)
       first
        | (replace mL:=mL;have HGd:Hid (aS ⟨vv,lv,tg,asd,gl,pt⟩ false=gd):=hgd)
        | (replace mP:=mP;have HGd:Hid (aS ⟨vv,lv,tg,asd,gl,pt⟩ true=gd):=hgd)
       first
        | (replace mL:=mL;have HSl:Hid (∀u,Calls Tryz.prog 112 #[.agg #[.bool vv,.int .i64 lv,.int .u64 tg,.int .u64 asd,.bool gl,.int .u64 pt]] u fun e w'=>e=.returned (.tuple #[dl (if gd=true then ⟨vv,lv,tg,asd,gl,pt⟩ else cL),.bool gd])∧Below u.heap.size u w'):=fun u=>by
             have:=jx.1 ⟨vv,lv,tg,asd,gl,pt⟩ u hok
             rw [hgd] at this
             exact this)
        | (replace mP:=mP;have HSl:Hid (∀u,Calls Tryz.prog 114 #[.agg #[.bool vv,.int .i64 lv,.int .u64 tg,.int .u64 asd,.bool gl,.int .u64 pt]] u fun e w'=>e=.returned (.tuple #[dl (if gd=true then ⟨vv,lv,tg,asd,gl,pt⟩ else cL),.bool gd])∧Below u.heap.size u w'):=fun u=>by
             have:=jx.2 ⟨vv,lv,tg,asd,gl,pt⟩ u hok
             rw [hgd] at this
             exact this)
       clear hgd;refine (HSl.out v5).mono ?_;first
        | (replace mL:=mL;have hpl:cx ⟨sets,ways,es⟩ false k ⟨vv,lv,tg,asd,gl,pt⟩=(gd && (tg%sets == (k:Int)/ways)):=by
             have hz:=HZb.out
             unfold rU at hz
             unfold cx
             rw [HGd.out]
             simp only at hz ⊢
             rw [hz,Bool.false_or])
        | (replace mP:=mP;have hpl:cx ⟨sets,ways,es⟩ true k ⟨vv,lv,tg,asd,gl,pt⟩=(gd && (tg%sets == (k:Int)/ways)):=by
             have hz:=HZb.out
             unfold rU at hz
             unfold cx
             rw [HGd.out]
             simp only at hz ⊢
             rw [hz,Bool.false_or])
       have HPl:Hid _:=hpl;clear hpl HSl;cases gd
       ·rintro e v6 ⟨rfl,n6⟩;have hxf:X=false:=HPf.out (by rw [HPl.out];rfl);subst hxf;simp only [dl,cL,Bool.false_eq_true,if_false];have n56:=Below.step n5 n6 (Nat.le_refl _);have Q2:=ae P2 n56;have l6:wr.heap.size≤v6.heap.size:=n56.size;first
         | (replace mL:=mL;have n7:=(Below.refl v6.heap.size v6).alloc (Nat.le_refl _) (Obj.cells #[.int .i64 0,.int .u64 0,.int .u64 0,.bool false,.bool false,.int .u64 0] 173))
         | (replace mP:=mP;have n7:=(Below.refl v6.heap.size v6).alloc (Nat.le_refl _) (Obj.cells #[.int .i64 0,.int .u64 0,.int .u64 0,.bool false,.bool false,.int .u64 0] 183))
        have Q3:=ae Q2 n7;have A6:=Below.step A3 (Below.step n56 n7 (Nat.le_refl _)) (Nat.le_refl _);clear g0 g1 g2 g3 g4 g5 c0 c1 c2;obtain ⟨⟨d0,d1,d2⟩,e0,e1,e2⟩:=ao Q2.out;have m1:w.heap.size+1<v6.heap.size:=by omega
        have m2:v6.heap.size≠w.heap.size+1:=by omega
        go_wp2_with fail;go_quiet (fail);go_wp2_with fail;first
         | (replace mL:=mL;exact bodyPost_ret (v:=.tuple #[.agg #[.int .i64 0,.int .i64 0,.slice none 0 0],.bool false]) (by simp [results,Tryz.results95,go_sem,d0,d1,d2,m1]) rfl ⟨rfl,eg (below_drewN A6 _) (by omega) _ _ _⟩)
         | (replace mP:=mP;exact bodyPost_ret (v:=.tuple #[.agg #[.int .i64 0,.int .i64 0,.slice none 0 0],.bool false]) (by simp [results,Tryz.results98,go_sem,d0,d1,d2,m1]) rfl ⟨rfl,eg (below_drewN A6 _) (by omega) _ _ _⟩)
       ·rintro e v6 ⟨rfl,n6⟩;simp only [dl,if_true];have n56:=Below.step n5 n6 (Nat.le_refl _);have Q1:=ae P1 n56;have Q2:=ae P2 n56;have QC:=ae PC n56;first
         | (replace mL:=mL;have QO:Hid (v6.ownsRow v2.heap.size 173 6 (.slice (some ⟨g,0,none⟩) n n) n (aH (cS k n es))):=aj PO.out n56)
         | (replace mP:=mP;have QO:Hid (v6.ownsRow v2.heap.size 183 6 (.slice (some ⟨g,0,none⟩) n n) n (aH (cS k n es))):=aj PO.out n56)
        have l6:wr.heap.size≤v6.heap.size:=n56.size;clear g0 g1 g2 g3 g4 g5 c0 c1 c2;first
         | (replace mL:=mL;have n7:=(Below.refl v6.heap.size v6).alloc (Nat.le_refl _) (Obj.cells #[.int .i64 lv,.int .u64 tg,.int .u64 asd,.bool gl,.bool vv,.int .u64 pt] 173))
         | (replace mP:=mP;have n7:=(Below.refl v6.heap.size v6).alloc (Nat.le_refl _) (Obj.cells #[.int .i64 lv,.int .u64 tg,.int .u64 asd,.bool gl,.bool vv,.int .u64 pt] 183))
        first
         | (replace mL:=mL;have RS:Hid ((v6.alloc (Obj.cells #[.int .i64 lv,.int .u64 tg,.int .u64 asd,.bool gl,.bool vv,.int .u64 pt] 173)).heap[v6.heap.size]?=some (.cells #[.int .i64 lv,.int .u64 tg,.int .u64 asd,.bool gl,.bool vv,.int .u64 pt] 173 (0,0))):=heap_alloc_new v6 _)
         | (replace mP:=mP;have RS:Hid ((v6.alloc (Obj.cells #[.int .i64 lv,.int .u64 tg,.int .u64 asd,.bool gl,.bool vv,.int .u64 pt] 183)).heap[v6.heap.size]?=some (.cells #[.int .i64 lv,.int .u64 tg,.int .u64 asd,.bool gl,.bool vv,.int .u64 pt] 183 (0,0))):=heap_alloc_new v6 _)
        first
         | (replace mL:=mL;have l7:v6.heap.size<(v6.alloc (Obj.cells #[.int .i64 lv,.int .u64 tg,.int .u64 asd,.bool gl,.bool vv,.int .u64 pt] 173)).heap.size:=by simp)
         | (replace mP:=mP;have l7:v6.heap.size<(v6.alloc (Obj.cells #[.int .i64 lv,.int .u64 tg,.int .u64 asd,.bool gl,.bool vv,.int .u64 pt] 183)).heap.size:=by simp)
        have R2:=ae Q2 n7;have RC:=ae QC n7;first
         | (replace mL:=mL;have RO:Hid ((v6.alloc (Obj.cells #[.int .i64 lv,.int .u64 tg,.int .u64 asd,.bool gl,.bool vv,.int .u64 pt] 173)).ownsRow v2.heap.size 173 6 (.slice (some ⟨g,0,none⟩) n n) n (aH (cS k n es))):=aj QO.out n7)
         | (replace mP:=mP;have RO:Hid ((v6.alloc (Obj.cells #[.int .i64 lv,.int .u64 tg,.int .u64 asd,.bool gl,.bool vv,.int .u64 pt] 183)).ownsRow v2.heap.size 183 6 (.slice (some ⟨g,0,none⟩) n n) n (aH (cS k n es))):=aj QO.out n7)
        have n57:=Below.step n56 n7 (Nat.le_refl _);have A7:=Below.step A3 n57 (Nat.le_refl _);have B7:=Below.step hb n57 (Nat.le_refl _);have m1:w.heap.size+1<v6.heap.size:=by omega
        clear n5 n6 n56 n7 n57 Q1 Q2 QC QO;go_wp2_with fail;first
         | (replace mL:=mL;generalize v6.alloc (Obj.cells #[.int .i64 lv,.int .u64 tg,.int .u64 asd,.bool gl,.bool vv,.int .u64 pt] 173)=v7 at RS l7 R2 RC RO A7 B7 ⊢)
         | (replace mP:=mP;generalize v6.alloc (Obj.cells #[.int .i64 lv,.int .u64 tg,.int .u64 asd,.bool gl,.bool vv,.int .u64 pt] 183)=v7 at RS l7 R2 RC RO A7 B7 ⊢)
        obtain ⟨⟨p0,p1,p2⟩,_,_,_⟩:=ao RC.out;obtain ⟨⟨d0,d1,d2⟩,e0,e1,e2⟩:=ao R2.out;obtain ⟨⟨s0,s1,s2,s3,s4,s5⟩,_⟩:=gH RS.out;obtain ⟨sx,hsx⟩:∃sx,tg%sets=sx:=⟨_,rfl⟩;first
         | (replace mL:=mL;have HSet:Hid (∀q,Calls Tryz.prog 130 #[.pointer (some ⟨cb,0,none⟩),.int .u64 tg] (v7.drewN q) fun e w'=>e=.returned (.int .i64 sx)∧w'=v7.drewN q):=fun q=>by
              have:=pP cb 0 sets tg (v7.drewN q) hs4 p0 hok.2.1.1 hok.2.1.2
              rw [hsx] at this
              exact this)
         | (replace mP:=mP;have HSet:Hid (∀q,Calls Tryz.prog 132 #[.pointer (some ⟨cb,0,none⟩),.int .u64 tg] (v7.drewN q) fun e w'=>e=.returned (.int .i64 sx)∧w'=v7.drewN q):=fun q=>by
              have:=pQ cb 0 sets tg (v7.drewN q) hs4 p0 hok.2.1.1 hok.2.1.2
              rw [hsx] at this
              exact this)
        first
         | (replace mL:=mL;have HPl2:Hid (cx ⟨sets,ways,es⟩ false k ⟨vv,lv,tg,asd,gl,pt⟩=(sx == (k:Int)/ways)):=by
              show _=_
              rw [HPl.out,hsx,Bool.true_and])
         | (replace mP:=mP;have HPl2:Hid (cx ⟨sets,ways,es⟩ true k ⟨vv,lv,tg,asd,gl,pt⟩=(sx == (k:Int)/ways)):=by
              show _=_
              rw [HPl.out,hsx,Bool.true_and])
        clear hsx hok HPl;have hdv:0≤(k:Int)/ways∧(k:Int)/ways≤k:=⟨Int.ediv_nonneg (by omega) (by omega),Int.ediv_le_self _ (by omega)⟩;obtain ⟨qv,hqv⟩:∃qv,(k:Int)/ways=qv:=⟨_,rfl⟩;rw [hqv] at hdv HPl2;have hwr:wrap64 ((k:Int)/ways)=qv:=by rw [hqv];unfold wrap64;omega
        clear hqv;by_cases hne:sx=qv
        ·subst hne;first
          | (replace mL:=mL;go_quiet ((go_at_call 130;exact Calls.quiet_of_same (HSet.out _))))
          | (replace mP:=mP;go_quiet ((go_at_call 132;exact Calls.quiet_of_same (HSet.out _))))
         first
          | (replace mL:=mL;have SO:Hid ((v7.drewN nq).ownsRow v2.heap.size 173 6 (.slice (some ⟨g,0,none⟩) n n) n (aH (cS k n es))):=RO)
          | (replace mP:=mP;have SO:Hid ((v7.drewN nq).ownsRow v2.heap.size 183 6 (.slice (some ⟨g,0,none⟩) n n) n (aH (cS k n es))):=RO)
         first
          | (replace mL:=mL;have SC:Hid ((v7.drewN nq).heap[cb]?=some (.cells #[.int .i64 sets,.int .i64 ways,.slice (some ⟨g,0,none⟩) n n] 106 (0,0))):=RC)
          | (replace mP:=mP;have SC:Hid ((v7.drewN nq).heap[cb]?=some (.cells #[.int .i64 sets,.int .i64 ways,.slice (some ⟨g,0,none⟩) n n] 109 (0,0))):=RC)
         first
          | (replace mL:=mL;have SS:Hid ((v7.drewN nq).heap[v6.heap.size]?=some (.cells #[.int .i64 lv,.int .u64 tg,.int .u64 asd,.bool gl,.bool vv,.int .u64 pt] 173 (0,0))):=RS)
          | (replace mP:=mP;have SS:Hid ((v7.drewN nq).heap[v6.heap.size]?=some (.cells #[.int .i64 lv,.int .u64 tg,.int .u64 asd,.bool gl,.bool vv,.int .u64 pt] 183 (0,0))):=RS)
         have B8:Below v2.heap.size v2 (v7.drewN nq):=below_drewN B7 nq;generalize v7.drewN nq=v8 at SO SC SS B8 ⊢;have hfl:(aH (cS k n es)).length=n*6:=by
          have:=HN.out;subst this;rw [eR,i8 _ _ (by omega)]
         have q0:=aI SO.out (k*6) _ (List.getElem?_eq_getElem (by omega));have q1:=aI SO.out (k*6+1) _ (List.getElem?_eq_getElem (by omega));have q2:=aI SO.out (k*6+2) _ (List.getElem?_eq_getElem (by omega));have q3:=aI SO.out (k*6+3) _ (List.getElem?_eq_getElem (by omega));have q4:=aI SO.out (k*6+4) _ (List.getElem?_eq_getElem (by omega));have q5:=aI SO.out (k*6+5) _ (List.getElem?_eq_getElem (by omega));generalize (aH (cS k n es))[k*6]'_=y0 at q0;generalize (aH (cS k n es))[k*6+1]'_=y1 at q1;generalize (aH (cS k n es))[k*6+2]'_=y2 at q2;generalize (aH (cS k n es))[k*6+3]'_=y3 at q3;generalize (aH (cS k n es))[k*6+4]'_=y4 at q4;generalize (aH (cS k n es))[k*6+5]'_=y5 at q5;have r0:=aP SO.out (k*6);have r1:=aP SO.out (k*6+1);have r2:=aP SO.out (k*6+2);have r3:=aP SO.out (k*6+3);have r4:=aP SO.out (k*6+4);have r5:=aP SO.out (k*6+5);clear p0 p1 p2 d0 d1 d2 e0 e1 e2 s0 s1 s2 s3 s4 s5;obtain ⟨⟨p0,p1,p2⟩,_,_,_⟩:=ao SC.out;obtain ⟨⟨s0,s1,s2,s3,s4,s5⟩,_⟩:=gH SS.out;go_wp2_with fail;go_roundw
         case rel=>
          refine ⟨k+1,by omega,by go_num,av SC.out (ax (ax (ax (ax (ax (ax (aE v8 (some g)) _ _) _ _) _ _) _ _) _ _) _ _) hcg,?_,?_,HPt.out (by rw [HPl2.out];simp)⟩
          ·have:=HN.out;subst this;rw [lQ k es _ HXk.out,i7 _ _ _ (by rw [i8 _ _ (by omega)];exact hlt)];exact aJ (aJ (aJ (aJ (aJ (aJ SO.out _ _) _ _) _ _) _ _) _ _) _ _
          ·exact (((((B8.setCell (p:=⟨g,_,none⟩) hg1 _).setCell (p:=⟨g,_,none⟩) hg1 _).setCell (p:=⟨g,_,none⟩) hg1 _).setCell (p:=⟨g,_,none⟩) hg1 _).setCell (p:=⟨g,_,none⟩) hg1 _).setCell (p:=⟨g,_,none⟩) hg1 _
         case measure=>simp [intOf];omega
        ·have hne':(sx != qv)=true:=by rw [bne_iff_ne];exact hne
         have hxf:X=false:=HPf.out (by rw [HPl2.out];simpa using hne);subst hxf;first
          | (replace mL:=mL;go_quiet ((go_at_call 130;exact Calls.quiet_of_same (HSet.out _))))
          | (replace mP:=mP;go_quiet ((go_at_call 132;exact Calls.quiet_of_same (HSet.out _))))
         go_wp2_with fail;first
          | (replace mL:=mL;exact bodyPost_ret (v:=.tuple #[.agg #[.int .i64 0,.int .i64 0,.slice none 0 0],.bool false]) (by simp [results,Tryz.results95,go_sem,d0,d1,d2]) rfl ⟨rfl,eg (below_drewN A7 _) (by omega) _ _ _⟩)
          | (replace mP:=mP;exact bodyPost_ret (v:=.tuple #[.agg #[.int .i64 0,.int .i64 0,.slice none 0 0],.bool false]) (by simp [results,Tryz.results98,go_sem,d0,d1,d2]) rfl ⟨rfl,eg (below_drewN A7 _) (by omega) _ _ _⟩)
      ·have hz:=HZb.out;simp only [rU,Bool.and_eq_true,beq_iff_eq] at hz;obtain ⟨⟨⟨⟨⟨rfl,rfl⟩,rfl⟩,rfl⟩,rfl⟩,rfl⟩:=hz;go_wp2_with fail;go_roundw
       case rel=>exact ⟨k+1,by omega,by go_num,(ae PC n5).out,by
        have:=HN.out;subst this;rw [fzN k es HXk.out];exact aj PO.out n5,Below.step hb n5 (Nat.le_refl _),HPt.out (by simp [cx])⟩
       case measure=>simp [intOf];omega
     ·have hkn:k=n:=by omega
      subst hkn;have hxt:X=true:=by
       rw [←HX.out];unfold aG;rw [HSM.out];simp only [Bool.true_and];first
        | (replace mL:=mL;exact fS _ false es 0 (fun j x hx=>by rw [Nat.zero_add];exact HA.out j x (by have:=(List.getElem?_eq_some_iff.1 hx).1;have:=HN.out;omega) hx))
        | (replace mP:=mP;exact fS _ true es 0 (fun j x hx=>by rw [Nat.zero_add];exact HA.out j x (by have:=(List.getElem?_eq_some_iff.1 hx).1;have:=HN.out;omega) hx))
      subst hxt;obtain ⟨⟨d0,d1,d2⟩,e0,e1,e2⟩:=ao P2.out;obtain ⟨⟨p0,p1,p2⟩,_,_,_⟩:=ao PC.out;have ne6:w.heap.size+1≠cb:=by omega
      go_wp2_with fail;first
       | (replace mL:=mL;refine bodyPost_ret (v:=.tuple #[.agg #[.int .i64 sets,.int .i64 ways,.slice (some ⟨g,0,none⟩) k k],.bool true]) (by simp [results,Tryz.results95,go_sem,d0,d1,d2]) rfl ⟨⟨g,by simp only;rw [HN.out],?_⟩,eg A3 (by omega) _ _ _⟩)
       | (replace mP:=mP;refine bodyPost_ret (v:=.tuple #[.agg #[.int .i64 sets,.int .i64 ways,.slice (some ⟨g,0,none⟩) k k],.bool true]) (by simp [results,Tryz.results98,go_sem,d0,d1,d2]) rfl ⟨⟨g,by simp only;rw [HN.out],?_⟩,eg A3 (by omega) _ _ _⟩)
      simp only;rw [HN.out];have:=PO.out;have hq:=HN.out;subst hq;rw [nl] at this;exact aT (bZ this (gb3 wr (w.heap.size+1) _ _ _) (by omega)) (by omega)
end Go.Proofs.YtaoaifmkhbgaiaaGreat
