import Derived.BigRegion
import Derived.Deep.Cut
import Derived.Test.YthdgiakgepmabaaGreatDk15
namespace Go.Proofs.YthdgiakgepmabaaGreat
open Go.RowKit
set_option linter.unusedVariables false
set_option maxHeartbeats 6400000
set_option maxRecDepth 20000
section
attribute [local go_sem ↓] Go.wp_at_zero Go.wp_at_succ
theorem Tryz.infoSlotL:(Tryz.prog.info? 216).map (fun i=>(i.zero,i.size,i.bytes))=some (some (.agg #[VI 0,VU 0,VU 0,.bool false,.bool false,VU 0]),6,48):=by kernel_rfl
theorem Tryz.infoSlotP:(Tryz.prog.info? 221).map (fun i=>(i.zero,i.size,i.bytes))=some (some (.agg #[VI 0,VU 0,VU 0,.bool false,.bool false,VU 0]),6,48):=by kernel_rfl
def Cf (base:Nat) (w:World) (e:Ending) (t:TlbM):Prop:=
 ∃g,e=.returned (.tuple #[.agg #[VI t.sets,VI t.ways,SL g t.es.length t.es.length],.bool true])∧w.ownsRow base 216 6 (SL g t.es.length t.es.length) t.es.length (aC t.es)
def Cg (base:Nat) (w:World) (e:Ending) (t:TlbM):Prop:=
 ∃g,e=.returned (.tuple #[.agg #[VI t.sets,VI t.ways,SL g t.es.length t.es.length],.bool true])∧w.ownsRow base 221 6 (SL g t.es.length t.es.length) t.es.length (aC t.es)
def DV (z0:Nat) (z1:Nat):Prop:=∀(n:Nat) (hn:n<=1048576),∃cs:Array Value,cs.toList=aC (List.replicate n cM)∧∀u:World,(Instr.makeSlice z0 (VI (n:Int)) (VI (n:Int))).run Tryz.prog u=.ok (SL u.heap.size n n) (u.alloc (.cells cs z1))
theorem FT:DV 79 216∧DV 82 221:=by
 refine ⟨?_,?_⟩;have mL:=trivial
 rotate_left
 have mP:=trivial
 rotate_left
 all_goals
  intro n hn;first
   | (replace mL:=mL;obtain ⟨i0,hi,hz0,hz1,hz2⟩:=info_parts Tryz.infoSlotL)
   | (replace mP:=mP;obtain ⟨i0,hi,hz0,hz1,hz2⟩:=info_parts Tryz.infoSlotP)
  refine ⟨madeCells (Value.agg #[VI 0,VU 0,VU 0,.bool false,.bool false,VU 0]).cells (n*6),?_,fun u=>?_⟩
  ·exact Dy cM n
  ·first
    | (replace mL:=mL;have:=run_make (P:=Tryz.prog) u 79 216 i0 _ Tryz.underlying79 hi hz0 .i64 .i64 n n (by omega) (Int.le_refl _) (by rw [hz2];omega) (by omega))
    | (replace mP:=mP;have:=run_make (P:=Tryz.prog) u 82 221 i0 _ Tryz.underlying82 hi hz0 .i64 .i64 n n (by omega) (Int.le_refl _) (by rw [hz2];omega) (by omega))
   rw [hz1] at this;simpa using this
theorem pr:(∀(v:Value) (t:TlbM) (w:World) (h:TlbAt w v t),Calls Tryz.prog 77 #[v] w fun e w'=>cond (aY t false) (Cf w.heap.size w' e t) (e=.returned (.tuple #[.agg #[VI 0,VI 0,SN],.bool false]))∧Bw w w')∧
 (∀(v:Value) (t:TlbM) (w:World) (h:TlbAt w v t),Calls Tryz.prog 78 #[v] w fun e w'=>cond (aY t true) (Cg w.heap.size w' e t) (e=.returned (.tuple #[.agg #[VI 0,VI 0,SN],.bool false]))∧Bw w w'):=by
 refine ⟨?_,?_⟩;have mL:=trivial
 rotate_left
 have mP:=trivial
 rotate_left
 all_goals
  intro v t w h;obtain ⟨a,cap,rfl,hr,he,hs,hw,hl,hlc,hcm,hnil,hsp⟩:=h;obtain ⟨sets,ways,es⟩:=t;obtain ⟨n,hn⟩:∃n,es.length=n:=⟨_,rfl⟩;simp only at hr he hs hw hl hlc hnil |-;have HN:=hid hn;rw [hn] at hr hl hlc hnil |-;have HR:=hid hr;have HE:=hid he;first
   | (replace mL:=mL;obtain ⟨X,hX⟩:∃X,aY ⟨sets,ways,es⟩ false=X:=⟨_,rfl⟩)
   | (replace mP:=mP;obtain ⟨X,hX⟩:∃X,aY ⟨sets,ways,es⟩ true=X:=⟨_,rfl⟩)
  first
   | (replace mL:=mL;have HX:Hid (aY ⟨sets,ways,es⟩ false=X):=hX)
   | (replace mP:=mP;have HX:Hid (aY ⟨sets,ways,es⟩ true=X):=hX)
  rw [hX];clear hX hr he hnil hsp hn;first
   | (replace mL:=mL;obtain ⟨v1,Ev1,n1,H1,H2,l1⟩:=al2 w #[VI sets,VI ways,.slice a n cap] #[VI 0,VI 0,SN] 40 81)
   | (replace mP:=mP;obtain ⟨v1,Ev1,n1,H1,H2,l1⟩:=al2 w #[VI sets,VI ways,.slice a n cap] #[VI 0,VI 0,SN] 40 84)
  obtain ⟨sb,hsb⟩:∃sb,decide ((sets=1∨sets=2∨sets=4∨sets=8)∧1<=ways∧ways<=4∧(n:Int)=sets*ways)=sb:=⟨_,rfl⟩;have HSb:=hid hsb;have HSM:Hid (kN ⟨sets,ways,es⟩=sb):=by show _=_;unfold kN;simp only;rw [HN.out];exact hsb
  clear hsb;first
   | (replace mL:=mL;go_enter Tryz.func77,Tryz.ntmps77)
   | (replace mP:=mP;go_enter Tryz.func78,Tryz.ntmps78)
  go_wp2_with fail;rw [Ev1.out];clear Ev1;refine (tl sets ways a n cap v1 hl hs hw).mono ?_;rw [HSb.out];rintro e v2 ⟨rfl,n2⟩;have A2:=bst n1 n2;have K1:=ah H1 n2;have K2:=ah H2 n2;have l2:=ltl l1 n2.size;clear n1 n2 H1 H2 l1;obtain ⟨⟨c0,c1,c2⟩,_,_,_⟩:=aF K1.out;obtain ⟨⟨d0,d1,d2⟩,e0,e1,e2⟩:=aF K2.out;cases sb
  ·have hxf:X=false:=by rw [<-HX.out];unfold aY;rw [HSM.out];rfl
   subst hxf;go_wp2_with fail;first
    | (replace mL:=mL;exact bodyPost_ret (v:=.tuple #[.agg #[VI 0,VI 0,SN],.bool false]) (by simp [results,Tryz.results77,go_sem,d0,d1,d2]) rfl ⟨rfl,kz A2 (by omega) _ _ _⟩)
    | (replace mP:=mP;exact bodyPost_ret (v:=.tuple #[.agg #[VI 0,VI 0,SN],.bool false]) (by simp [results,Tryz.results78,go_sem,d0,d1,d2]) rfl ⟨rfl,kz A2 (by omega) _ _ _⟩)
  ·have hsh:(sets=1∨sets=2∨sets=4∨sets=8)∧1<=ways∧ways<=4∧(n:Int)=sets*ways:=by simpa using HSb.out
   obtain ⟨hs4,hw1,hw4,hnw⟩:=hsh;have hn0:0<n:=by
    have:0<sets*ways:=Int.mul_pos (by omega) (by omega);omega
   first
    | (replace mL:=mL;obtain ⟨cs,hcs,hmk⟩:=FT.1 n hl)
    | (replace mP:=mP;obtain ⟨cs,hcs,hmk⟩:=FT.2 n hl)
   have HCS:=hid hcs;clear hcs HSb;have HNw:=hid hnw;clear hnw;have ne1:v2.heap.size≠w.heap.size:=by omega
   have ne2:v2.heap.size≠w.heap.size+1:=by omega
   have ne3:w.heap.size<v2.heap.size:=by omega
   have ne4:w.heap.size≠v2.heap.size:=by omega
   have ne5:w.heap.size≠v2.heap.size+1:=by omega
   go_wp2_with fail;first
    | (replace mL:=mL;go_cut [4] (fun s4 wx=>∃cb g,s4=PT cb 0∧v2.heap.size<=cb∧cb<wx.heap.size∧cb≠g∧wx.heap[cb]?=some (.cells #[VI sets,VI ways,SL g n n] 81 (0,0))∧wx.ownsRow v2.heap.size 216 6 (SL g n n) n (aC (List.replicate n cM))∧Bw v2 wx))
    | (replace mP:=mP;go_cut [4] (fun s4 wx=>∃cb g,s4=PT cb 0∧v2.heap.size<=cb∧cb<wx.heap.size∧cb≠g∧wx.heap[cb]?=some (.cells #[VI sets,VI ways,SL g n n] 84 (0,0))∧wx.ownsRow v2.heap.size 221 6 (SL g n n) n (aC (List.replicate n cM))∧Bw v2 wx))
   case first=>
    go_region
    ·go_wp2;go_meet;first
      | (replace mL:=mL;obtain ⟨q1,q2,q3,q4⟩:=xN v2 81 216 #[VI sets,VI ways,SL v2.heap.size n n] cs _ n HCS.out (by rw [ex];simp) (by unfold maxLen;omega))
      | (replace mP:=mP;obtain ⟨q1,q2,q3,q4⟩:=xN v2 84 221 #[VI sets,VI ways,SL v2.heap.size n n] cs _ n HCS.out (by rw [ex];simp) (by unfold maxLen;omega))
     exact ⟨_,_,rfl,by omega,q4,by omega,q1,q2,q3⟩
    ·go_wp2;go_meet;first
      | (replace mL:=mL;obtain ⟨q1,q2,q3,q4⟩:=xO v2 81 216 #[VI sets,VI ways,.slice (some ⟨v2.heap.size+1,0,none⟩) n n] cs _ n HCS.out (by rw [ex];simp) (by unfold maxLen;omega))
      | (replace mP:=mP;obtain ⟨q1,q2,q3,q4⟩:=xO v2 84 221 #[VI sets,VI ways,.slice (some ⟨v2.heap.size+1,0,none⟩) n n] cs _ n HCS.out (by rw [ex];simp) (by unfold maxLen;omega))
     exact ⟨_,_,rfl,nle,q4,by omega,q1,q2,q3⟩
   case rest=>
    obtain ⟨cb,g,rfl,hcb,hcl,hcg,hC,hO,hbl⟩:=hcut;first
     | (replace mL:=mL;have HC:Hid (wc.heap[cb]?=some (.cells #[VI sets,VI ways,SL g n n] 81 (0,0))):=hC)
     | (replace mP:=mP;have HC:Hid (wc.heap[cb]?=some (.cells #[VI sets,VI ways,SL g n n] 84 (0,0))):=hC)
    first
     | (replace mL:=mL;have HO:Hid (wc.ownsRow v2.heap.size 216 6 (SL g n n) n (aC (List.replicate n cM))):=hO)
     | (replace mP:=mP;have HO:Hid (wc.ownsRow v2.heap.size 221 6 (SL g n n) n (aC (List.replicate n cM))):=hO)
    have hgg:=cQ hO;obtain ⟨_,hg1,hg2⟩:=hgg;simp only at hg1 hg2;clear hC hO c0 c1 c2 d0 d1 d2 e0 e1 e2;have L1:=ah K1 hbl;obtain ⟨⟨c0,c1,c2⟩,_,_,_⟩:=aF L1.out;go_wp2_with fail;first
     | (replace mL:=mL;go_loopw [25] (fun i wr=>∃k:Nat,k<=n∧i=VI k∧wr.heap[cb]?=some (.cells #[VI sets,VI ways,SL g n n] 81 (0,0))∧wr.ownsRow v2.heap.size 216 6 (SL g n n) n (aC (dH k n es))∧Bw v2 wr∧Hid (∀j x,j<k->es[j]?=some x->dh ⟨sets,ways,es⟩ false j x=true)) (fun i _=>n-(intOf i).toNat))
     | (replace mP:=mP;go_loopw [25] (fun i wr=>∃k:Nat,k<=n∧i=VI k∧wr.heap[cb]?=some (.cells #[VI sets,VI ways,SL g n n] 84 (0,0))∧wr.ownsRow v2.heap.size 221 6 (SL g n n) n (aC (dH k n es))∧Bw v2 wr∧Hid (∀j x,j<k->es[j]?=some x->dh ⟨sets,ways,es⟩ true j x=true)) (fun i _=>n-(intOf i).toNat))
    case atStart=>exact ⟨0,Nat.zero_le _,rfl,HC.out,by rw [vg];exact HO.out,hbl,fun j x hj=>absurd hj (by omega)⟩
    case round=>
     obtain ⟨k,hk,rfl,hC,hO,hb,HA⟩:=hrel;first
      | (replace mL:=mL;have PC:Hid (wr.heap[cb]?=some (.cells #[VI sets,VI ways,SL g n n] 81 (0,0))):=hC)
      | (replace mP:=mP;have PC:Hid (wr.heap[cb]?=some (.cells #[VI sets,VI ways,SL g n n] 84 (0,0))):=hC)
     first
      | (replace mL:=mL;have PO:Hid (wr.ownsRow v2.heap.size 216 6 (SL g n n) n (aC (dH k n es))):=hO)
      | (replace mP:=mP;have PO:Hid (wr.ownsRow v2.heap.size 221 6 (SL g n n) n (aC (dH k n es))):=hO)
     have lc:=(hpl hC);have lg:=(cQ hO).2.2;have A3:=bst A2 hb;have P1:=ah K1 hb;have P2:=ah K2 hb;clear hC hO c0 c1 c2;by_cases hlt:k<n
     ·obtain ⟨⟨vv,lv,tg,asd,gl,pt⟩,hx⟩:∃x,es[k]?=some x:=⟨_,geg (by rw [HN.out];exact hlt)⟩;obtain ⟨b,off,rfl,hbb⟩:∃b off,a=some (AD b off)∧b<w.heap.size:=by
       rcases HR.out.2 with h | ⟨b,off,h,h2,_⟩
       ·omega
       ·exact ⟨b,off,h,h2⟩
      have CE:=fun j u (hj:j<6) (hu:(nY ⟨vv,lv,tg,asd,gl,pt⟩)[j]?=some u)=>Below.cell2 A3 (DA HR.out HN.out k _ hx j u hj hu) hbb;have g0:wr.cell? ⟨b,off+k*6,none⟩=some (.bool vv):=CE 0 _ (by omega) rfl;have g1:wr.cell? ⟨b,off+k*6+1,none⟩=some (VI lv):=CE 1 _ (by omega) rfl;have g2:wr.cell? ⟨b,off+k*6+2,none⟩=some (VU tg):=CE 2 _ (by omega) rfl;have g3:wr.cell? ⟨b,off+k*6+3,none⟩=some (VU asd):=CE 3 _ (by omega) rfl;have g4:wr.cell? ⟨b,off+k*6+4,none⟩=some (.bool gl):=CE 4 _ (by omega) rfl;have g5:wr.cell? ⟨b,off+k*6+5,none⟩=some (VU pt):=CE 5 _ (by omega) rfl;have hok:iH ⟨vv,lv,tg,asd,gl,pt⟩:=HE.out _ (List.mem_of_getElem? hx);have HXk:Hid (es[k]?=some ⟨vv,lv,tg,asd,gl,pt⟩):=hx;clear CE hx;have HEq:=Gl vv lv tg asd gl pt;have n5:=(Below.refl wr.heap.size wr).alloc nle (Obj.cells #[.bool vv,VI lv,VU tg,VU asd,.bool gl,VU pt] 154);obtain ⟨⟨c0,c1,c2⟩,_,_,_⟩:=aF P1.out;obtain ⟨zb,hzb⟩:∃zb,td ⟨vv,lv,tg,asd,gl,pt⟩=zb:=⟨_,rfl⟩;rw [hzb] at HEq;have HZb:Hid (td ⟨vv,lv,tg,asd,gl,pt⟩=zb):=hzb;clear hzb;first
       | (replace mL:=mL;have HPf:Hid (dh ⟨sets,ways,es⟩ false k ⟨vv,lv,tg,asd,gl,pt⟩=false->X=false):=fun h=>by
            rw [<-HX.out];unfold aY;rw [HSM.out];simp only [Bool.true_and]
            exact jV _ false es 0 k _ HXk.out (by rw [Nat.zero_add];exact h))
       | (replace mP:=mP;have HPf:Hid (dh ⟨sets,ways,es⟩ true k ⟨vv,lv,tg,asd,gl,pt⟩=false->X=false):=fun h=>by
            rw [<-HX.out];unfold aY;rw [HSM.out];simp only [Bool.true_and]
            exact jV _ true es 0 k _ HXk.out (by rw [Nat.zero_add];exact h))
      first
       | (replace mL:=mL;have HPt:Hid (dh ⟨sets,ways,es⟩ false k ⟨vv,lv,tg,asd,gl,pt⟩=true->∀j x,j<k+1->es[j]?=some x->dh ⟨sets,ways,es⟩ false j x=true):=fun h j x hj hx'=>by
            by_cases e:j=k
            ·subst e;rw [HXk.out] at hx';cases hx';exact h
            ·exact HA.out j x (by omega) hx')
       | (replace mP:=mP;have HPt:Hid (dh ⟨sets,ways,es⟩ true k ⟨vv,lv,tg,asd,gl,pt⟩=true->∀j x,j<k+1->es[j]?=some x->dh ⟨sets,ways,es⟩ true j x=true):=fun h j x hj hx'=>by
            by_cases e:j=k
            ·subst e;rw [HXk.out] at hx';cases hx';exact h
            ·exact HA.out j x (by omega) hx')
      cases zb
      ·go_wp2_with fail;generalize wr.alloc (Obj.cells #[.bool vv,VI lv,VU tg,VU asd,.bool gl,VU pt] 154)=v5 at n5 |-;first
        | (replace mL:=mL;obtain ⟨gd,hgd⟩:∃gd,bB ⟨vv,lv,tg,asd,gl,pt⟩ false=gd:=⟨_,rfl⟩)
        | (replace mP:=mP;obtain ⟨gd,hgd⟩:∃gd,bB ⟨vv,lv,tg,asd,gl,pt⟩ true=gd:=⟨_,rfl⟩)
       first
        | (replace mL:=mL;have HGd:Hid (bB ⟨vv,lv,tg,asd,gl,pt⟩ false=gd):=hgd)
        | (replace mP:=mP;have HGd:Hid (bB ⟨vv,lv,tg,asd,gl,pt⟩ true=gd):=hgd)
       first
        | (replace mL:=mL;have HSl:Hid (∀u,Calls Tryz.prog 102 #[.agg #[.bool vv,VI lv,VU tg,VU asd,.bool gl,VU pt]] u fun e w'=>e=.returned (.tuple #[dv (if gd=true then ⟨vv,lv,tg,asd,gl,pt⟩ else cM),.bool gd])∧Bw u w'):=fun u=>by
             have:=qM.1 ⟨vv,lv,tg,asd,gl,pt⟩ u hok
             rw [hgd] at this
             exact this)
        | (replace mP:=mP;have HSl:Hid (∀u,Calls Tryz.prog 104 #[.agg #[.bool vv,VI lv,VU tg,VU asd,.bool gl,VU pt]] u fun e w'=>e=.returned (.tuple #[dv (if gd=true then ⟨vv,lv,tg,asd,gl,pt⟩ else cM),.bool gd])∧Bw u w'):=fun u=>by
             have:=qM.2 ⟨vv,lv,tg,asd,gl,pt⟩ u hok
             rw [hgd] at this
             exact this)
       clear hgd;refine (HSl.out v5).mono ?_;first
        | (replace mL:=mL;have hpl:dh ⟨sets,ways,es⟩ false k ⟨vv,lv,tg,asd,gl,pt⟩=(gd && (tg%sets == (k:Int)/ways)):=by
             have hz:=HZb.out
             unfold td at hz
             unfold dh
             rw [HGd.out]
             simp only at hz |-
             rw [hz,Bool.false_or])
        | (replace mP:=mP;have hpl:dh ⟨sets,ways,es⟩ true k ⟨vv,lv,tg,asd,gl,pt⟩=(gd && (tg%sets == (k:Int)/ways)):=by
             have hz:=HZb.out
             unfold td at hz
             unfold dh
             rw [HGd.out]
             simp only at hz |-
             rw [hz,Bool.false_or])
       have HPl:Hid _:=hpl;clear hpl HSl;cases gd
       ·rintro e v6 ⟨rfl,n6⟩;have hxf:X=false:=HPf.out (by rw [HPl.out];rfl);subst hxf;simp only [dv,cM,Bool.false_eq_true,if_false];have n56:=bst n5 n6;have Q2:=ah P2 n56;have l6:wr.heap.size<=v6.heap.size:=n56.size;first
         | (replace mL:=mL;have n7:=(Below.refl v6.heap.size v6).alloc nle (Obj.cells #[VI 0,VU 0,VU 0,.bool false,.bool false,VU 0] 216))
         | (replace mP:=mP;have n7:=(Below.refl v6.heap.size v6).alloc nle (Obj.cells #[VI 0,VU 0,VU 0,.bool false,.bool false,VU 0] 221))
        have Q3:=ah Q2 n7;have A6:=bst A3 (bst n56 n7);clear g0 g1 g2 g3 g4 g5 c0 c1 c2;obtain ⟨⟨d0,d1,d2⟩,e0,e1,e2⟩:=aF Q2.out;have m1:w.heap.size+1<v6.heap.size:=by omega
        have m2:v6.heap.size≠w.heap.size+1:=by omega
        go_wp2;go_quiet (fail);go_wp2_with fail;first
         | (replace mL:=mL;exact bodyPost_ret (v:=.tuple #[.agg #[VI 0,VI 0,SN],.bool false]) (by simp [results,Tryz.results77,go_sem,d0,d1,d2,m1]) rfl ⟨rfl,kz (below_drewN A6 _) (by omega) _ _ _⟩)
         | (replace mP:=mP;exact bodyPost_ret (v:=.tuple #[.agg #[VI 0,VI 0,SN],.bool false]) (by simp [results,Tryz.results78,go_sem,d0,d1,d2,m1]) rfl ⟨rfl,kz (below_drewN A6 _) (by omega) _ _ _⟩)
       ·rintro e v6 ⟨rfl,n6⟩;simp only [dv,if_true];have n56:=bst n5 n6;have Q1:=ah P1 n56;have Q2:=ah P2 n56;have QC:=ah PC n56;first
         | (replace mL:=mL;have QO:Hid (v6.ownsRow v2.heap.size 216 6 (SL g n n) n (aC (dH k n es))):=aq PO.out n56)
         | (replace mP:=mP;have QO:Hid (v6.ownsRow v2.heap.size 221 6 (SL g n n) n (aC (dH k n es))):=aq PO.out n56)
        have l6:wr.heap.size<=v6.heap.size:=n56.size;clear g0 g1 g2 g3 g4 g5 c0 c1 c2;first
         | (replace mL:=mL;have n7:=(Below.refl v6.heap.size v6).alloc nle (Obj.cells #[VI lv,VU tg,VU asd,.bool gl,.bool vv,VU pt] 216))
         | (replace mP:=mP;have n7:=(Below.refl v6.heap.size v6).alloc nle (Obj.cells #[VI lv,VU tg,VU asd,.bool gl,.bool vv,VU pt] 221))
        first
         | (replace mL:=mL;have RS:Hid ((v6.alloc (Obj.cells #[VI lv,VU tg,VU asd,.bool gl,.bool vv,VU pt] 216)).heap[v6.heap.size]?=some (.cells #[VI lv,VU tg,VU asd,.bool gl,.bool vv,VU pt] 216 (0,0))):=fC v6 _)
         | (replace mP:=mP;have RS:Hid ((v6.alloc (Obj.cells #[VI lv,VU tg,VU asd,.bool gl,.bool vv,VU pt] 221)).heap[v6.heap.size]?=some (.cells #[VI lv,VU tg,VU asd,.bool gl,.bool vv,VU pt] 221 (0,0))):=fC v6 _)
        first
         | (replace mL:=mL;have l7:v6.heap.size<(v6.alloc (Obj.cells #[VI lv,VU tg,VU asd,.bool gl,.bool vv,VU pt] 216)).heap.size:=by simp)
         | (replace mP:=mP;have l7:v6.heap.size<(v6.alloc (Obj.cells #[VI lv,VU tg,VU asd,.bool gl,.bool vv,VU pt] 221)).heap.size:=by simp)
        have R2:=ah Q2 n7;have RC:=ah QC n7;first
         | (replace mL:=mL;have RO:Hid ((v6.alloc (Obj.cells #[VI lv,VU tg,VU asd,.bool gl,.bool vv,VU pt] 216)).ownsRow v2.heap.size 216 6 (SL g n n) n (aC (dH k n es))):=aq QO.out n7)
         | (replace mP:=mP;have RO:Hid ((v6.alloc (Obj.cells #[VI lv,VU tg,VU asd,.bool gl,.bool vv,VU pt] 221)).ownsRow v2.heap.size 221 6 (SL g n n) n (aC (dH k n es))):=aq QO.out n7)
        have n57:=bst n56 n7;have A7:=bst A3 n57;have B7:=bst hb n57;have m1:w.heap.size+1<v6.heap.size:=by omega
        clear n5 n6 n56 n7 n57 Q1 Q2 QC QO;go_wp2_with fail;first
         | (replace mL:=mL;generalize v6.alloc (Obj.cells #[VI lv,VU tg,VU asd,.bool gl,.bool vv,VU pt] 216)=v7 at RS l7 R2 RC RO A7 B7 |-)
         | (replace mP:=mP;generalize v6.alloc (Obj.cells #[VI lv,VU tg,VU asd,.bool gl,.bool vv,VU pt] 221)=v7 at RS l7 R2 RC RO A7 B7 |-)
        obtain ⟨⟨p0,p1,p2⟩,_,_,_⟩:=aF RC.out;obtain ⟨⟨d0,d1,d2⟩,e0,e1,e2⟩:=aF R2.out;obtain ⟨⟨s0,s1,s2,s3,s4,s5⟩,_⟩:=iQ RS.out;obtain ⟨sx,hsx⟩:∃sx,tg%sets=sx:=⟨_,rfl⟩;first
         | (replace mL:=mL;have HSet:Hid (∀q,Calls Tryz.prog 103 #[PT cb 0,VU tg] (v7.drewN q) fun e w'=>e=.returned (VI sx)∧w'=v7.drewN q):=fun q=>by
              have:=pT cb 0 sets tg (v7.drewN q) hs4 p0 hok.2.1.1 hok.2.1.2
              rw [hsx] at this
              exact this)
         | (replace mP:=mP;have HSet:Hid (∀q,Calls Tryz.prog 105 #[PT cb 0,VU tg] (v7.drewN q) fun e w'=>e=.returned (VI sx)∧w'=v7.drewN q):=fun q=>by
              have:=pU cb 0 sets tg (v7.drewN q) hs4 p0 hok.2.1.1 hok.2.1.2
              rw [hsx] at this
              exact this)
        first
         | (replace mL:=mL;have HPl2:Hid (dh ⟨sets,ways,es⟩ false k ⟨vv,lv,tg,asd,gl,pt⟩=(sx == (k:Int)/ways)):=by
              show _=_
              rw [HPl.out,hsx,Bool.true_and])
         | (replace mP:=mP;have HPl2:Hid (dh ⟨sets,ways,es⟩ true k ⟨vv,lv,tg,asd,gl,pt⟩=(sx == (k:Int)/ways)):=by
              show _=_
              rw [HPl.out,hsx,Bool.true_and])
        clear hsx hok HPl;have hdv:0<=(k:Int)/ways∧(k:Int)/ways<=k:=⟨Int.ediv_nonneg (by omega) (by omega),Int.ediv_le_self _ (by omega)⟩;obtain ⟨qv,hqv⟩:∃qv,(k:Int)/ways=qv:=⟨_,rfl⟩;rw [hqv] at hdv HPl2;have hwr:wrap64 ((k:Int)/ways)=qv:=by rw [hqv];unfold wrap64;omega
        clear hqv;by_cases hne:sx=qv
        ·subst hne;first
          | (replace mL:=mL;go_quiet ((go_at_call 103;exact Calls.quiet_of_same (HSet.out _))))
          | (replace mP:=mP;go_quiet ((go_at_call 105;exact Calls.quiet_of_same (HSet.out _))))
         first
          | (replace mL:=mL;have SO:Hid ((v7.drewN nq).ownsRow v2.heap.size 216 6 (SL g n n) n (aC (dH k n es))):=RO)
          | (replace mP:=mP;have SO:Hid ((v7.drewN nq).ownsRow v2.heap.size 221 6 (SL g n n) n (aC (dH k n es))):=RO)
         first
          | (replace mL:=mL;have SC:Hid ((v7.drewN nq).heap[cb]?=some (.cells #[VI sets,VI ways,SL g n n] 81 (0,0))):=RC)
          | (replace mP:=mP;have SC:Hid ((v7.drewN nq).heap[cb]?=some (.cells #[VI sets,VI ways,SL g n n] 84 (0,0))):=RC)
         first
          | (replace mL:=mL;have SS:Hid ((v7.drewN nq).heap[v6.heap.size]?=some (.cells #[VI lv,VU tg,VU asd,.bool gl,.bool vv,VU pt] 216 (0,0))):=RS)
          | (replace mP:=mP;have SS:Hid ((v7.drewN nq).heap[v6.heap.size]?=some (.cells #[VI lv,VU tg,VU asd,.bool gl,.bool vv,VU pt] 221 (0,0))):=RS)
         have B8:Bw v2 (v7.drewN nq):=below_drewN B7 nq;generalize v7.drewN nq=v8 at SO SC SS B8 |-;have hfl:(aC (dH k n es)).length=n*6:=by
          have:=HN.out;subst this;rw [ex,nU _ _ (by omega)]
         have q0:=aQ SO.out (k*6) _ (geg (by omega));have q1:=aQ SO.out (k*6+1) _ (geg (by omega));have q2:=aQ SO.out (k*6+2) _ (geg (by omega));have q3:=aQ SO.out (k*6+3) _ (geg (by omega));have q4:=aQ SO.out (k*6+4) _ (geg (by omega));have q5:=aQ SO.out (k*6+5) _ (geg (by omega));generalize (aC (dH k n es))[k*6]'_=y0 at q0;generalize (aC (dH k n es))[k*6+1]'_=y1 at q1;generalize (aC (dH k n es))[k*6+2]'_=y2 at q2;generalize (aC (dH k n es))[k*6+3]'_=y3 at q3;generalize (aC (dH k n es))[k*6+4]'_=y4 at q4;generalize (aC (dH k n es))[k*6+5]'_=y5 at q5;have r0:=bL SO.out (k*6);have r1:=bL SO.out (k*6+1);have r2:=bL SO.out (k*6+2);have r3:=bL SO.out (k*6+3);have r4:=bL SO.out (k*6+4);have r5:=bL SO.out (k*6+5);clear p0 p1 p2 d0 d1 d2 e0 e1 e2 s0 s1 s2 s3 s4 s5;obtain ⟨⟨p0,p1,p2⟩,_,_,_⟩:=aF SC.out;obtain ⟨⟨s0,s1,s2,s3,s4,s5⟩,_⟩:=iQ SS.out;go_wp2;go_roundw
         case rel=>
          refine ⟨k+1,by omega,by go_num,aA SC.out (au (au (au (au (au (au (ao v8 (some g)) _ _) _ _) _ _) _ _) _ _) _ _) hcg,?_,?_,HPt.out (by rw [HPl2.out];simp)⟩
          ·have:=HN.out;subst this;rw [qF k es _ HXk.out,ik _ _ _ (by rw [nU _ _ (by omega)];exact hlt)];exact br (br (br (br (br (br SO.out _ _) _ _) _ _) _ _) _ _) _ _
          ·exact (((((B8.setCell (p:=(AD g _)) hg1 _).setCell (p:=(AD g _)) hg1 _).setCell (p:=(AD g _)) hg1 _).setCell (p:=(AD g _)) hg1 _).setCell (p:=(AD g _)) hg1 _).setCell (p:=(AD g _)) hg1 _
         case measure=>simp [intOf];omega
        ·have hne':(sx != qv)=true:=by rw [bne_iff_ne];exact hne
         have hxf:X=false:=HPf.out (by rw [HPl2.out];simpa using hne);subst hxf;first
          | (replace mL:=mL;go_quiet ((go_at_call 103;exact Calls.quiet_of_same (HSet.out _))))
          | (replace mP:=mP;go_quiet ((go_at_call 105;exact Calls.quiet_of_same (HSet.out _))))
         go_wp2_with fail;first
          | (replace mL:=mL;exact bodyPost_ret (v:=.tuple #[.agg #[VI 0,VI 0,SN],.bool false]) (by simp [results,Tryz.results77,go_sem,d0,d1,d2]) rfl ⟨rfl,kz (below_drewN A7 _) (by omega) _ _ _⟩)
          | (replace mP:=mP;exact bodyPost_ret (v:=.tuple #[.agg #[VI 0,VI 0,SN],.bool false]) (by simp [results,Tryz.results78,go_sem,d0,d1,d2]) rfl ⟨rfl,kz (below_drewN A7 _) (by omega) _ _ _⟩)
      ·have hz:=HZb.out;simp only [td,Bool.and_eq_true,beq_iff_eq] at hz;obtain ⟨⟨⟨⟨⟨rfl,rfl⟩,rfl⟩,rfl⟩,rfl⟩,rfl⟩:=hz;go_wp2;go_roundw
       case rel=>exact ⟨k+1,by omega,by go_num,(ah PC n5).out,by
        have:=HN.out;subst this;rw [xH k es HXk.out];exact aq PO.out n5,bst hb n5,HPt.out (by simp [dh])⟩
       case measure=>simp [intOf];omega
     ·have hkn:k=n:=by omega
      subst hkn;have hxt:X=true:=by
       rw [<-HX.out];unfold aY;rw [HSM.out];simp only [Bool.true_and];first
        | (replace mL:=mL;exact gP _ false es 0 (fun j x hx=>by rw [Nat.zero_add];exact HA.out j x (by have:=(List.getElem?_eq_some_iff.1 hx).1;have:=HN.out;omega) hx))
        | (replace mP:=mP;exact gP _ true es 0 (fun j x hx=>by rw [Nat.zero_add];exact HA.out j x (by have:=(List.getElem?_eq_some_iff.1 hx).1;have:=HN.out;omega) hx))
      subst hxt;obtain ⟨⟨d0,d1,d2⟩,e0,e1,e2⟩:=aF P2.out;obtain ⟨⟨p0,p1,p2⟩,_,_,_⟩:=aF PC.out;have ne6:w.heap.size+1≠cb:=by omega
      go_wp2_with fail;first
       | (replace mL:=mL;refine bodyPost_ret (v:=.tuple #[.agg #[VI sets,VI ways,SL g k k],.bool true]) (by simp [results,Tryz.results77,go_sem,d0,d1,d2]) rfl ⟨⟨g,by simp only;rw [HN.out],?_⟩,kz A3 (by omega) _ _ _⟩)
       | (replace mP:=mP;refine bodyPost_ret (v:=.tuple #[.agg #[VI sets,VI ways,SL g k k],.bool true]) (by simp [results,Tryz.results78,go_sem,d0,d1,d2]) rfl ⟨⟨g,by simp only;rw [HN.out],?_⟩,kz A3 (by omega) _ _ _⟩)
      simp only;rw [HN.out];have:=PO.out;have hq:=HN.out;subst hq;rw [zy] at this;exact bS (aE this (gb3 wr (w.heap.size+1) _ _ _) (by omega)) (by omega)
end
section
attribute [local go_sem ↓] Go.wp_at_zero Go.wp_at_succ
theorem GV (w:World) (g i:Nat) (x y z u v t:Value):w.grownBy ((((((w.setCell (AD g i) x).setCell ⟨g,i+1,none⟩ y).setCell ⟨g,i+2,none⟩ z).setCell ⟨g,i+3,none⟩ u).setCell ⟨g,i+4,none⟩ v).setCell ⟨g,i+5,none⟩ t) (some g):=
 au (au (au (au (au (au (ao w (some g)) _ _) _ _) _ _) _ _) _ _) _ _
theorem GX (w:World) (g i:Nat) (x y z u v t:Value):w.grownBy ((((((w.setCell (AD g i) x).setCell ⟨g,i+1,none⟩ y).setCell ⟨g,i+2,none⟩ z).setCell ⟨g,i+3,none⟩ u).setCell ⟨g,i+4,none⟩ v).setCell ⟨g,i+5,none⟩ t) (some g):=
 au (au (au (au (au (au (ao w (some g)) _ _) _ _) _ _) _ _) _ _) _ _
def pA (z0:Nat) (z1:Nat):Prop:=∀(b o g n base:Nat) (t:TlbM) (e:EntM) (pick:Int) (w:World) (hn:t.es.length=n) (hn1:n<=1048576) (hs4:t.sets=1∨t.sets=2∨t.sets=4∨t.sets=8) (hw1:1<=t.ways) (hw4:t.ways<=4) (hnw:(n:Int)=t.sets*t.ways) (hbl:b<w.heap.size) (hbg:b≠g)
 (c0:w.cell? (AD b o)=some (VI t.sets)) (c1:w.cell? ⟨b,o+1,none⟩=some (VI t.ways)) (c2:w.cell? ⟨b,o+2,none⟩=some (SL g n n)) (ho:w.ownsRow base z1 6 (SL g n n) n (aC t.es)) (ht0:0<=e.tag) (ht1:e.tag<=18446744073709551615) (hp0:0<=pick) (hp1:pick<=255),Calls Tryz.prog z0 #[PT b o,dv e,VI pick] w fun x w'=>x=.returned (.tuple #[])∧w'.ownsRow base z1 6 (SL g n n) n (aC (t.es.set (gn t e+oz t e pick) e))∧w.grownBy w' (some g)
theorem qP:pA 206 216∧pA 205 221:=by
 refine ⟨?_,?_⟩;have mL:=trivial
 rotate_left
 have mP:=trivial
 rotate_left
 all_goals
  intro b o g n base t e pick w hn hn1 hs4 hw1 hw4 hnw hbl hbg c0 c1 c2 ho ht0 ht1 hp0 hp1;obtain ⟨sets,ways,es⟩:=t;obtain ⟨vv,lv,tg,asd,gl,pt⟩:=e;simp only at *;first
   | (replace mL:=mL;have HO:Hid (w.ownsRow base 216 6 (SL g n n) n (aC es)):=ho)
   | (replace mP:=mP;have HO:Hid (w.ownsRow base 221 6 (SL g n n) n (aC es)):=ho)
  have HN:=hid hn;have hg:=(cQ ho).2.2;simp only at hg;clear ho hn;obtain ⟨sx,hsx⟩:∃sx,tg%sets=sx:=⟨_,rfl⟩;have hsb:0<=sx∧sx<sets:=by rw [<-hsx];exact ⟨Int.emod_nonneg _ (by omega),Int.emod_lt_of_pos _ (by omega)⟩
  obtain ⟨f,hf⟩:∃f:Nat,(f:Int)=sx*ways:=⟨(sx*ways).toNat,Int.toNat_of_nonneg (Int.mul_nonneg hsb.1 (by omega))⟩;have hfn:(f:Int)+ways<=n:=by
   rw [hnw,hf];have:(sx+1)*ways<=sets*ways:=Int.mul_le_mul_of_nonneg_right (by omega) (by omega);rw [Int.add_mul,Int.one_mul] at this;exact this
  have HFi:Hid (gn ⟨sets,ways,es⟩ ⟨vv,lv,tg,asd,gl,pt⟩=f):=by
   show _=_;unfold gn;simp only;rw [hsx,<-hf];simp
  have HWm:=hid hf.symm;obtain ⟨P,hP⟩:∃P,oz ⟨sets,ways,es⟩ ⟨vv,lv,tg,asd,gl,pt⟩ pick=P:=⟨_,rfl⟩;have HW:=hid hP;rw [HFi.out,hP];clear hP hnw;unfold dv;simp only;first
   | (replace mL:=mL;have n1:=(Below.refl w.heap.size w).alloc nle (Obj.cells #[VI lv,VU tg,VU asd,.bool gl,.bool vv,VU pt] 216))
   | (replace mP:=mP;have n1:=(Below.refl w.heap.size w).alloc nle (Obj.cells #[VI lv,VU tg,VU asd,.bool gl,.bool vv,VU pt] 221))
  first
   | (replace mL:=mL;have H1:Hid ((w.alloc (Obj.cells #[VI lv,VU tg,VU asd,.bool gl,.bool vv,VU pt] 216)).heap[w.heap.size]?=some (.cells #[VI lv,VU tg,VU asd,.bool gl,.bool vv,VU pt] 216 (0,0))):=fC w _)
   | (replace mP:=mP;have H1:Hid ((w.alloc (Obj.cells #[VI lv,VU tg,VU asd,.bool gl,.bool vv,VU pt] 221)).heap[w.heap.size]?=some (.cells #[VI lv,VU tg,VU asd,.bool gl,.bool vv,VU pt] 221 (0,0))):=fC w _)
  first
   | (replace mL:=mL;have l1:(w.alloc (Obj.cells #[VI lv,VU tg,VU asd,.bool gl,.bool vv,VU pt] 216)).heap.size=w.heap.size+1:=by simp)
   | (replace mP:=mP;have l1:(w.alloc (Obj.cells #[VI lv,VU tg,VU asd,.bool gl,.bool vv,VU pt] 221)).heap.size=w.heap.size+1:=by simp)
  first
   | (replace mL:=mL;go_enter Tryz.func206,Tryz.ntmps206)
   | (replace mP:=mP;go_enter Tryz.func205,Tryz.ntmps205)
  go_wp2_with fail;first
   | (replace mL:=mL;generalize w.alloc (Obj.cells #[VI lv,VU tg,VU asd,.bool gl,.bool vv,VU pt] 216)=v1 at n1 H1 l1 |-)
   | (replace mP:=mP;generalize w.alloc (Obj.cells #[VI lv,VU tg,VU asd,.bool gl,.bool vv,VU pt] 221)=v1 at n1 H1 l1 |-)
  have r0:=Below.cell2 n1 c0 hbl;have r1:=Below.cell2 n1 c1 hbl;obtain ⟨⟨x0,x1,x2,x3,x4,x5⟩,_⟩:=iQ H1.out;first
   | (replace mL:=mL;have HSt:Hid (∀q,Calls Tryz.prog 103 #[PT b o,VU tg] (v1.drewN q) fun e w'=>e=.returned (VI sx)∧w'=v1.drewN q):=fun q=>by
        have:=pT b o sets tg (v1.drewN q) hs4 r0 ht0 ht1
        rw [hsx] at this
        exact this)
   | (replace mP:=mP;have HSt:Hid (∀q,Calls Tryz.prog 105 #[PT b o,VU tg] (v1.drewN q) fun e w'=>e=.returned (VI sx)∧w'=v1.drewN q):=fun q=>by
        have:=pU b o sets tg (v1.drewN q) hs4 r0 ht0 ht1
        rw [hsx] at this
        exact this)
  clear hsx hf;go_cut [6] (fun s6 wx=>s6=VI f∧∃q,wx=v1.drewN q)
  case first=>
   first
    | (replace mL:=mL;go_quiet ((go_at_call 103;exact Calls.quiet_of_same (HSt.out _))))
    | (replace mP:=mP;go_quiet ((go_at_call 105;exact Calls.quiet_of_same (HSt.out _))))
   go_wp2;go_meet;exact ⟨by rw [HWm.out];(try (rw [show wrap64 (f:Int)=f from by unfold wrap64;omega])),nq,rfl⟩
  case rest=>
   obtain ⟨rfl,q,rfl⟩:=hcut;have n2:=below_drewN n1 q;first
    | (replace mL:=mL;have H2:Hid ((v1.drewN q).heap[w.heap.size]?=some (.cells #[VI lv,VU tg,VU asd,.bool gl,.bool vv,VU pt] 216 (0,0))):=H1)
    | (replace mP:=mP;have H2:Hid ((v1.drewN q).heap[w.heap.size]?=some (.cells #[VI lv,VU tg,VU asd,.bool gl,.bool vv,VU pt] 221 (0,0))):=H1)
   have l2:=l1;generalize v1.drewN q=v2 at n2 H2 l2 |-;first
    | (replace mL:=mL;have O2:Hid (v2.ownsRow base 216 6 (SL g n n) n (aC es)):=aq HO.out n2)
    | (replace mP:=mP;have O2:Hid (v2.ownsRow base 221 6 (SL g n n) n (aC es)):=aq HO.out n2)
   clear r0 r1 x0 x1 x2 x3 x4 x5 HSt H1 n1 l1 HWm;have r1:=Below.cell2 n2 c1 hbl;have r2:=Below.cell2 n2 c2 hbl;obtain ⟨⟨x0,x1,x2,x3,x4,x5⟩,_⟩:=iQ H2.out;have hll:(aC es).length=n*6:=by rw [ex,HN.out]
   have hgw:g≠w.heap.size:=by omega
   have hwg:w.heap.size≠g:=by omega
   go_wp2
   go_loop [7] (fun i=>∃q:Nat,f<=q∧(q:Int)<=f+ways∧i=VI q∧Hid (∀q':Nat,f<=q'->q'<q->(es[q']?.getD cM).valid=true)) (fun i=>f+4-(intOf i).toNat)
   case atStart=>exact ⟨f,nle,by omega,rfl,fun q' h h'=>absurd h' (by omega)⟩
   case round=>
    obtain ⟨q,hq1,hq2,rfl,HQ⟩:=hrel;by_cases hqt:(q:Int)<f+ways
    ·have hqn:q<n:=by omega
     obtain ⟨⟨wv,wl,wt,wa,wg,wp⟩,hx⟩:∃x,es[q]?=some x:=⟨_,geg (by rw [HN.out];exact hqn)⟩;have HXq:=hid hx;have g4:=pV O2.out HN.out q _ hx 4 _ (by omega) rfl;clear hx;cases wv
     ·have hP:P=q-f:=by
       rw [<-HW.out];unfold oz;simp only;rw [HFi.out,sA es f ways.toNat 0 (q-f) (by omega) (fun j hj=>by rw [Nat.zero_add];exact HQ.out (f+j) (by omega) (by omega)) (by rw [Nat.zero_add,show f+(q-f)=q by omega,HXq.out];rfl)];simp
      subst hP;go_wp2_with fail;have q0:=aQ O2.out (q*6) _ (geg (by omega));have q1:=aQ O2.out (q*6+1) _ (geg (by omega));have q2:=aQ O2.out (q*6+2) _ (geg (by omega));have q3:=aQ O2.out (q*6+3) _ (geg (by omega));have q4z:=aQ O2.out (q*6+4) _ (geg (by omega));have q5:=aQ O2.out (q*6+5) _ (geg (by omega));generalize (aC es)[q*6]'_=y0 at q0;generalize (aC es)[q*6+1]'_=y1 at q1;generalize (aC es)[q*6+2]'_=y2 at q2;generalize (aC es)[q*6+3]'_=y3 at q3;generalize (aC es)[q*6+4]'_=y4 at q4z;generalize (aC es)[q*6+5]'_=y5 at q5;have s0:=bL O2.out (q*6);have s1:=bL O2.out (q*6+1);have s2:=bL O2.out (q*6+2);have s3:=bL O2.out (q*6+3);have s4:=bL O2.out (q*6+4);have s5:=bL O2.out (q*6+5);go_still_tail 7,(by kernel_rfl);go_wp2_with fail;first
       | (replace mL:=mL;refine bodyPost_ret (v:=.tuple #[]) (by simp [results,Tryz.results206,go_sem]) rfl ⟨rfl,?_,?_⟩)
       | (replace mP:=mP;refine bodyPost_ret (v:=.tuple #[]) (by simp [results,Tryz.results205,go_sem]) rfl ⟨rfl,?_,?_⟩)
      ·rw [show f+(q-f)=q by omega,ik es q _ (by rw [HN.out];exact hqn)];exact sW (br (br (br (br (br (br O2.out _ _) _ _) _ _) _ _) _ _) _ _)
      ·first
        | (replace mL:=mL;exact dY (ui n2) (dY (GV v2 g (q*6) _ _ _ _ _ _) (rj _ _)))
        | (replace mP:=mP;exact dY (ui n2) (dY (GX v2 g (q*6) _ _ _ _ _ _) (rj _ _)))
     ·go_wp2
      go_round
      case rel=>exact ⟨q+1,by omega,by omega,by go_num,fun q' h1 h2=>by
       by_cases e:q'=q
       ·subst e;rw [HXq.out];rfl
       ·exact HQ.out q' h1 (by omega)⟩
      case measure=>simp [intOf];omega
    ·have hP:P=(pick%ways).toNat:=by
      rw [<-HW.out];unfold oz;simp only;rw [HFi.out,sB es f ways.toNat 0 (fun j hj=>by rw [Nat.zero_add];exact HQ.out (f+j) (by omega) (by omega))];rfl
     have hpm:0<=pick%ways∧pick%ways<ways:=⟨Int.emod_nonneg _ (by omega),Int.emod_lt_of_pos _ (by omega)⟩;obtain ⟨r,hr⟩:∃r:Nat,(r:Int)=pick%ways:=⟨(pick%ways).toNat,Int.toNat_of_nonneg hpm.1⟩;have hPr:P=r:=by rw [hP,<-hr];simp
     subst hPr;clear hP hpm;have hrm:=hr.symm;have hrb:(f:Int)+P<n:=by
      have:pick%ways<ways:=Int.emod_lt_of_pos _ (by omega);omega
     have hw0:¬(ways=0):=by omega
     have htm:pick.tmod ways=(P:Int):=by rw [Int.tmod_eq_emod_of_nonneg hp0];exact hr.symm
     clear hr hrm;obtain ⟨d,hd⟩:∃d:Nat,f+P=d:=⟨_,rfl⟩;have hdn:d<n:=by omega
     have HD:=hid hd;have hfp:(f:Int)+(P:Int)=(d:Int):=by omega
     clear hd;have hwd:IntKind.i64.wrap (d:Int)=(d:Int):=(IntKind.wrap_i64 _).trans (by omega);go_wp2_with fail;have q0:=aQ O2.out (d*6) _ (geg (by omega));have q1:=aQ O2.out (d*6+1) _ (geg (by omega));have q2:=aQ O2.out (d*6+2) _ (geg (by omega));have q3:=aQ O2.out (d*6+3) _ (geg (by omega));have q4:=aQ O2.out (d*6+4) _ (geg (by omega));have q5:=aQ O2.out (d*6+5) _ (geg (by omega));generalize (aC es)[d*6]'_=y0 at q0;generalize (aC es)[d*6+1]'_=y1 at q1;generalize (aC es)[d*6+2]'_=y2 at q2;generalize (aC es)[d*6+3]'_=y3 at q3;generalize (aC es)[d*6+4]'_=y4 at q4;generalize (aC es)[d*6+5]'_=y5 at q5;have s0:=bL O2.out (d*6);have s1:=bL O2.out (d*6+1);have s2:=bL O2.out (d*6+2);have s3:=bL O2.out (d*6+3);have s4:=bL O2.out (d*6+4);have s5:=bL O2.out (d*6+5);go_still_tail 14,(by kernel_rfl);go_wp2;go_end0;refine ⟨rfl,?_,?_⟩
     ·rw [HD.out,ik es d _ (by rw [HN.out];exact hdn)];exact sW (br (br (br (br (br (br O2.out _ _) _ _) _ _) _ _) _ _) _ _)
     ·first
       | (replace mL:=mL;exact dY (ui n2) (dY (GV v2 g (d*6) _ _ _ _ _ _) (rj _ _)))
       | (replace mP:=mP;exact dY (ui n2) (dY (GX v2 g (d*6) _ _ _ _ _ _) (rj _ _)))
end
def tn (z0:Nat) (z1:Nat):Prop:=∀(b o g n base:Nat) (t:TlbM) (pt lv va asd pick:Int) (w:World) (hn:t.es.length=n) (hn1:n<=1048576) (hs4:t.sets=1∨t.sets=2∨t.sets=4∨t.sets=8) (hw1:1<=t.ways) (hw4:t.ways<=4) (hnw:(n:Int)=t.sets*t.ways) (hbl:b<w.heap.size) (hbg:b≠g)
 (c0:w.cell? (AD b o)=some (VI t.sets)) (c1:w.cell? ⟨b,o+1,none⟩=some (VI t.ways)) (c2:w.cell? ⟨b,o+2,none⟩=some (SL g n n)) (ho:w.ownsRow base z1 6 (SL g n n) n (aC t.es))
 (hl:lv=0∨lv=1∨lv=2) (hv0:0<=va) (hv1:va<=18446744073709551615) (h0:0<=pt) (h1:pt<=18446744073709551615) (hp0:0<=pick) (hp1:pick<=255),Calls Tryz.prog z0 #[PT b o,VU pt,VI lv,VU va,VU asd,VI pick] w fun x w'=>x=.returned (.tuple #[])∧
  w'.ownsRow base z1 6 (SL g n n) n (aC (t.es.set (gn t ⟨true,lv,dP va lv,asd,bJ pt 32,pt⟩+oz t ⟨true,lv,dP va lv,asd,bJ pt 32,pt⟩ pick) ⟨true,lv,dP va lv,asd,bJ pt 32,pt⟩))∧w.grownBy w' (some g)
theorem qh:tn 201 216∧tn 200 221:=by
 refine ⟨?_,?_⟩;have mL:=trivial
 rotate_left
 have mP:=trivial
 rotate_left
 all_goals
  intro b o g n base t pt lv va asd pick w hn hn1 hs4 hw1 hw4 hnw hbl hbg c0 c1 c2 ho hl hv0 hv1 h0 h1 hp0 hp1;have hgl:=(cQ ho).2.2;simp only at hgl;first
   | (replace mL:=mL;have HO:Hid (w.ownsRow base 216 6 (SL g n n) n (aC t.es)):=ho)
   | (replace mP:=mP;have HO:Hid (w.ownsRow base 221 6 (SL g n n) n (aC t.es)):=ho)
  have htb:=pe va lv hl;have HR:=hid fun w=>yI pt lv va asd w hl hv0 hv1 h0 h1;generalize dP va lv=tm at *;generalize bJ pt 32=g5 at *;clear ho;first
   | (replace mL:=mL;go_enter Tryz.func201,Tryz.ntmps201)
   | (replace mP:=mP;go_enter Tryz.func200,Tryz.ntmps200)
  go_wp2_with fail;refine (HR.out w).mono ?_;rintro e v1 ⟨rfl,n1⟩;have n2:=n1.alloc n1.size (Obj.cells #[VI lv,VU tm,VU asd,.bool g5] 214);go_wp2_with fail;generalize v1.alloc (Obj.cells #[VI lv,VU tm,VU asd,.bool g5] 214)=v2 at n2 |-;first
   | (replace mL:=mL;refine (qP.1 b o g n base t ⟨true,lv,tm,asd,g5,pt⟩ pick v2 hn hn1 hs4 hw1 hw4 hnw (ltl hbl n2.size) hbg (Below.cell2 n2 c0 hbl) (Below.cell2 n2 c1 hbl) (Below.cell2 n2 c2 hbl) (aq HO.out n2) htb.1 (by simp only;omega) hp0 hp1).mono ?_)
   | (replace mP:=mP;refine (qP.2 b o g n base t ⟨true,lv,tm,asd,g5,pt⟩ pick v2 hn hn1 hs4 hw1 hw4 hnw (ltl hbl n2.size) hbg (Below.cell2 n2 c0 hbl) (Below.cell2 n2 c1 hbl) (Below.cell2 n2 c2 hbl) (aq HO.out n2) htb.1 (by simp only;omega) hp0 hp1).mono ?_)
  rintro e v3 ⟨rfl,o3,m3⟩;go_wp2;go_end0;exact ⟨rfl,o3,dY (ui n2) m3⟩
section
attribute [local go_sem ↓] Go.wp_at_zero Go.wp_at_succ
theorem Keeps.row {w w':World} {x y z g n size:Nat} {cs:List Value} (h:RowC w (some (AD g 0)) n size cs) (hk:Keeps w w' x y z) (h1:g≠x) (h2:g≠y) (h3:g≠z):RowC w' (some (AD g 0)) n size cs:=by
 obtain ⟨a,b⟩:=h;refine ⟨a,?_⟩;rcases b with b | ⟨q,o,e,hlt,hc⟩
 ·exact .inl b
 ·cases e;exact .inr ⟨g,0,rfl,ltl hlt hk.2.2.2.1,fun i v hi=>(World.cell?_of_block (hk.2.2.2.2 g hlt h1 h2 h3)).trans (hc i v hi)⟩
theorem Aj:∀(rs:List aP) (j:Nat) (r:aP),rs[j]?=some r->(cj rs)[j*3]?=some (VI r.1)∧(cj rs)[j*3+1]?=some (VU r.2.1)∧(cj rs)[j*3+2]?=some (VU r.2.2)
 | x::rs,0,r,h=>by
  simp at h;subst h;simp [cj,xy]
 | x::rs,j+1,r,h=>by
  have ih:=Aj rs j r (by simpa using h);have e0:(j+1)*3=j*3+3:=by omega
  rw [e0];simpa [cj,xy] using ih
theorem Bn (va satp pick:Int) (ps:List aP) (j:Nat) (r:aP) (p:TlbM) (h:ps[j]?=some r) (hk:aU r.2.2 r.1=1):db va satp pick (ps.take (j+1)) p=eE (db va satp pick (ps.take j) p) (iL r.1 va satp r.2.2) pick:=by
 rw [List.take_add_one,h,lQ];simp only [Option.toList,db];rw [if_pos hk]
theorem nz {t:TlbM} {e:EntM} {pick:Int} {p:Bool} (hv:aY t p=true) (hg:bB e p=true) (hp:0<=pick∧pick<=255):eE t e pick=⟨t.sets,t.ways,t.es.set (gn t e+oz t e pick) e⟩:=by
 have hf:vS t e=true:=by
  simp only [vS,Bool.or_eq_true,Bool.and_eq_true];cases p
  ·exact .inr ⟨hv,hg⟩
  ·exact .inl ⟨hv,hg⟩
 unfold eE;rw [if_pos ⟨hf,hp.1,hp.2⟩]
def fo (k:KM) (kind va satp pick:Int) (r:Int × Int × Int × List aP) (code:Int):KM:=
 if code=1 then vU ⟨k.i,k.d,db va satp pick r.2.2.2 k.p⟩ kind (eE (eY k kind) (iL r.2.1 va satp r.2.2.1) pick) else ⟨k.i,k.d,db va satp pick r.2.2.2 k.p⟩
end
end Go.Proofs.YthdgiakgepmabaaGreat
