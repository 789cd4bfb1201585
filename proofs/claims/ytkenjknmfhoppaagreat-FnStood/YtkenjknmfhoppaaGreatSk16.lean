import Derived.BigRegion
import Derived.Deep.Cut
import Derived.Test.YtkenjknmfhoppaaGreatSk15
namespace Go.Proofs.YtkenjknmfhoppaaGreat
open Go.RowKit
set_option linter.unusedVariables false
set_option maxHeartbeats 6400000
set_option maxRecDepth 20000
section
attribute [local go_sem ↓] Go.wp_at_zero Go.wp_at_succ
theorem Tryz.infoSlotL:(Tryz.prog.info? 246).map (fun i=>(i.zero,i.size,i.bytes))=some (some (.agg #[VI 0,VU 0,VU 0,.bool false,.bool false,VU 0]),6,48):=by kernel_rfl
theorem Tryz.infoSlotP:(Tryz.prog.info? 251).map (fun i=>(i.zero,i.size,i.bytes))=some (some (.agg #[VI 0,VU 0,VU 0,.bool false,.bool false,VU 0]),6,48):=by kernel_rfl
def BO (base:Nat) (w:World) (e:Ending) (t:TlbM):Prop:=
 ∃g,e=.returned (.tuple #[.agg #[VI t.sets,VI t.ways,SL g t.es.length t.es.length],.bool true])∧w.ownsRow base 246 6 (SL g t.es.length t.es.length) t.es.length (aI t.es)
def BP (base:Nat) (w:World) (e:Ending) (t:TlbM):Prop:=
 ∃g,e=.returned (.tuple #[.agg #[VI t.sets,VI t.ways,SL g t.es.length t.es.length],.bool true])∧w.ownsRow base 251 6 (SL g t.es.length t.es.length) t.es.length (aI t.es)
def Dt (z0:Nat) (z1:Nat):Prop:=∀(n:Nat) (hn:n<=1048576),∃cs:Array Value,cs.toList=aI (List.replicate n cH)∧∀u:World,(Instr.makeSlice z0 (VI (n:Int)) (VI (n:Int))).run Tryz.prog u=.ok (SL u.heap.size n n) (u.alloc (.cells cs z1))
theorem EV:Dt 86 246∧Dt 89 251:=by
 refine ⟨?_,?_⟩;have mL:=trivial
 rotate_left
 have mP:=trivial
 rotate_left
 all_goals
  intro n hn;first
   | (replace mL:=mL;obtain ⟨i0,hi,hz0,hz1,hz2⟩:=info_parts Tryz.infoSlotL)
   | (replace mP:=mP;obtain ⟨i0,hi,hz0,hz1,hz2⟩:=info_parts Tryz.infoSlotP)
  refine ⟨madeCells (Value.agg #[VI 0,VU 0,VU 0,.bool false,.bool false,VU 0]).cells (n*6),?_,fun u=>?_⟩
  ·exact CZ cH n
  ·first
    | (replace mL:=mL;have:=run_make (P:=Tryz.prog) u 86 246 i0 _ Tryz.underlying86 hi hz0 .i64 .i64 n n (by omega) (Int.le_refl _) (by rw [hz2];omega) (by omega))
    | (replace mP:=mP;have:=run_make (P:=Tryz.prog) u 89 251 i0 _ Tryz.underlying89 hi hz0 .i64 .i64 n n (by omega) (Int.le_refl _) (by rw [hz2];omega) (by omega))
   rw [hz1] at this;simpa using this
theorem pW:(∀(v:Value) (t:TlbM) (w:World) (h:TlbAt w v t),Calls Tryz.prog 107 #[v] w fun e w'=>cond (aR t false) (BO w.heap.size w' e t) (e=.returned (.tuple #[.agg #[VI 0,VI 0,SN],.bool false]))∧Bw w w')∧
 (∀(v:Value) (t:TlbM) (w:World) (h:TlbAt w v t),Calls Tryz.prog 108 #[v] w fun e w'=>cond (aR t true) (BP w.heap.size w' e t) (e=.returned (.tuple #[.agg #[VI 0,VI 0,SN],.bool false]))∧Bw w w'):=by
 refine ⟨?_,?_⟩;have mL:=trivial
 rotate_left
 have mP:=trivial
 rotate_left
 all_goals
  intro v t w h;obtain ⟨a,cap,rfl,hr,he,hs,hw,hl,hlc,hcm,hnil,hsp⟩:=h;obtain ⟨sets,ways,es⟩:=t;obtain ⟨n,hn⟩:∃n,es.length=n:=⟨_,rfl⟩;simp only at hr he hs hw hl hlc hnil |-;have HN:=hid hn;rw [hn] at hr hl hlc hnil |-;have HR:=hid hr;have HE:=hid he;first
   | (replace mL:=mL;obtain ⟨X,hX⟩:∃X,aR ⟨sets,ways,es⟩ false=X:=⟨_,rfl⟩)
   | (replace mP:=mP;obtain ⟨X,hX⟩:∃X,aR ⟨sets,ways,es⟩ true=X:=⟨_,rfl⟩)
  first
   | (replace mL:=mL;have HX:Hid (aR ⟨sets,ways,es⟩ false=X):=hX)
   | (replace mP:=mP;have HX:Hid (aR ⟨sets,ways,es⟩ true=X):=hX)
  rw [hX];clear hX hr he hnil hsp hn;first
   | (replace mL:=mL;obtain ⟨v1,Ev1,n1,H1,H2,l1⟩:=al2 w #[VI sets,VI ways,.slice a n cap] #[VI 0,VI 0,SN] 39 88)
   | (replace mP:=mP;obtain ⟨v1,Ev1,n1,H1,H2,l1⟩:=al2 w #[VI sets,VI ways,.slice a n cap] #[VI 0,VI 0,SN] 39 91)
  obtain ⟨sb,hsb⟩:∃sb,decide ((sets=1∨sets=2∨sets=4∨sets=8)∧1<=ways∧ways<=4∧(n:Int)=sets*ways)=sb:=⟨_,rfl⟩;have HSb:=hid hsb;have HSM:Hid (jA ⟨sets,ways,es⟩=sb):=by show _=_;unfold jA;simp only;rw [HN.out];exact hsb
  clear hsb;first
   | (replace mL:=mL;go_enter Tryz.func107,Tryz.ntmps107)
   | (replace mP:=mP;go_enter Tryz.func108,Tryz.ntmps108)
  go_wp2_with fail;rw [Ev1.out];clear Ev1;refine (tr sets ways a n cap v1 hl hs hw).mono ?_;rw [HSb.out];rintro e v2 ⟨rfl,n2⟩;have A2:=bst n1 n2;have K1:=ah H1 n2;have K2:=ah H2 n2;have l2:=ltl l1 n2.size;clear n1 n2 H1 H2 l1;obtain ⟨⟨c0,c1,c2⟩,_,_,_⟩:=aA K1.out;obtain ⟨⟨d0,d1,d2⟩,e0,e1,e2⟩:=aA K2.out;cases sb
  ·have hxf:X=false:=by rw [<-HX.out];unfold aR;rw [HSM.out];rfl
   subst hxf;go_wp2_with fail;first
    | (replace mL:=mL;exact bodyPost_ret (v:=.tuple #[.agg #[VI 0,VI 0,SN],.bool false]) (by simp [results,Tryz.results107,go_sem,d0,d1,d2]) rfl ⟨rfl,gQ A2 (by omega) _ _ _⟩)
    | (replace mP:=mP;exact bodyPost_ret (v:=.tuple #[.agg #[VI 0,VI 0,SN],.bool false]) (by simp [results,Tryz.results108,go_sem,d0,d1,d2]) rfl ⟨rfl,gQ A2 (by omega) _ _ _⟩)
  ·have hsh:(sets=1∨sets=2∨sets=4∨sets=8)∧1<=ways∧ways<=4∧(n:Int)=sets*ways:=by simpa using HSb.out
   obtain ⟨hs4,hw1,hw4,hnw⟩:=hsh;have hn0:0<n:=by
    have:0<sets*ways:=Int.mul_pos (by omega) (by omega);omega
   first
    | (replace mL:=mL;obtain ⟨cs,hcs,hmk⟩:=EV.1 n hl)
    | (replace mP:=mP;obtain ⟨cs,hcs,hmk⟩:=EV.2 n hl)
   have HCS:=hid hcs;clear hcs HSb;have HNw:=hid hnw;clear hnw;have ne1:v2.heap.size≠w.heap.size:=by omega
   have ne2:v2.heap.size≠w.heap.size+1:=by omega
   have ne3:w.heap.size<v2.heap.size:=by omega
   have ne4:w.heap.size≠v2.heap.size:=by omega
   have ne5:w.heap.size≠v2.heap.size+1:=by omega
   go_wp2_with fail;first
    | (replace mL:=mL;go_cut [4] (fun s4 wx=>∃cb g,s4=PT cb 0∧v2.heap.size<=cb∧cb<wx.heap.size∧cb≠g∧wx.heap[cb]?=some (.cells #[VI sets,VI ways,SL g n n] 88 (0,0))∧wx.ownsRow v2.heap.size 246 6 (SL g n n) n (aI (List.replicate n cH))∧Bw v2 wx))
    | (replace mP:=mP;go_cut [4] (fun s4 wx=>∃cb g,s4=PT cb 0∧v2.heap.size<=cb∧cb<wx.heap.size∧cb≠g∧wx.heap[cb]?=some (.cells #[VI sets,VI ways,SL g n n] 91 (0,0))∧wx.ownsRow v2.heap.size 251 6 (SL g n n) n (aI (List.replicate n cH))∧Bw v2 wx))
   case first=>
    go_region
    ·go_wp2;go_meet;first
      | (replace mL:=mL;obtain ⟨q1,q2,q3,q4⟩:=xM v2 88 246 #[VI sets,VI ways,SL v2.heap.size n n] cs _ n HCS.out (by rw [eN];simp) (by unfold maxLen;omega))
      | (replace mP:=mP;obtain ⟨q1,q2,q3,q4⟩:=xM v2 91 251 #[VI sets,VI ways,SL v2.heap.size n n] cs _ n HCS.out (by rw [eN];simp) (by unfold maxLen;omega))
     exact ⟨_,_,rfl,by omega,q4,by omega,q1,q2,q3⟩
    ·go_wp2;go_meet;first
      | (replace mL:=mL;obtain ⟨q1,q2,q3,q4⟩:=xN v2 88 246 #[VI sets,VI ways,.slice (some ⟨v2.heap.size+1,0,none⟩) n n] cs _ n HCS.out (by rw [eN];simp) (by unfold maxLen;omega))
      | (replace mP:=mP;obtain ⟨q1,q2,q3,q4⟩:=xN v2 91 251 #[VI sets,VI ways,.slice (some ⟨v2.heap.size+1,0,none⟩) n n] cs _ n HCS.out (by rw [eN];simp) (by unfold maxLen;omega))
     exact ⟨_,_,rfl,nle,q4,by omega,q1,q2,q3⟩
   case rest=>
    obtain ⟨cb,g,rfl,hcb,hcl,hcg,hC,hO,hbl⟩:=hcut;first
     | (replace mL:=mL;have HC:Hid (wc.heap[cb]?=some (.cells #[VI sets,VI ways,SL g n n] 88 (0,0))):=hC)
     | (replace mP:=mP;have HC:Hid (wc.heap[cb]?=some (.cells #[VI sets,VI ways,SL g n n] 91 (0,0))):=hC)
    first
     | (replace mL:=mL;have HO:Hid (wc.ownsRow v2.heap.size 246 6 (SL g n n) n (aI (List.replicate n cH))):=hO)
     | (replace mP:=mP;have HO:Hid (wc.ownsRow v2.heap.size 251 6 (SL g n n) n (aI (List.replicate n cH))):=hO)
    have hgg:=bI hO;obtain ⟨_,hg1,hg2⟩:=hgg;simp only at hg1 hg2;clear hC hO c0 c1 c2 d0 d1 d2 e0 e1 e2;have L1:=ah K1 hbl;obtain ⟨⟨c0,c1,c2⟩,_,_,_⟩:=aA L1.out;go_wp2_with fail;first
     | (replace mL:=mL;go_loopw [25] (fun i wr=>∃k:Nat,k<=n∧i=VI k∧wr.heap[cb]?=some (.cells #[VI sets,VI ways,SL g n n] 88 (0,0))∧wr.ownsRow v2.heap.size 246 6 (SL g n n) n (aI (cZ k n es))∧Bw v2 wr∧Hid (∀j x,j<k->es[j]?=some x->cD ⟨sets,ways,es⟩ false j x=true)) (fun i _=>n-(intOf i).toNat))
     | (replace mP:=mP;go_loopw [25] (fun i wr=>∃k:Nat,k<=n∧i=VI k∧wr.heap[cb]?=some (.cells #[VI sets,VI ways,SL g n n] 91 (0,0))∧wr.ownsRow v2.heap.size 251 6 (SL g n n) n (aI (cZ k n es))∧Bw v2 wr∧Hid (∀j x,j<k->es[j]?=some x->cD ⟨sets,ways,es⟩ true j x=true)) (fun i _=>n-(intOf i).toNat))
    case atStart=>exact ⟨0,Nat.zero_le _,rfl,HC.out,by rw [pJ];exact HO.out,hbl,fun j x hj=>absurd hj (by omega)⟩
    case round=>
     obtain ⟨k,hk,rfl,hC,hO,hb,HA⟩:=hrel;first
      | (replace mL:=mL;have PC:Hid (wr.heap[cb]?=some (.cells #[VI sets,VI ways,SL g n n] 88 (0,0))):=hC)
      | (replace mP:=mP;have PC:Hid (wr.heap[cb]?=some (.cells #[VI sets,VI ways,SL g n n] 91 (0,0))):=hC)
     first
      | (replace mL:=mL;have PO:Hid (wr.ownsRow v2.heap.size 246 6 (SL g n n) n (aI (cZ k n es))):=hO)
      | (replace mP:=mP;have PO:Hid (wr.ownsRow v2.heap.size 251 6 (SL g n n) n (aI (cZ k n es))):=hO)
     have lc:=(hpl hC);have lg:=(bI hO).2.2;have A3:=bst A2 hb;have P1:=ah K1 hb;have P2:=ah K2 hb;clear hC hO c0 c1 c2;by_cases hlt:k<n
     ·obtain ⟨⟨vv,lv,tg,asd,gl,pt⟩,hx⟩:∃x,es[k]?=some x:=⟨_,geg (by rw [HN.out];exact hlt)⟩;obtain ⟨b,off,rfl,hbb⟩:∃b off,a=some (AD b off)∧b<w.heap.size:=by
       rcases HR.out.2 with h | ⟨b,off,h,h2,_⟩
       ·omega
       ·exact ⟨b,off,h,h2⟩
      have CE:=fun j u (hj:j<6) (hu:(jV ⟨vv,lv,tg,asd,gl,pt⟩)[j]?=some u)=>Below.cell2 A3 (dL HR.out HN.out k _ hx j u hj hu) hbb;have g0:wr.cell? ⟨b,off+k*6,none⟩=some (.bool vv):=CE 0 _ (by omega) rfl;have g1:wr.cell? ⟨b,off+k*6+1,none⟩=some (VI lv):=CE 1 _ (by omega) rfl;have g2:wr.cell? ⟨b,off+k*6+2,none⟩=some (VU tg):=CE 2 _ (by omega) rfl;have g3:wr.cell? ⟨b,off+k*6+3,none⟩=some (VU asd):=CE 3 _ (by omega) rfl;have g4:wr.cell? ⟨b,off+k*6+4,none⟩=some (.bool gl):=CE 4 _ (by omega) rfl;have g5:wr.cell? ⟨b,off+k*6+5,none⟩=some (VU pt):=CE 5 _ (by omega) rfl;have hok:fq ⟨vv,lv,tg,asd,gl,pt⟩:=HE.out _ (List.mem_of_getElem? hx);have HXk:Hid (es[k]?=some ⟨vv,lv,tg,asd,gl,pt⟩):=hx;clear CE hx;have HEq:=Fx vv lv tg asd gl pt;have n5:=(Below.refl wr.heap.size wr).alloc nle (Obj.cells #[.bool vv,VI lv,VU tg,VU asd,.bool gl,VU pt] 127);obtain ⟨⟨c0,c1,c2⟩,_,_,_⟩:=aA P1.out;obtain ⟨zb,hzb⟩:∃zb,ta ⟨vv,lv,tg,asd,gl,pt⟩=zb:=⟨_,rfl⟩;rw [hzb] at HEq;have HZb:Hid (ta ⟨vv,lv,tg,asd,gl,pt⟩=zb):=hzb;clear hzb;first
       | (replace mL:=mL;have HPf:Hid (cD ⟨sets,ways,es⟩ false k ⟨vv,lv,tg,asd,gl,pt⟩=false->X=false):=fun h=>by
            rw [<-HX.out];unfold aR;rw [HSM.out];simp only [Bool.true_and]
            exact iL _ false es 0 k _ HXk.out (by rw [Nat.zero_add];exact h))
       | (replace mP:=mP;have HPf:Hid (cD ⟨sets,ways,es⟩ true k ⟨vv,lv,tg,asd,gl,pt⟩=false->X=false):=fun h=>by
            rw [<-HX.out];unfold aR;rw [HSM.out];simp only [Bool.true_and]
            exact iL _ true es 0 k _ HXk.out (by rw [Nat.zero_add];exact h))
      first
       | (replace mL:=mL;have HPt:Hid (cD ⟨sets,ways,es⟩ false k ⟨vv,lv,tg,asd,gl,pt⟩=true->∀j x,j<k+1->es[j]?=some x->cD ⟨sets,ways,es⟩ false j x=true):=fun h j x hj hx'=>by
            by_cases e:j=k
            ·subst e;rw [HXk.out] at hx';cases hx';exact h
            ·exact HA.out j x (by omega) hx')
       | (replace mP:=mP;have HPt:Hid (cD ⟨sets,ways,es⟩ true k ⟨vv,lv,tg,asd,gl,pt⟩=true->∀j x,j<k+1->es[j]?=some x->cD ⟨sets,ways,es⟩ true j x=true):=fun h j x hj hx'=>by
            by_cases e:j=k
            ·subst e;rw [HXk.out] at hx';cases hx';exact h
            ·exact HA.out j x (by omega) hx')
      cases zb
      ·go_wp2_with fail;generalize wr.alloc (Obj.cells #[.bool vv,VI lv,VU tg,VU asd,.bool gl,VU pt] 127)=v5 at n5 |-;first
        | (replace mL:=mL;obtain ⟨gd,hgd⟩:∃gd,aZ ⟨vv,lv,tg,asd,gl,pt⟩ false=gd:=⟨_,rfl⟩)
        | (replace mP:=mP;obtain ⟨gd,hgd⟩:∃gd,aZ ⟨vv,lv,tg,asd,gl,pt⟩ true=gd:=⟨_,rfl⟩)
       first
        | (replace mL:=mL;have HGd:Hid (aZ ⟨vv,lv,tg,asd,gl,pt⟩ false=gd):=hgd)
        | (replace mP:=mP;have HGd:Hid (aZ ⟨vv,lv,tg,asd,gl,pt⟩ true=gd):=hgd)
       first
        | (replace mL:=mL;have HSl:Hid (∀u,Calls Tryz.prog 136 #[.agg #[.bool vv,VI lv,VU tg,VU asd,.bool gl,VU pt]] u fun e w'=>e=.returned (.tuple #[dy (if gd=true then ⟨vv,lv,tg,asd,gl,pt⟩ else cH),.bool gd])∧Bw u w'):=fun u=>by
             have:=re.1 ⟨vv,lv,tg,asd,gl,pt⟩ u hok
             rw [hgd] at this
             exact this)
        | (replace mP:=mP;have HSl:Hid (∀u,Calls Tryz.prog 138 #[.agg #[.bool vv,VI lv,VU tg,VU asd,.bool gl,VU pt]] u fun e w'=>e=.returned (.tuple #[dy (if gd=true then ⟨vv,lv,tg,asd,gl,pt⟩ else cH),.bool gd])∧Bw u w'):=fun u=>by
             have:=re.2 ⟨vv,lv,tg,asd,gl,pt⟩ u hok
             rw [hgd] at this
             exact this)
       clear hgd;refine (HSl.out v5).mono ?_;first
        | (replace mL:=mL;have hpl:cD ⟨sets,ways,es⟩ false k ⟨vv,lv,tg,asd,gl,pt⟩=(gd && (tg%sets == (k:Int)/ways)):=by
             have hz:=HZb.out
             unfold ta at hz
             unfold cD
             rw [HGd.out]
             simp only at hz |-
             rw [hz,Bool.false_or])
        | (replace mP:=mP;have hpl:cD ⟨sets,ways,es⟩ true k ⟨vv,lv,tg,asd,gl,pt⟩=(gd && (tg%sets == (k:Int)/ways)):=by
             have hz:=HZb.out
             unfold ta at hz
             unfold cD
             rw [HGd.out]
             simp only at hz |-
             rw [hz,Bool.false_or])
       have HPl:Hid _:=hpl;clear hpl HSl;cases gd
       ·rintro e v6 ⟨rfl,n6⟩;have hxf:X=false:=HPf.out (by rw [HPl.out];rfl);subst hxf;simp only [dy,cH,Bool.false_eq_true,if_false];have n56:=bst n5 n6;have Q2:=ah P2 n56;have l6:wr.heap.size<=v6.heap.size:=n56.size;first
         | (replace mL:=mL;have n7:=(Below.refl v6.heap.size v6).alloc nle (Obj.cells #[VI 0,VU 0,VU 0,.bool false,.bool false,VU 0] 246))
         | (replace mP:=mP;have n7:=(Below.refl v6.heap.size v6).alloc nle (Obj.cells #[VI 0,VU 0,VU 0,.bool false,.bool false,VU 0] 251))
        have Q3:=ah Q2 n7;have A6:=bst A3 (bst n56 n7);clear g0 g1 g2 g3 g4 g5 c0 c1 c2;obtain ⟨⟨d0,d1,d2⟩,e0,e1,e2⟩:=aA Q2.out;have m1:w.heap.size+1<v6.heap.size:=by omega
        have m2:v6.heap.size≠w.heap.size+1:=by omega
        go_wp2;go_quiet (fail);go_wp2_with fail;first
         | (replace mL:=mL;exact bodyPost_ret (v:=.tuple #[.agg #[VI 0,VI 0,SN],.bool false]) (by simp [results,Tryz.results107,go_sem,d0,d1,d2,m1]) rfl ⟨rfl,gQ (below_drewN A6 _) (by omega) _ _ _⟩)
         | (replace mP:=mP;exact bodyPost_ret (v:=.tuple #[.agg #[VI 0,VI 0,SN],.bool false]) (by simp [results,Tryz.results108,go_sem,d0,d1,d2,m1]) rfl ⟨rfl,gQ (below_drewN A6 _) (by omega) _ _ _⟩)
       ·rintro e v6 ⟨rfl,n6⟩;simp only [dy,if_true];have n56:=bst n5 n6;have Q1:=ah P1 n56;have Q2:=ah P2 n56;have QC:=ah PC n56;first
         | (replace mL:=mL;have QO:Hid (v6.ownsRow v2.heap.size 246 6 (SL g n n) n (aI (cZ k n es))):=aj PO.out n56)
         | (replace mP:=mP;have QO:Hid (v6.ownsRow v2.heap.size 251 6 (SL g n n) n (aI (cZ k n es))):=aj PO.out n56)
        have l6:wr.heap.size<=v6.heap.size:=n56.size;clear g0 g1 g2 g3 g4 g5 c0 c1 c2;first
         | (replace mL:=mL;have n7:=(Below.refl v6.heap.size v6).alloc nle (Obj.cells #[VI lv,VU tg,VU asd,.bool gl,.bool vv,VU pt] 246))
         | (replace mP:=mP;have n7:=(Below.refl v6.heap.size v6).alloc nle (Obj.cells #[VI lv,VU tg,VU asd,.bool gl,.bool vv,VU pt] 251))
        first
         | (replace mL:=mL;have RS:Hid ((v6.alloc (Obj.cells #[VI lv,VU tg,VU asd,.bool gl,.bool vv,VU pt] 246)).heap[v6.heap.size]?=some (.cells #[VI lv,VU tg,VU asd,.bool gl,.bool vv,VU pt] 246 (0,0))):=er v6 _)
         | (replace mP:=mP;have RS:Hid ((v6.alloc (Obj.cells #[VI lv,VU tg,VU asd,.bool gl,.bool vv,VU pt] 251)).heap[v6.heap.size]?=some (.cells #[VI lv,VU tg,VU asd,.bool gl,.bool vv,VU pt] 251 (0,0))):=er v6 _)
        first
         | (replace mL:=mL;have l7:v6.heap.size<(v6.alloc (Obj.cells #[VI lv,VU tg,VU asd,.bool gl,.bool vv,VU pt] 246)).heap.size:=by simp)
         | (replace mP:=mP;have l7:v6.heap.size<(v6.alloc (Obj.cells #[VI lv,VU tg,VU asd,.bool gl,.bool vv,VU pt] 251)).heap.size:=by simp)
        have R2:=ah Q2 n7;have RC:=ah QC n7;first
         | (replace mL:=mL;have RO:Hid ((v6.alloc (Obj.cells #[VI lv,VU tg,VU asd,.bool gl,.bool vv,VU pt] 246)).ownsRow v2.heap.size 246 6 (SL g n n) n (aI (cZ k n es))):=aj QO.out n7)
         | (replace mP:=mP;have RO:Hid ((v6.alloc (Obj.cells #[VI lv,VU tg,VU asd,.bool gl,.bool vv,VU pt] 251)).ownsRow v2.heap.size 251 6 (SL g n n) n (aI (cZ k n es))):=aj QO.out n7)
        have n57:=bst n56 n7;have A7:=bst A3 n57;have B7:=bst hb n57;have m1:w.heap.size+1<v6.heap.size:=by omega
        clear n5 n6 n56 n7 n57 Q1 Q2 QC QO;go_wp2_with fail;first
         | (replace mL:=mL;generalize v6.alloc (Obj.cells #[VI lv,VU tg,VU asd,.bool gl,.bool vv,VU pt] 246)=v7 at RS l7 R2 RC RO A7 B7 |-)
         | (replace mP:=mP;generalize v6.alloc (Obj.cells #[VI lv,VU tg,VU asd,.bool gl,.bool vv,VU pt] 251)=v7 at RS l7 R2 RC RO A7 B7 |-)
        obtain ⟨⟨p0,p1,p2⟩,_,_,_⟩:=aA RC.out;obtain ⟨⟨d0,d1,d2⟩,e0,e1,e2⟩:=aA R2.out;obtain ⟨⟨s0,s1,s2,s3,s4,s5⟩,_⟩:=iY RS.out;obtain ⟨sx,hsx⟩:∃sx,tg%sets=sx:=⟨_,rfl⟩;first
         | (replace mL:=mL;have HSet:Hid (∀q,Calls Tryz.prog 137 #[PT cb 0,VU tg] (v7.drewN q) fun e w'=>e=.returned (VI sx)∧w'=v7.drewN q):=fun q=>by
              have:=qw cb 0 sets tg (v7.drewN q) hs4 p0 hok.2.1.1 hok.2.1.2
              rw [hsx] at this
              exact this)
         | (replace mP:=mP;have HSet:Hid (∀q,Calls Tryz.prog 139 #[PT cb 0,VU tg] (v7.drewN q) fun e w'=>e=.returned (VI sx)∧w'=v7.drewN q):=fun q=>by
              have:=qx cb 0 sets tg (v7.drewN q) hs4 p0 hok.2.1.1 hok.2.1.2
              rw [hsx] at this
              exact this)
        first
         | (replace mL:=mL;have HPl2:Hid (cD ⟨sets,ways,es⟩ false k ⟨vv,lv,tg,asd,gl,pt⟩=(sx == (k:Int)/ways)):=by
              show _=_
              rw [HPl.out,hsx,Bool.true_and])
         | (replace mP:=mP;have HPl2:Hid (cD ⟨sets,ways,es⟩ true k ⟨vv,lv,tg,asd,gl,pt⟩=(sx == (k:Int)/ways)):=by
              show _=_
              rw [HPl.out,hsx,Bool.true_and])
        clear hsx hok HPl;have hdv:0<=(k:Int)/ways∧(k:Int)/ways<=k:=⟨Int.ediv_nonneg (by omega) (by omega),Int.ediv_le_self _ (by omega)⟩;obtain ⟨qv,hqv⟩:∃qv,(k:Int)/ways=qv:=⟨_,rfl⟩;rw [hqv] at hdv HPl2;have hwr:wrap64 ((k:Int)/ways)=qv:=by rw [hqv];unfold wrap64;omega
        clear hqv;by_cases hne:sx=qv
        ·subst hne;first
          | (replace mL:=mL;go_quiet ((go_at_call 137;exact Calls.quiet_of_same (HSet.out _))))
          | (replace mP:=mP;go_quiet ((go_at_call 139;exact Calls.quiet_of_same (HSet.out _))))
         first
          | (replace mL:=mL;have SO:Hid ((v7.drewN nq).ownsRow v2.heap.size 246 6 (SL g n n) n (aI (cZ k n es))):=RO)
          | (replace mP:=mP;have SO:Hid ((v7.drewN nq).ownsRow v2.heap.size 251 6 (SL g n n) n (aI (cZ k n es))):=RO)
         first
          | (replace mL:=mL;have SC:Hid ((v7.drewN nq).heap[cb]?=some (.cells #[VI sets,VI ways,SL g n n] 88 (0,0))):=RC)
          | (replace mP:=mP;have SC:Hid ((v7.drewN nq).heap[cb]?=some (.cells #[VI sets,VI ways,SL g n n] 91 (0,0))):=RC)
         first
          | (replace mL:=mL;have SS:Hid ((v7.drewN nq).heap[v6.heap.size]?=some (.cells #[VI lv,VU tg,VU asd,.bool gl,.bool vv,VU pt] 246 (0,0))):=RS)
          | (replace mP:=mP;have SS:Hid ((v7.drewN nq).heap[v6.heap.size]?=some (.cells #[VI lv,VU tg,VU asd,.bool gl,.bool vv,VU pt] 251 (0,0))):=RS)
         have B8:Bw v2 (v7.drewN nq):=below_drewN B7 nq;generalize v7.drewN nq=v8 at SO SC SS B8 |-;have hfl:(aI (cZ k n es)).length=n*6:=by
          have:=HN.out;subst this;rw [eN,jz _ _ (by omega)]
         have q0:=aE SO.out (k*6) _ (geg (by omega));have q1:=aE SO.out (k*6+1) _ (geg (by omega));have q2:=aE SO.out (k*6+2) _ (geg (by omega));have q3:=aE SO.out (k*6+3) _ (geg (by omega));have q4:=aE SO.out (k*6+4) _ (geg (by omega));have q5:=aE SO.out (k*6+5) _ (geg (by omega));generalize (aI (cZ k n es))[k*6]'_=y0 at q0;generalize (aI (cZ k n es))[k*6+1]'_=y1 at q1;generalize (aI (cZ k n es))[k*6+2]'_=y2 at q2;generalize (aI (cZ k n es))[k*6+3]'_=y3 at q3;generalize (aI (cZ k n es))[k*6+4]'_=y4 at q4;generalize (aI (cZ k n es))[k*6+5]'_=y5 at q5;have r0:=aQ SO.out (k*6);have r1:=aQ SO.out (k*6+1);have r2:=aQ SO.out (k*6+2);have r3:=aQ SO.out (k*6+3);have r4:=aQ SO.out (k*6+4);have r5:=aQ SO.out (k*6+5);clear p0 p1 p2 d0 d1 d2 e0 e1 e2 s0 s1 s2 s3 s4 s5;obtain ⟨⟨p0,p1,p2⟩,_,_,_⟩:=aA SC.out;obtain ⟨⟨s0,s1,s2,s3,s4,s5⟩,_⟩:=iY SS.out;go_wp2;go_roundw
         case rel=>
          refine ⟨k+1,by omega,by go_num,aB SC.out (aq (aq (aq (aq (aq (aq (aw v8 (some g)) _ _) _ _) _ _) _ _) _ _) _ _) hcg,?_,?_,HPt.out (by rw [HPl2.out];simp)⟩
          ·have:=HN.out;subst this;rw [mg k es _ HXk.out,iG _ _ _ (by rw [jz _ _ (by omega)];exact hlt)];exact aF (aF (aF (aF (aF (aF SO.out _ _) _ _) _ _) _ _) _ _) _ _
          ·exact (((((B8.setCell (p:=(AD g _)) hg1 _).setCell (p:=(AD g _)) hg1 _).setCell (p:=(AD g _)) hg1 _).setCell (p:=(AD g _)) hg1 _).setCell (p:=(AD g _)) hg1 _).setCell (p:=(AD g _)) hg1 _
         case measure=>simp [intOf];omega
        ·have hne':(sx != qv)=true:=by rw [bne_iff_ne];exact hne
         have hxf:X=false:=HPf.out (by rw [HPl2.out];simpa using hne);subst hxf;first
          | (replace mL:=mL;go_quiet ((go_at_call 137;exact Calls.quiet_of_same (HSet.out _))))
          | (replace mP:=mP;go_quiet ((go_at_call 139;exact Calls.quiet_of_same (HSet.out _))))
         go_wp2_with fail;first
          | (replace mL:=mL;exact bodyPost_ret (v:=.tuple #[.agg #[VI 0,VI 0,SN],.bool false]) (by simp [results,Tryz.results107,go_sem,d0,d1,d2]) rfl ⟨rfl,gQ (below_drewN A7 _) (by omega) _ _ _⟩)
          | (replace mP:=mP;exact bodyPost_ret (v:=.tuple #[.agg #[VI 0,VI 0,SN],.bool false]) (by simp [results,Tryz.results108,go_sem,d0,d1,d2]) rfl ⟨rfl,gQ (below_drewN A7 _) (by omega) _ _ _⟩)
      ·have hz:=HZb.out;simp only [ta,Bool.and_eq_true,beq_iff_eq] at hz;obtain ⟨⟨⟨⟨⟨rfl,rfl⟩,rfl⟩,rfl⟩,rfl⟩,rfl⟩:=hz;go_wp2;go_roundw
       case rel=>exact ⟨k+1,by omega,by go_num,(ah PC n5).out,by
        have:=HN.out;subst this;rw [xF k es HXk.out];exact aj PO.out n5,bst hb n5,HPt.out (by simp [cD])⟩
       case measure=>simp [intOf];omega
     ·have hkn:k=n:=by omega
      subst hkn;have hxt:X=true:=by
       rw [<-HX.out];unfold aR;rw [HSM.out];simp only [Bool.true_and];first
        | (replace mL:=mL;exact gH _ false es 0 (fun j x hx=>by rw [Nat.zero_add];exact HA.out j x (by have:=(List.getElem?_eq_some_iff.1 hx).1;have:=HN.out;omega) hx))
        | (replace mP:=mP;exact gH _ true es 0 (fun j x hx=>by rw [Nat.zero_add];exact HA.out j x (by have:=(List.getElem?_eq_some_iff.1 hx).1;have:=HN.out;omega) hx))
      subst hxt;obtain ⟨⟨d0,d1,d2⟩,e0,e1,e2⟩:=aA P2.out;obtain ⟨⟨p0,p1,p2⟩,_,_,_⟩:=aA PC.out;have ne6:w.heap.size+1≠cb:=by omega
      go_wp2_with fail;first
       | (replace mL:=mL;refine bodyPost_ret (v:=.tuple #[.agg #[VI sets,VI ways,SL g k k],.bool true]) (by simp [results,Tryz.results107,go_sem,d0,d1,d2]) rfl ⟨⟨g,by simp only;rw [HN.out],?_⟩,gQ A3 (by omega) _ _ _⟩)
       | (replace mP:=mP;refine bodyPost_ret (v:=.tuple #[.agg #[VI sets,VI ways,SL g k k],.bool true]) (by simp [results,Tryz.results108,go_sem,d0,d1,d2]) rfl ⟨⟨g,by simp only;rw [HN.out],?_⟩,gQ A3 (by omega) _ _ _⟩)
      simp only;rw [HN.out];have:=PO.out;have hq:=HN.out;subst hq;rw [oM] at this;exact aJ (aG this (gb3 wr (w.heap.size+1) _ _ _) (by omega)) (by omega)
end
end Go.Proofs.YtkenjknmfhoppaaGreat
