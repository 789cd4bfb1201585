import Derived.Test.YtgnnmgfgfihljaaGreatPk23
import Derived.Test.YtgnnmgfgfihljaaGreatPk19
namespace Go.Proofs.YtgnnmgfgfihljaaGreat
open Go.RowKit
set_option linter.unusedVariables false
set_option maxHeartbeats 6400000
set_option maxRecDepth 20000
def jz (c t:Int):PanicEntry:={ v:=.iface 75 (.agg #[.int .i64 c,.int .u64 t]),recovered:=false }
theorem Cn {O X:Nat->Prop} {m:MP} {ov:Value} {h:HartM} {ol:List (Nat × Int)} (w:World) (k:MW w O X m ov h ol):
 Calls Tryz.prog 168 #[.pointer (some ⟨m.b,0,none⟩)] w fun e w'=>e=.returned (oO h)∧Below w.heap.size w w':=by
 have F:=bL w #[.int .i64 0,.bool false,.bool false,.int .u64 0] 205;have hb:=k.lt;have c9:=aa k.blk 9 (v:=.int .i64 h.mode) rfl;have c10:=aa k.blk 10 (v:=.bool h.sum) rfl;have c11:=aa k.blk 11 (v:=.bool h.mxr) rfl;have c12:=aa k.blk 12 (v:=.int .u64 h.satp) rfl;unfold oO;clear k;generalize m.b=b at *;go_enter Tryz.func168,Tryz.ntmps168;go_upto_region 1 with fail;generalize w.alloc (Obj.cells #[.int .i64 0,.bool false,.bool false,.int .u64 0] 205)=v1 at F |-;obtain ⟨h1,hz,n1⟩:=F;replace c9:=Below.cell2 n1 c9 hb;replace c10:=Below.cell2 n1 c10 hb;replace c11:=Below.cell2 n1 c11 hb;replace c12:=Below.cell2 n1 c12 hb;have k0:=aa h1 0 (v:=.int .i64 0) rfl;have k1:=aa h1 1 (v:=.bool false) rfl;have k2:=aa h1 2 (v:=.bool false) rfl;have k3:=aa h1 3 (v:=.int .u64 0) rfl;have f0:=aE h1 0;have f1:=aE h1 1;have f2:=aE h1 2;have f3:=aE h1 3;have b2:w.heap.size<v1.heap.size:=by omega
 have hb1:b<v1.heap.size:=by omega
 clear h1 hz;refine cY 17 (by kernel_rfl) (by kernel_rfl) ?_;simp only [List.take_succ_cons,List.take_zero,List.drop_succ_cons,List.drop_zero];repeat still_step
 refine wpStill_nil ?_;go_wp2_with fail;exact bodyPost_ret (v:=.agg #[.int .i64 h.mode,.bool h.sum,.bool h.mxr,.int .u64 h.satp]) (by simp [results,Tryz.results168,go_sem,k0,k1,k2,k3]) rfl ⟨rfl,bK (bK (bK (bK n1.drew (by omega) _ _) (by omega) _ _) (by omega) _ _) (by omega) _ _⟩
def Co (plain:Bool) (pick:Int) (O X:Nat->Prop) (m:MP) (PA:World->RunM->Prop) (ov:Value) (ol:List (Nat × Int)) (r:RunM) (kind va size:Int) (w:World) (e:Ending) (w':World):Prop:=
 e=(if (be plain pick r.h kind va).1.1=0 then .returned (.agg #[.int .i64 kind,.int .u64 va,.int .u64 (be plain pick r.h kind va).1.2,.int .u64 size]) else .panicked [jz (be plain pick r.h kind va).1.1 va])∧
 MW w' O X m ov (bw plain pick r kind va).h ol∧PA w' (bw plain pick r kind va)∧Kp X w w'
theorem jq {plain:Bool} {pick:Int} {h0:HartM} {O X:Nat->Prop} {PI:World->Prop} {PA:World->RunM->Prop} {m:MP} (hp:PathOk m plain pick h0 X PI PA) (hpk:0<=pick∧pick<=255) {ov:Value} {ol:List (Nat × Int)} (r:RunM) (kind va size:Int) (w:World)
 (k:MW w O X m ov r.h ol) (hA:PA w r) (hr:ROk r) (hc:SameC r.h h0) (hk0:0<=kind) (hk2:kind<=2) (hv:inU va):
 Calls Tryz.prog 135 #[.pointer (some ⟨m.b,0,none⟩),.int .i64 kind,.int .u64 va,.int .u64 size] w fun e w'=>Co plain pick O X m PA ov ol r kind va size w e w':=by
 have F:=bL w #[.int .i64 0,.int .u64 0,.int .u64 0,.int .u64 0] 236;have HK:Hid _:=k;have HA:Hid _:=hA;have HP:Hid _:=hp;have HR:Hid _:=hr;have HC:Hid _:=hc;have HSh:Hid (eR (be plain pick r.h kind va).2 m.gi m.gd m.gp=eR r.h.k m.gi m.gd m.gp):=(uk hr.h plain hpk ⟨hk0,hk2⟩).set _ _ _;have hb:=k.lt;obtain ⟨hv0,hv1⟩:=hv;clear k hA hp hr hc;obtain ⟨b,hbm⟩:∃b,m.b=b:=⟨_,rfl⟩;have HBm:Hid _:=hbm;rw [hbm] at hb;rw [hbm];clear hbm;go_enter Tryz.func135,Tryz.ntmps135;go_upto_region 1 with fail;generalize w.alloc (Obj.cells #[.int .i64 0,.int .u64 0,.int .u64 0,.int .u64 0] 236)=v1 at F |-;obtain ⟨h1,hz,n1⟩:=F;have H1:Hid _:=h1;have K1:Hid (MW v1 O X m ov r.h ol):=HK.out.low n1;have c29:v1.cell? ⟨b,29,none⟩=some (.iface m.pd m.px):=by rw [<-HBm.out];exact aa K1.out.blk 29 rfl
 have hb1:b<v1.heap.size:=by omega
 have hbk:v1.heap[b]?=some (.cells (cy r.h m.gm ov m.gi m.gd m.gp m.pv) 106 (0,0)):=by rw [<-HBm.out];exact K1.out.blk
 have CT:∀u:Has b (.cells (cy r.h m.gm ov m.gi m.gd m.gp m.pv) 106 (0,0)),u.w.cell? ⟨b,29,none⟩=some (.iface m.pd m.px):=fun u=>aa u.h 29 rfl;have ne:Nonempty (Has b (.cells (cy r.h m.gm ov m.gi m.gd m.gp m.pv) 106 (0,0))):=⟨⟨v1,hbk⟩⟩;have HBk:Hid _:=hbk;clear h1 hz c29 hbk;generalize cy r.h m.gm ov m.gi m.gd m.gp m.pv=A at CT ne HBk;refine aO (fun w'=>∃u:Has b (.cells A 106 (0,0)),w'=u.w) 21 (by kernel_rfl) ?_;refine cW (by kernel_rfl) (fuel:=7) ⟨⟨v1.drew,HBk.out⟩,rfl⟩ (cG fun _ _ _ _ e h=>⟨e ▸ h.1,h.2⟩) [0,1,2,3,4,5,6,7,8,9,10,12,13,14,15] _ _ (by kernel_rfl) ?_;simp only [fI,List.getElem?_toArray,List.getElem?_cons_zero,List.getElem?_cons_succ];repeat (go_big_quiet_step (fail))
 refine wpQuiet_nil ?_;have D1:=bdr v1;refine ck 11 23 (by kernel_rfl) rfl (by kernel_rfl) (by kernel_rfl) (f:=168) (args:=#[.pointer (some ⟨b,0,none⟩)]) (by kernel_rfl) ?_;rw [<-HBm.out];refine (Cn v1.drew (K1.out.low D1)).mono ?_;rintro e v2 ⟨rfl,n2'⟩;rw [HBm.out];have n2:=bst D1 n2';have K2:Hid (MW v2 O X m ov r.h ol):=K1.out.low n2;have n12:=bst n1 n2;have HB2:Hid (v2.heap[b]?=some (.cells A 106 (0,0))):=ab HBk n2;refine .inl ⟨_,rfl,fun _=>⟨⟨v2,HB2.out⟩,rfl⟩,?_⟩;simp only [aPt,sTa,sCs,sCz];have H2:=ab H1 n2;have A2:PA v2 r:=HP.out.keep HA.out (fun i hi=>(HK.out.xo i hi).2) (Kp.of_below (fun _=>False) n12) (fun _ _ h=>h);obtain ⟨fn,rv,hm,hen,hcall⟩:=HP.out.phys v2 r _ kind va A2 K2.out.cells (Ag K2.out) HC.out HR.out hk0 hk2 ⟨hv0,hv1⟩;rw [HBm.out] at hcall;have HM:Hid _:=hcall;clear hcall A2 n2';refine ck 16 28 (by kernel_rfl) rfl (by kernel_rfl) (by kernel_rfl) (f:=fn) (args:=#[rv,.iface 176 (.pointer (some ⟨b,18,none⟩)),oO r.h,.int .i64 kind,.int .u64 va]) (by go_simp) ?_;refine Calls.mono HM.out ?_;rintro e v3 ⟨pa,code,rfl,hcode,hans,hA3,hk3⟩;have K3:Hid (MW v3 O X m ov (bw plain pick r kind va).h ol):=(K2.out.keep hk3).withK HSh.out;have A3:Hid _:=hA3;have nx:¬X w.heap.size:=fun h=>by have:=(HK.out.xo _ h).2;omega
 have H3:=Kp.hid H2 hk3 nx;have KP:Hid (Kp X w v3):=(Kp.of_below X n12).trans hk3;have l3:w.heap.size<v3.heap.size:=(hpl H3.out);have q1:=Bl;have q2:=Bm;have q3:=Bn;have HB3:Hid (v3.heap[b]?=some (.cells A 106 (0,0))):=Kp.hid HB2 hk3 (by rw [<-HBm.out];exact HK.out.xb);refine .inl ⟨_,rfl,fun _=>⟨⟨v3,HB3.out⟩,rfl⟩,?_⟩;simp only [aPt,sTa,sCs,sCz];refine cW (by kernel_rfl) (fuel:=1) ⟨⟨v3,HB3.out⟩,rfl⟩ (cG fun _ _ _ _ e h=>⟨e ▸ h.1,h.2⟩) [17,18,19,20] _ _ (by kernel_rfl) ?_;simp only [fI,List.getElem?_toArray,List.getElem?_cons_zero,List.getElem?_cons_succ];repeat (go_big_quiet_step (fail))
 refine wpQuiet_nil ?_;refine eH 21 10 (bW code) (by kernel_rfl) rfl (by kernel_rfl) (by kernel_rfl) (by kernel_rfl) (fun _=>⟨⟨v3,HB3.out⟩,rfl⟩) ?_;simp only [aPt,sTa,sCs,sCz];refine cf (by kernel_rfl) ?_ _;clear hA3 hk3 HM n2 n12 H2 K2 K1 hm HB2 HB3 D1;have HT:Hid ((be plain pick r.h kind va).1=(if code=1 then 0 else if code=2 then dL kind else bE kind,pa)):=hans;clear hans CT ne HBk;rcases hcode with rfl | rfl | rfl
 ·rw [show bW 1=.nilIface from rfl];have k0:=aa H3.out 0 (v:=.int .i64 0) rfl;have k1:=aa H3.out 1 (v:=.int .u64 0) rfl;have k2:=aa H3.out 2 (v:=.int .u64 0) rfl;have k3:=aa H3.out 3 (v:=.int .u64 0) rfl;have f0:=aE H3.out 0;have f1:=aE H3.out 1;have f2:=aE H3.out 2;have f3:=aE H3.out 3;go_wp2_with fail;have g4:=gb4 v3 w.heap.size (.int .i64 kind) (.int .u64 va) (.int .u64 pa) (.int .u64 size);refine bodyPost_ret (v:=.agg #[.int .i64 kind,.int .u64 va,.int .u64 pa,.int .u64 size]) (by simp [results,Tryz.results135,go_sem,k0,k1,k2,k3]) rfl ⟨?_,HK.out.box K3.out g4 nle,HP.out.box A3.out (fun i hi=>(K3.out.xo i hi).2) g4 nx,KP.out.box g4 nle⟩;rw [HT.out];rfl
 ·rw [show bW 2=.iface 282 (.agg #[]) from rfl];have HCo:Hid (Calls Tryz.prog 169 #[.iface 282 (.agg #[]),.int .i64 kind] v3 fun e w'=>e=.returned (.int .i64 (dL kind))∧w'=v3):=ql 2 kind v3 (by omega);go_wp2_with fail;refine Calls.mono HCo.out ?_;rintro e u ⟨rfl,hu⟩;rw [hu];clear hu u;go_wp2_with fail;refine ⟨rfl,?_,K3.out,A3.out,KP.out⟩;have ht:=congrArg Prod.fst HT.out;simp only at ht;rw [ht];exact (if_neg (yg kind)).symm
 ·rw [show bW 3=.iface 283 (.agg #[]) from rfl];have HCo:Hid (Calls Tryz.prog 169 #[.iface 283 (.agg #[]),.int .i64 kind] v3 fun e w'=>e=.returned (.int .i64 (bE kind))∧w'=v3):=ql 3 kind v3 (by omega);go_wp2_with fail;refine Calls.mono HCo.out ?_;rintro e u ⟨rfl,hu⟩;rw [hu];clear hu u;go_wp2_with fail;refine ⟨rfl,?_,K3.out,A3.out,KP.out⟩;have ht:=congrArg Prod.fst HT.out;simp only at ht;rw [ht];exact (if_neg (ev kind)).symm
theorem Aq (x:Int) (w:World) (h0:0<=x) (h1:x<=18446744073709551615):
 Calls Tryz.prog 211 #[.int .u64 x] w fun e w'=>e=.returned (.int .u64 (dg x))∧w'=w:=by
 go_enter Tryz.func211,Tryz.ntmps211;go_wp2_with (go_at_call 219;refine (tj x _ h0 h1).mono ?_;rintro e w' ⟨rfl,rfl⟩);go_ret;exact ⟨rfl,rfl⟩
section
attribute [local go_sem ↓] Go.wp_at_zero Go.wp_at_succ
def qT (z0:Nat) (z1:Bool):Prop:=∀(b o g n:Nat) (t:TlbM) (va asid:Int) (w:World) (hn:t.es.length=n) (hn1:n<=1048576) (hv:aL t z1=true) (hbl:b<w.heap.size)
 (c0:w.cell? ⟨b,o,none⟩=some (.int .i64 t.sets)) (c1:w.cell? ⟨b,o+1,none⟩=some (.int .i64 t.ways)) (c2:w.cell? ⟨b,o+2,none⟩=some (.slice (some ⟨g,0,none⟩) n n)) (hr:RowC w (some ⟨g,0,none⟩) n 6 (aC t.es)) (hv0:0<=va) (hv1:va<=18446744073709551615),Calls Tryz.prog z0 #[.pointer (some ⟨b,o,none⟩),.int .u64 va,.int .u64 asid] w fun e w'=>e=.returned (.tuple #[.int .i64 (aU t va asid).2.1,.bool (aU t va asid).1])∧Below w.heap.size w w'
theorem nY:qT 197 false∧qT 208 true:=by
 refine ⟨?_,?_⟩;have mL:Hid True:=trivial
 rotate_left
 have mP:Hid True:=trivial
 rotate_left
 all_goals
  intro b o g n t va asid w hn hn1 hv hbl c0 c1 c2 hr hv0 hv1;obtain ⟨hs4,hw1,hw4,hnw⟩:=uX hv;first
   | (replace mL:=mL;have HV:Hid (aL t false=true):=hv)
   | (replace mP:=mP;have HV:Hid (aL t true=true):=hv)
  have HEi:Hid (ej t=true):=dC hv;have HR:Hid (RowC w (some ⟨g,0,none⟩) n 6 (aC t.es)):=hr;have HN:Hid (t.es.length=n):=hn;have HNw:Hid ((n:Int)=t.sets*t.ways):=by show _=_;rw [<-hn];exact hnw
  obtain ⟨X,hX⟩:∃X,aU t va asid=X:=⟨_,rfl⟩;have HX:Hid (aU t va asid=X):=hX;rw [hX];clear hX hv hr hnw hn;obtain ⟨sets,ways,es⟩:=t;simp only at *;first
   | (replace mL:=mL;go_enter Tryz.func197,Tryz.ntmps197)
   | (replace mP:=mP;go_enter Tryz.func208,Tryz.ntmps208)
  go_wp2_with fail;go_loopw [12] (fun i wr=>∃l:Nat,l<=3∧i=.int .i64 l∧Hid (∀l':Nat,l'<l->dq va asid l' 0 es=none)∧Below w.heap.size w wr) (fun i _=>3-(intOf i).toNat)
  case atStart=>exact ⟨0,by omega,rfl,fun l' h=>absurd h (by omega),Below.refl _ _⟩
  case round=>
   obtain ⟨l,hl,rfl,HF,hb⟩:=hrel;by_cases hlt:l<3
   ·have hl3:(l:Int)=0∨(l:Int)=1∨(l:Int)=2:=by omega
    obtain ⟨tm,htm⟩:∃tm,eF va l=tm:=⟨_,rfl⟩;have htb:=qO va l hl3;rw [htm] at htb;obtain ⟨sx,hsx⟩:∃sx,tm%sets=sx:=⟨_,rfl⟩;have hsb:0<=sx∧sx<sets:=by rw [<-hsx];exact ⟨Int.emod_nonneg _ (by omega),Int.emod_lt_of_pos _ (by omega)⟩
    obtain ⟨f,hf⟩:∃f:Nat,(f:Int)=sx*ways:=⟨(sx*ways).toNat,Int.toNat_of_nonneg (Int.mul_nonneg hsb.1 (by omega))⟩;have hfn:(f:Int)+ways<=n:=by
     rw [HNw.out,hf];have:(sx+1)*ways<=sets*ways:=Int.mul_le_mul_of_nonneg_right (by omega) (by omega);rw [Int.add_mul,Int.one_mul] at this;exact this
    have HFi:Hid ((f:Int)=eF va l%sets*ways):=by show _=_;rw [htm,hsx];exact hf
    have HWm:Hid (sx*ways=(f:Int)):=hf.symm;have r0:wr.cell? ⟨b,o,none⟩=some (.int .i64 sets):=Below.cell2 hb c0 hbl;have r1:wr.cell? ⟨b,o+1,none⟩=some (.int .i64 ways):=Below.cell2 hb c1 hbl;have HTg:Hid (∀u,Calls Tryz.prog 170 #[.int .u64 va,.int .i64 l] u fun e w'=>e=.returned (.int .u64 tm)∧∃q,w'=u.drewN q):=fun u=>by
     have:=wE va l u hv0 hv1 hl3;rw [htm] at this;exact this
    first
     | (replace mL:=mL;have HSt:Hid (∀q,Calls Tryz.prog 129 #[.pointer (some ⟨b,o,none⟩),.int .u64 tm] (wr.drewN q) fun e w'=>e=.returned (.int .i64 sx)∧w'=wr.drewN q):=fun q=>by
          have:=nv b o sets tm (wr.drewN q) hs4 r0 htb.1 (by omega)
          rw [hsx] at this
          exact this)
     | (replace mP:=mP;have HSt:Hid (∀q,Calls Tryz.prog 131 #[.pointer (some ⟨b,o,none⟩),.int .u64 tm] (wr.drewN q) fun e w'=>e=.returned (.int .i64 sx)∧w'=wr.drewN q):=fun q=>by
          have:=nw b o sets tm (wr.drewN q) hs4 r0 htb.1 (by omega)
          rw [hsx] at this
          exact this)
    clear htm hsx;go_wp2_with fail;go_cut [9] (fun s9 wx=>s9=.int .i64 f∧∃q,wx=wr.drewN q)
    case first=>
     first
      | (replace mL:=mL;go_quiet (first
           | (go_at_call 170;exact Calls.quiet_of (HTg.out _))
           | (go_at_call 129;exact Calls.quiet_of_same (HSt.out _))))
      | (replace mP:=mP;go_quiet (first
           | (go_at_call 170;exact Calls.quiet_of (HTg.out _))
           | (go_at_call 131;exact Calls.quiet_of_same (HSt.out _))))
     go_wp2_with fail;go_meet;exact ⟨by rw [HWm.out],nq,rfl⟩
    case rest=>
     obtain ⟨rfl,q,rfl⟩:=hcut;have hb2:Below w.heap.size w (wr.drewN q):=below_drewN hb q;generalize wr.drewN q=v2 at hb2 |-;clear r0 r1 hb HTg HSt HWm hsb hf;go_wp2_with fail;rename_i wr0;go_loopw [10] (fun i wr=>∃q:Nat,f<=q∧(q:Int)<=f+ways∧i=.int .i64 q∧Hid (∀(q':Nat) x,f<=q'->q'<q->es[q']?=some x->fV va asid l x=false)∧Below w.heap.size w wr) (fun i _=>f+4-(intOf i).toNat)
     case atStart=>exact ⟨f,nle,by omega,rfl,fun q' x h h'=>absurd h' (by omega),hb2⟩
     case round=>
      obtain ⟨q,hq1,hq2,rfl,HQ,hb3⟩:=hrel;have r1:wr.cell? ⟨b,o+1,none⟩=some (.int .i64 ways):=Below.cell2 hb3 c1 hbl;have r2:wr.cell? ⟨b,o+2,none⟩=some (.slice (some ⟨g,0,none⟩) n n):=Below.cell2 hb3 c2 hbl;by_cases hqt:(q:Int)<f+ways
      ·have hqn:q<n:=by omega
       obtain ⟨⟨vv,lv,tg,asd,gl,pt⟩,hx⟩:∃x,es[q]?=some x:=⟨_,List.getElem?_eq_getElem (by rw [HN.out];exact hqn)⟩;have HXq:Hid (es[q]?=some ⟨vv,lv,tg,asd,gl,pt⟩):=hx;have CE:∀j u,j<6->(eE ⟨vv,lv,tg,asd,gl,pt⟩)[j]?=some u->wr.cell? ⟨g,q*6+j,none⟩=some u:=fun j u hj hu=>fO (HR.out.keep hb3) HN.out q _ hx j u hj hu;have g0:wr.cell? ⟨g,q*6,none⟩=some (.int .i64 lv):=CE 0 _ (by omega) rfl;have g1:wr.cell? ⟨g,q*6+1,none⟩=some (.int .u64 tg):=CE 1 _ (by omega) rfl;have g2:wr.cell? ⟨g,q*6+2,none⟩=some (.int .u64 asd):=CE 2 _ (by omega) rfl;have g3:wr.cell? ⟨g,q*6+3,none⟩=some (.bool gl):=CE 3 _ (by omega) rfl;have g4:wr.cell? ⟨g,q*6+4,none⟩=some (.bool vv):=CE 4 _ (by omega) rfl;have HNx:Hid (fV va asid l ⟨vv,lv,tg,asd,gl,pt⟩=false->∀(q':Nat) x,f<=q'->q'<q+1->es[q']?=some x->fV va asid l x=false):=fun h q' x h1 h2 h3=>by
        by_cases e:q'=q
        ·subst e;rw [HXq.out] at h3;cases h3;exact h
        ·exact HQ.out q' x h1 (by omega) h3
       clear CE hx;cases vv
       ·go_wp2_with fail;go_roundw
        case rel=>exact ⟨q+1,by omega,by omega,by go_num,HNx.out (by simp [fV,jS]),hb3⟩
        case measure=>simp [intOf];omega
       ·by_cases hlv:lv=l
        ·subst hlv;obtain ⟨fb,hfb⟩:∃fb,((tg == eF va l) && (gl || asd == asid))=fb:=⟨_,rfl⟩;have HFt:Hid (∀u,Calls Tryz.prog 201 #[.agg #[.int .i64 l,.int .u64 tg,.int .u64 asd,.bool gl],.int .u64 va,.int .u64 asid] u fun e w'=>e=.returned (.bool fb)∧Below u.heap.size u w'):=fun u=>by
          have:=Ar l tg asd va asid gl u hl3 hv0 hv1;rw [hfb] at this;exact this
         have HHb:Hid (fV va asid l ⟨true,l,tg,asd,gl,pt⟩=fb):=by
          show _=_;rw [<-hfb];simp [fV,jS]
         clear hfb;go_wp2_with fail;refine (HFt.out wr).mono ?_;rintro e v5 ⟨rfl,n5⟩;have A5:=bst hb3 n5;cases fb
         ·go_wp2_with fail;go_roundw
          case rel=>exact ⟨q+1,by omega,by omega,by go_num,HNx.out HHb.out,A5⟩
          case measure=>simp [intOf];omega
         ·have hx:X=(true,(q:Int),(l:Int),pt):=by
           rw [<-HX.out];have hfi:=yH (t:=⟨sets,ways,es⟩) (k:=q-f) HV.out HFi.out (by simp only;rw [show f+(q-f)=q by omega];exact HXq.out) HHb.out (fun j y hj hy=>HQ.out (f+j) y (by omega) (by omega) hy);rw [show f+(q-f)=q by omega] at hfi;exact xt ⟨sets,ways,es⟩ va asid l q _ HEi.out (by omega) HF.out hfi
          subst hx;go_wp2_with fail;first
           | (replace mL:=mL;exact bodyPost_ret (v:=.tuple #[.int .i64 q,.bool true]) (by simp [results,Tryz.results197,go_sem]) rfl ⟨rfl,A5⟩)
           | (replace mP:=mP;exact bodyPost_ret (v:=.tuple #[.int .i64 q,.bool true]) (by simp [results,Tryz.results208,go_sem]) rfl ⟨rfl,A5⟩)
        ·have hlv':(lv == (l:Int))=false:=by simpa using hlv
         go_wp2_with fail;go_roundw
         case rel=>exact ⟨q+1,by omega,by omega,by go_num,HNx.out (by simp [fV,hlv]),hb3⟩
         case measure=>simp [intOf];omega
      ·have hqe:(q:Int)=f+ways:=by omega
       have hnn:dq va asid l 0 es=none:=yG (t:=⟨sets,ways,es⟩) HV.out HFi.out (fun j x hj hx=>HQ.out (f+j) x (by omega) (by simp only at hj;omega) hx);have HNn:Hid (dq va asid l 0 es=none):=hnn;clear hnn;go_wp2_with fail;go_roundw
       case rel=>exact ⟨l+1,by omega,by go_num,fun l' hl'=>by
        by_cases e:l'=l
        ·subst e;exact HNn.out
        ·exact HF.out l' (by omega),hb3⟩
       case measure=>simp [intOf];omega
   ·have hl3:l=3:=by omega
    subst hl3;have hx:X=(false,0,0,0):=by
     rw [<-HX.out];exact rV _ va asid HEi.out HF.out
    subst hx;go_wp2_with fail;first
     | (replace mL:=mL;exact bodyPost_ret (v:=.tuple #[.int .i64 0,.bool false]) (by simp [results,Tryz.results197,go_sem]) rfl ⟨rfl,hb⟩)
     | (replace mP:=mP;exact bodyPost_ret (v:=.tuple #[.int .i64 0,.bool false]) (by simp [results,Tryz.results208,go_sem]) rfl ⟨rfl,hb⟩)
end
theorem rH (lv:Int) (ra:Option Addr) (n rc:Nat) (w:World):
 Calls Tryz.prog 203 #[.agg #[.int .i64 lv,.int .u64 0,.slice ra n rc]] w fun e w'=>e=.returned (.slice ra n rc)∧Below w.heap.size w w':=by
 have n1:=(Below.refl w.heap.size w).alloc nle (Obj.cells #[.int .i64 lv,.int .u64 0,.slice ra n rc] 310);go_enter Tryz.func203,Tryz.ntmps203;go_wp2_with fail;go_ret;exact ⟨rfl,n1⟩
theorem rI (lv lf:Int) (g n rc:Nat) (w:World) (h:lf≠0) (hn:n<=3) (hn1:n+1<=rc) (hrc:rc<=9223372036854775807):
 Calls Tryz.prog 203 #[.agg #[.int .i64 lv,.int .u64 lf,.slice (some ⟨g,0,none⟩) (n+1) rc]] w fun e w'=>e=.returned (.slice (some ⟨g,0,none⟩) n rc)∧Below w.heap.size w w':=by
 have n1:=(Below.refl w.heap.size w).alloc nle (Obj.cells #[.int .i64 lv,.int .u64 lf,.slice (some ⟨g,0,none⟩) (n+1) rc] 310);have h':(lf == 0)=false:=by simpa using h
 go_enter Tryz.func203,Tryz.ntmps203;go_wp2_with fail;go_ret;exact ⟨by simp,n1⟩
theorem uq (b:Nat) (kind:Int) (w:World):
 Calls Tryz.prog 196 #[.pointer (some ⟨b,20,none⟩),.int .i64 kind] w fun e w'=>e=.returned (.pointer (some ⟨b,if kind=0 then 20 else 23,none⟩))∧w'=w:=by
 by_cases h:kind=0
 ·subst h;go_enter Tryz.func196,Tryz.ntmps196;go_wp2_with fail;go_ret;exact ⟨rfl,rfl⟩
 ·rw [if_neg h];go_enter Tryz.func196,Tryz.ntmps196;go_wp2_with fail;go_ret;exact ⟨rfl,rfl⟩
theorem zu (b base gi gd gp:Nat) (k:KM) (sv:Value) (zs:List Int) (satp va:Int) (w:World) (hS:SetM w b base gi gd gp k) (hk:aL k.p true=true) (hko:∀e∈k.p.es,dS e) (hkl:k.p.es.length<=1048576)
 (hB:SrcAt w sv zs) (hv0:0<=va) (hv1:va<=18446744073709551615) (hr0:0<=satp) (hr1:satp<=18446744073709551615):
 Calls Tryz.prog 202 #[.pointer (some ⟨b,20,none⟩),sv,.int .u64 satp,.int .u64 va] w fun e w'=>ts w.heap.size w' e (aY zs satp va (aU k.p va (aG satp)))∧Below w.heap.size w w':=by
 have HS:Hid (SetM w b base gi gd gp k):=hS;have HB:Hid (SrcAt w sv zs):=hB;have hb:=hS.lt;obtain ⟨⟨f,i,l,pt⟩,hX⟩:∃X,aU k.p va (aG satp)=X:=⟨_,rfl⟩;have HX:Hid (aU k.p va (aG satp)=(f,i,l,pt)):=hX;have HGet:Hid (f=true->∃(q:Nat) (x:EntM),k.p.es[q]?=some x∧i=(q:Int)∧l=x.level∧pt=x.pte∧(x.level=1∨x.level=2)):=fun hf=>by
  obtain ⟨q,x,h1,h2,h3,h4,_,h6⟩:=kL k.p va (aG satp) (by rw [hX];exact hf);rw [hX] at h2 h3 h4;refine ⟨q,x,h1,h2,h3,h4,?_⟩;have hp:=iX hk q x h1;simp only [bZ,Bool.or_eq_true,Bool.and_eq_true,beq_iff_eq] at hp;rcases hp with hp | hp
  ·rw [h6] at hp;simp at hp
  ·have hg:=hp.1;simp only [aW,Bool.and_eq_true,decide_eq_true_eq,beq_iff_eq,gD,if_true] at hg;have hkd:bu x.pte x.level=1:=hg.2;have hlv:=hg.1.1.1.1.1.2;have hlv2:=hg.1.1.1.1.2;rcases (show x.level=0∨x.level=1∨x.level=2 by omega) with h0 | h0 | h0
   ·rw [h0] at hkd;exact absurd hkd (ia _)
   ·exact .inl h0
   ·exact .inr h0
 obtain ⟨R,hR⟩:∃R,aY zs satp va (f,i,l,pt)=R:=⟨_,rfl⟩;have HRs:Hid (aY zs satp va (f,i,l,pt)=R):=hR;rw [hX,hR];clear hX hS hB hR;have n1:=(Below.refl w.heap.size w).alloc nle (Obj.cells #[.int .i64 0,.int .u64 0,.slice none 0 0] 310);have H1:Hid ((w.alloc (Obj.cells #[.int .i64 0,.int .u64 0,.slice none 0 0] 310)).heap[w.heap.size]?=some (.cells #[.int .i64 0,.int .u64 0,.slice none 0 0] 310 (0,0))):=heap_alloc_new w _;have l1:w.heap.size<(w.alloc (Obj.cells #[.int .i64 0,.int .u64 0,.slice none 0 0] 310)).heap.size:=by simp
 go_enter Tryz.func202,Tryz.ntmps202;go_wp2_with fail;generalize w.alloc (Obj.cells #[.int .i64 0,.int .u64 0,.slice none 0 0] 310)=v1 at n1 H1 l1 |-;have HF:Hid (∀u:Lies v1,Calls Tryz.prog 208 #[.pointer (some ⟨b,26,none⟩),.int .u64 va,.int .u64 (aG satp)] u.w fun e w'=>e=.returned (.tuple #[.int .i64 i,.bool f])∧Below u.w.heap.size u.w w'):=fun u=>by
  have S:=HS.out.keep (bst n1 u.h);obtain ⟨c0,c1,c2⟩:=S.cellP;have:=nY.2 b 26 gp k.p.es.length k.p va (aG satp) u.w rfl hkl hk S.lt c0 c1 c2 (dv S.2.1.2.2.1) hv0 hv1;rw [HX.out] at this;exact this
 have HA:Hid (∀u:Lies v1,Calls Tryz.prog 198 #[.int .u64 satp] u.w fun e w'=>e=.returned (.int .u64 (aG satp))∧w'=u.w):=fun u=>kE satp u.w hr0 hr1;generalize aG satp=asd at HF HA;have ne:=cM v1;refine bM (by kernel_rfl) (by kernel_rfl) ?_;repeat (go_big_quiet_step ((first
  | (go_at_call 198;exact iI _ (HA.out _))
  | (go_at_call 208;exact bV _ (HF.out _)))))
 refine wpQuiet_nil ?_;rintro _ ⟨u,rfl⟩;have n2:=u.h;generalize u.w=v2 at n2 |-;have H2:=ab H1 n2;have A2:=bst n1 n2;have l2:w.heap.size<v2.heap.size:=Nat.lt_of_lt_of_le l1 n2.size;clear n1 n2 H1 ne HF HA;obtain ⟨⟨d0,d1,d2⟩,e0,e1,e2⟩:=ay H2.out;cases f
 ·have hres:R=ce zs satp va:=by rw [<-HRs.out];simp [aY]
  go_wp2_with fail;refine (gQ sv zs va satp v2 (HB.out.keep A2) hv0 hv1 hr0 hr1).mono ?_;rw [<-hres];rintro e v3 ⟨hw,n3⟩;have H3:=ab H2 n3;have A3:=bst A2 n3;obtain ⟨ra,rc,rfl,o3⟩:=hw;clear d0 d1 d2 e0 e1 e2 hres HRs;obtain ⟨⟨d0,d1,d2⟩,e0,e1,e2⟩:=ay H3.out;go_wp2_with fail;exact bodyPost_ret (v:=.tuple #[.agg #[.int .i64 R.2.1,.int .u64 R.2.2.1,.slice ra R.2.2.2.length rc],bW R.1]) (by simp [results,Tryz.results202,go_sem,d0,d1,d2]) rfl ⟨⟨ra,rc,rfl,aK (bX o3 (gb3 v3 w.heap.size _ _ _) l2) (by omega)⟩,fu A3 nle _ _ _⟩
 ·obtain ⟨q,x,hx,rfl,rfl,rfl,hlv⟩:=HGet.out (by trivial);have hok:=hko x (List.mem_of_getElem? hx);have hql:q<k.p.es.length:=(List.getElem?_eq_some_iff.1 hx).1;have S2:=HS.out.keep A2;obtain ⟨_,_,p2⟩:=S2.cellP;have p2':v2.cell? ⟨b,28,none⟩=some (.slice (some ⟨gp,0,none⟩) k.p.es.length k.p.es.length):=p2;clear p2;have CE:∀j u,j<6->(eE x)[j]?=some u->v2.cell? ⟨gp,q*6+j,none⟩=some u:=fun j u hj hu=>fO (dv S2.2.1.2.2.1) rfl q _ hx j u hj hu;have g0:v2.cell? ⟨gp,q*6,none⟩=some (.int .i64 x.level):=CE 0 _ (by omega) rfl;have g1:v2.cell? ⟨gp,q*6+1,none⟩=some (.int .u64 x.tag):=CE 1 _ (by omega) rfl;have g2:v2.cell? ⟨gp,q*6+2,none⟩=some (.int .u64 x.asid):=CE 2 _ (by omega) rfl;have g3:v2.cell? ⟨gp,q*6+3,none⟩=some (.bool x.glob):=CE 3 _ (by omega) rfl;have g4:v2.cell? ⟨gp,q*6+4,none⟩=some (.bool x.valid):=CE 4 _ (by omega) rfl;have g5:v2.cell? ⟨gp,q*6+5,none⟩=some (.int .u64 x.pte):=CE 5 _ (by omega) rfl;obtain ⟨ll,hsub,hl1⟩:∃ll:Nat,x.level-1=(ll:Int)∧ll<=1:=by
   rcases hlv with h | h
   ·exact ⟨0,by rw [h];rfl,by omega⟩
   ·exact ⟨1,by rw [h];rfl,by omega⟩
  have hL1:1<=x.level:=by omega
  have hL2:x.level<=2:=by omega
  have hres:R=cE zs va ll (dg x.pte):=by
   rw [<-HRs.out];simp only [aY,if_true];rw [hsub];simp
  have HRes:Hid (R=cE zs va ll (dg x.pte)):=hres;have hpb:=hok.2.2.2;have htb:Hid (∀u:World,Calls Tryz.prog 211 #[.int .u64 x.pte] u fun e w'=>e=.returned (.int .u64 (dg x.pte))∧w'=u):=fun u=>Aq x.pte u hpb.1 hpb.2;have hpp:=py x.pte;clear CE hres HRs HX HGet hlv S2 hx;generalize dg x.pte=pp at *;generalize x.level=L0 at *;generalize x.tag=tg at *;generalize x.asid=ad at *;generalize x.glob=gl at *;generalize x.valid=vv at *;generalize x.pte=pt at *;have n3:=(Below.refl v2.heap.size v2).alloc nle (Obj.cells #[.int .i64 L0,.int .u64 tg,.int .u64 ad,.bool gl,.bool vv,.int .u64 pt] 229);have S3:Hid ((v2.alloc (Obj.cells #[.int .i64 L0,.int .u64 tg,.int .u64 ad,.bool gl,.bool vv,.int .u64 pt] 229)).heap[v2.heap.size]?=some (.cells #[.int .i64 L0,.int .u64 tg,.int .u64 ad,.bool gl,.bool vv,.int .u64 pt] 229 (0,0))):=heap_alloc_new v2 _;go_wp2_with fail;generalize v2.alloc (Obj.cells #[.int .i64 L0,.int .u64 tg,.int .u64 ad,.bool gl,.bool vv,.int .u64 pt] 229)=v3 at n3 S3 |-;have H3:=ab H2 n3;have A3:=bst A2 n3;have l3:w.heap.size<v3.heap.size:=Nat.lt_of_lt_of_le l2 n3.size;clear g0 g1 g2 g3 g4 g5 p2' d0 d1 d2 e0 e1 e2 n3 H2 A2;obtain ⟨⟨g0,g1,g2,g3,g4,g5⟩,_⟩:=gI S3.out;have D3:=bdr v3;have nev1:v2.heap.size≠w.heap.size:=by omega
  have nev2:w.heap.size≠v2.heap.size:=by omega
  have hwl:IntKind.i64.wrap (ll:Int)=(ll:Int):=(IntKind.wrap_i64 _).trans (by omega);clear g1 g2 g3 g4 hk hko hkl hb hok hql HS;clear l1 l2 hr0 hr1;go_region_held3 (fun w'=>w'.cell? ⟨v2.heap.size,0,none⟩=some (.int .i64 L0)∧w'.cell? ⟨v2.heap.size,5,none⟩=some (.int .u64 pt)) (go_keep)
   (first
   | (go_at_call 211;refine (htb.out _).mono ?_;rintro e w' ⟨rfl,rfl⟩)
   | (go_at_call 210;refine (mC sv zs va pp ll v3.drew (HB.out.keep (bst A3 D3)) (by omega) hv0 hv1 hpp.1 hpp.2).mono ?_;rw [<-HRes.out];rintro e v4 ⟨hw,n4⟩;obtain ⟨ra,rc,rfl,o4⟩:=hw;have N4:=bst D3 n4;have H4:=ab H3 N4;have S4:=ab S3 N4;have A4:=bst A3 N4;have O4:Hid _:=o4;have kk:=ay H4.out;obtain ⟨⟨j0,j1,j2⟩,i0,i1,i2⟩:=kk;have kk2:=gI S4.out;obtain ⟨⟨t0,t1,t2,t3,t4,t5⟩,_⟩:=kk2;clear o4))
  all_goals
   go_wp2_with fail;exact bodyPost_ret (v:=.tuple #[.agg #[.int .i64 R.2.1,.int .u64 R.2.2.1,.slice ra R.2.2.2.length rc],bW R.1]) (by simp [results,Tryz.results202,go_sem,j0,j1,j2]) rfl ⟨⟨ra,rc,rfl,aK (bX O4.out (gb3 v4 w.heap.size _ _ _) l3) (Nat.le_of_lt l3)⟩,fu A4 nle _ _ _⟩
end Go.Proofs.YtgnnmgfgfihljaaGreat
