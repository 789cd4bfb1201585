import Derived.Test.YtkenjknmfhoppaaGreatSk02
import Derived.Deep.CutRange
namespace Go.Proofs.YtkenjknmfhoppaaGreat
open Go.RowKit
set_option linter.unusedVariables false
set_option maxHeartbeats 6400000
set_option maxRecDepth 20000
theorem yy (a:Option Addr) (len cap:Nat) (zs:List Int) (va lv n ix rv:Int) (w:World) (hl:len<=1048576) (hc:len<=cap) (hm:cap<=9223372036854775807) (hv0:0<=va) (hv1:va<=18446744073709551615)
 (h0:0<=lv) (h2:lv<=2) (hn0:0<=n) (hn1:n<17592186044416) (hB:Byt w a len zs) (hix:Hid (dF va lv=ix)) (hib:0<=ix∧ix<=7) (hrv:Hid (rdV zs (64*n+8*ix) 8=rv)) (hrb:0<=rv∧rv<=18446744073709551615)
 (hg:Hid (dU len (64*n+8*ix) 8=true)) (hk:Hid (bH rv lv=1)) (NX:Int × Int × Int × List ef) (hlen:NX.2.2.2.length<=2) (h1:1<=lv)
 (hnx:Hid (∀w':World,Byt w' a len zs->
   Calls Tryz.prog 95 #[.slice a len cap,VU (dI rv),VI (lv-1),VU va] w' fun e w''=>me w'.heap.size w'' e NX∧Bw w' w'')):
 Calls Tryz.prog 95 #[.slice a len cap,VU n,VI lv,VU va] w fun e w'=>
  me w.heap.size w' e (NX.1,NX.2.1,NX.2.2.1,(lv,64*n+8*ix,rv)::NX.2.2.2)∧Bw w w':=by
 have hz:=hB.1;obtain ⟨v1,Ev1,n1,H8,l1⟩:=al1 w #[VI 0,VI 0,VU 0,SN] 138;go_enter Tryz.func95,Tryz.ntmps95;go_wp2_with fail;rw [Ev1.out];clear Ev1;refine (kN va lv v1 hv0 hv1 h0 h2).mono ?_;rintro e w' ⟨rfl,nq,rfl⟩;rw [hix.out];have n2:=below_drewN n1 nq;have H9:Hid ((v1.drewN nq).heap[w.heap.size]?=some (.cells #[VI 0,VI 0,VU 0,SN] 138 (0,0))):=H8;have l2:w.heap.size<(v1.drewN nq).heap.size:=l1;generalize v1.drewN nq=v2 at n2 H9 l2 |-;clear H8 l1 n1;go_wp2_with fail;refine (ie a len cap zs (64*n+8*ix) 8 v2 (hB.keep n2) hl hc hm (by omega) (by omega) (by omega)).mono ?_;rintro e v3 ⟨rfl,n3⟩;rw [hrv.out,hg.out];have n13:=bst n2 n3;have H10:Hid (v3.heap[w.heap.size]?=some (.cells #[VI 0,VI 0,VU 0,SN] 138 (0,0))):=ag H9.out n3 l2;have l3:w.heap.size<v3.heap.size:=ltl l2 n3.size;clear H9 n2 n3 l2;go_wp2_with fail;have a4:=fZ v3 #[Value.bool true,VU rv] 186;generalize v3.alloc (Obj.cells #[Value.bool true,VU rv] 186)=v4 at a4 |-;obtain ⟨l4,c4,n4⟩:=a4;have c41:v4.cell? (AD v3.heap.size 1)=some (VU rv):=c4 1;have n14:=bst n13 n4;have H11:Hid (v4.heap[w.heap.size]?=some (.cells #[VI 0,VI 0,VU 0,SN] 138 (0,0))):=ag H10.out n4 l3;clear c4 n13 n4 H10;refine (gu rv lv v4 hrb.1 hrb.2 (by omega) (by omega)).mono ?_;rintro e w' ⟨rfl,nk,rfl⟩;rw [hk.out];have n15:Bw w (v4.drewN nk):=below_drewN n14 nk;have c51:(v4.drewN nk).cell? (AD v3.heap.size 1)=some (VU rv):=c41;have H12:Hid ((v4.drewN nk).heap[w.heap.size]?=some (.cells #[VI 0,VI 0,VU 0,SN] 138 (0,0))):=H11;have l5:v3.heap.size<(v4.drewN nk).heap.size:=l4;generalize v4.drewN nk=v5 at n15 c51 H12 l5 |-;clear n14 c41 H11 l4;go_wp2_with fail;refine (dG rv v5 hrb.1 hrb.2).mono ?_;rintro e w' ⟨rfl,np,rfl⟩;have n16:Bw w (v5.drewN np):=below_drewN n15 np;have c61:(v5.drewN np).cell? (AD v3.heap.size 1)=some (VU rv):=c51;have H13:Hid ((v5.drewN np).heap[w.heap.size]?=some (.cells #[VI 0,VI 0,VU 0,SN] 138 (0,0))):=H12;have l6:v3.heap.size<(v5.drewN np).heap.size:=l5;generalize v5.drewN np=v6 at n16 c61 H13 l6 |-;clear n15 c51 H12 l5;go_wp2_with fail;refine (hnx.out v6 (hB.keep n16)).mono ?_;rintro e v7 ⟨⟨a7,c7,rfl,r7,na7,sp7,nc7⟩,n7⟩;obtain ⟨x1,x2,x3,rs⟩:=NX;simp only at r7 na7 nc7 hlen |-;have n17:=bst n16 n7;have c71:=Below.cell2 n7 c61 l6;have H14:Hid (v7.heap[w.heap.size]?=some (.cells #[VI 0,VI 0,VU 0,SN] 138 (0,0))):=ag H13.out n7 (by omega);have l7:v3.heap.size<v7.heap.size:=ltl l6 n7.size;clear n16 n7 c61 H13 l6;have l8:w.heap.size<v7.heap.size:=Nat.lt_trans l3 l7;go_wp2_with fail;obtain ⟨v8,Ev8,n8,H15,l9⟩:=al1 v7 #[VI x1,VI x2,VU x3,Value.slice a7 rs.length c7] 138;rw [Ev8.out];clear Ev8;have n18:=bst n17 n8;have c81:=Below.cell2 n8 c71 l7;have H16:Hid (v8.heap[w.heap.size]?=some (.cells #[VI 0,VI 0,VU 0,SN] 138 (0,0))):=ag H14.out n8 l8;have HR:Hid (RowC v8 a7 rs.length 3 (dc rs)):=r7.keep n8;have HN:Hid (a7=none->rs.length=0∧c7=0):=na7;have HSp:Hid (∀q,a7=some q->q.spot=none∧v6.heap.size<=q.block):=sp7;clear r7 na7 sp7 n17 n8 c71 H14;have q3:=(ay H15.out).1.2.2.2;have p3:=(ay H15.out).2.2.2.2;have ne1:v8.heap.size≠v3.heap.size:=by omega
 have ne2:v8.heap.size≠v7.heap.size:=by omega
 have ne4:v7.heap.size≠v8.heap.size:=by omega
 go_region_law (first
  | (refine nY _ (by rfl) (.tmp 59) (.tmp 61) 136 (by rfl) 142 Tryz.underlying136 (.agg #[VI 0,VU 0,VU 0]) 3 24 Tryz.infoRec (by rfl) (by decide) v8.heap.size v8.heap.size 1 1 (dc [(lv,64*n+8*ix,rv)]) (by rfl) (OwnC.new 142 3 v8.drew (dc [(lv,64*n+8*ix,rv)]) 1 (by rfl) (by decide)) a7 rs.length c7 (dc rs) (by rfl) HN.out (fun q hq=>(HSp.out q hq).1) (RowC.keep (w:=v8) HR.out ((brf).drew.alloc nle _)) (mQ rs) (by omega) (by omega) v8.heap.size v8 ((brf).drew.alloc nle _) nle ?_;intro g9 c9 v9 o9 n9;have q9:=Below.cell2 n9 q3 l9;have p9:=Below.froz2 n9 p3 l9)
  | (go_simp;go_at_call 133;refine (uv _ _ _ _).mono ?_;rintro e w' ⟨rfl,rfl⟩))
 all_goals
  have k9:=ag H15.out n9 l9;have k9':=Gp (u:=SL g9 (1+rs.length) c9) k9;have m9:=aq (aw v9 (some v7.heap.size)) 3 (SL g9 (1+rs.length) c9);have f9:=o9.facts;have n19:Bw w v9:=bst n18 n9;have n110:=Below.gb n19 m9 (by omega) (ltl l9 n9.size);have b9:=aB (ag H16.out n9 (by omega)) m9 (by omega);have r9:=o9.row.gb m9 (by omega);generalize v9.setCell (AD v7.heap.size 3) (SL g9 (1+rs.length) c9)=v10 at k9' m9 n110 b9 r9 |-;obtain ⟨⟨d0,d1,d2,d3⟩,e0,e1,e2,e3⟩:=ay b9;obtain ⟨⟨t0,t1,t2,t3⟩,_⟩:=ay k9';have HR9:Hid (RowC v10 (some (AD g9 0)) (1+rs.length) 3 (dc [(lv,64*n+8*ix,rv)]++dc rs)):=r9;clear k9 k9' m9 q9 p9 o9 n9 n19 b9 r9 q3 p3 c81;go_wp2_with fail;refine bodyPost_ret (v:=.agg #[VI x1,VI x2,VU x3,SL g9 (1+rs.length) c9]) (by simp [results,Tryz.results95,go_sem,d0,d1,d2,d3]) rfl ?_;have e10:1+rs.length=rs.length+1:=Nat.add_comm _ _;rw [e10] at HR9 f9 |-;exact ⟨⟨some (AD g9 0),c9,rfl,RowC.gb HR9.out (gb4 v10 w.heap.size _ _ _ _) (by omega),(by intro h;cases h),(by intro q hq;cases hq;exact ⟨rfl,by show w.heap.size<=g9;omega⟩),f9.2.2.2.1⟩,qr n110 nle _ _ _ _⟩
theorem mZ (zs:List Int) (va:Int):∀(l:Nat) (n:Int),(cQ zs va l n).2.2.2.length<=l+1
 | 0,n=>by
  unfold cQ;split
  ·simp
  ·split
   ·simp
   ·split <;> simp
 | l+1,n=>by
  unfold cQ;split
  ·simp
  ·split
   ·simp
   ·split
    ·simp
    ·have:=mZ zs va l (dI (rdV zs (64*n+8*dF va ((l+1:Nat):Int)) 8));simp only [List.length_cons];omega
theorem sX (a:Option Addr) (len cap:Nat) (zs:List Int) (va:Int) (hl:len<=1048576) (hc:len<=cap) (hm:cap<=9223372036854775807) (hv0:0<=va) (hv1:va<=18446744073709551615) (l:Nat):
 ∀(n lv:Int) (w:World),lv=l->l<=2->0<=n->n<17592186044416->Byt w a len zs->
 Calls Tryz.prog 95 #[.slice a len cap,VU n,VI lv,VU va] w fun e w'=>me w.heap.size w' e (cQ zs va l n)∧Bw w w':=by
 induction l with
 | zero=>
  intro n lv w e hl2 hn0 hn1 hB;subst e;have hz:=hB.1;have hib:=rG va ((0:Nat):Int);have hrb:=oL zs (64*n+8*dF va ((0:Nat):Int)) 8 (by omega) hB.2.1;unfold cQ;rw [hz];cases hg:dU len (64*n+8*dF va ((0:Nat):Int)) 8
  ·rw [if_pos rfl];exact sA a len cap zs va _ n _ _ w hl hc hm hv0 hv1 (by omega) (by omega) hn0 hn1 hB rfl hib rfl hrb hg
  ·rw [if_neg (by simp)];rcases mR (rdV zs (64*n+8*dF va ((0:Nat):Int)) 8) ((0:Nat):Int) with hk | hk | hk
   ·rw [if_pos hk];exact sB a len cap zs va _ n _ _ w hl hc hm hv0 hv1 (by omega) (by omega) hn0 hn1 hB rfl hib rfl hrb hg hk
   ·exact absurd hk (jx _)
   ·rw [if_neg (by rw [hk];decide),if_pos hk];exact qU a len cap zs va _ n _ _ w hl hc hm hv0 hv1 (by omega) (by omega) hn0 hn1 hB rfl hib rfl hrb hg hk
 | succ l ih=>
  intro n lv w e hl2 hn0 hn1 hB;subst e;have hz:=hB.1;have hib:=rG va ((l+1:Nat):Int);have hrb:=oL zs (64*n+8*dF va ((l+1:Nat):Int)) 8 (by omega) hB.2.1;unfold cQ;rw [hz];cases hg:dU len (64*n+8*dF va ((l+1:Nat):Int)) 8
  ·rw [if_pos rfl];exact sA a len cap zs va _ n _ _ w hl hc hm hv0 hv1 (by omega) (by omega) hn0 hn1 hB rfl hib rfl hrb hg
  ·rw [if_neg (by simp)];rcases mR (rdV zs (64*n+8*dF va ((l+1:Nat):Int)) 8) ((l+1:Nat):Int) with hk | hk | hk
   ·rw [if_pos hk];exact sB a len cap zs va _ n _ _ w hl hc hm hv0 hv1 (by omega) (by omega) hn0 hn1 hB rfl hib rfl hrb hg hk
   ·rw [if_neg (by rw [hk];decide),if_neg (by rw [hk];decide)];have hp:=rH (rdV zs (64*n+8*dF va ((l+1:Nat):Int)) 8);exact yy a len cap zs va _ n _ _ w hl hc hm hv0 hv1 (by omega) (by omega) hn0 hn1 hB rfl hib rfl hrb hg hk
     (cQ zs va l (dI (rdV zs (64*n+8*dF va ((l+1:Nat):Int)) 8))) (by have:=mZ zs va l (dI (rdV zs (64*n+8*dF va ((l+1:Nat):Int)) 8));omega) (by omega)
     (fun w' hB'=>ih _ _ w' (by omega) (by omega) hp.1 hp.2 hB')
   ·rw [if_neg (by rw [hk];decide),if_pos hk];exact qU a len cap zs va _ n _ _ w hl hc hm hv0 hv1 (by omega) (by omega) hn0 hn1 hB rfl hib rfl hrb hg hk
theorem pS (a:Option Addr) (len cap:Nat) (zs:List Int) (root va:Int) (w:World) (hl:len<=1048576) (hc:len<=cap) (hm:cap<=9223372036854775807) (hr0:0<=root) (hr1:root<=18446744073709551615) (hv0:0<=va) (hv1:va<=18446744073709551615) (hB:Byt w a len zs):
 Calls Tryz.prog 56 #[.slice a len cap,VU root,VU va] w fun e w'=>me w.heap.size w' e (dn zs root va)∧Bw w w':=by
 have H8:Hid ((w.alloc (Obj.cells #[VI 0,VI 0,VU 0,SN] 138)).heap[w.heap.size]?=some (.cells #[VI 0,VI 0,VU 0,SN] 138 (0,0))):=er _ _;have n1:=(Below.refl w.heap.size w).alloc nle (Obj.cells #[VI 0,VI 0,VU 0,SN] 138);have l1:w.heap.size<(w.alloc (Obj.cells #[VI 0,VI 0,VU 0,SN] 138)).heap.size:=by simp
 unfold dn;cases hcn:dC va
 ·rw [if_pos rfl];have HC:Hid (dC va=false):=hcn;clear hcn;go_enter Tryz.func56,Tryz.ntmps56;go_wp2_with fail;generalize w.alloc (Obj.cells #[VI 0,VI 0,VU 0,SN] 138)=v1 at H8 n1 l1 |-;refine (eL va v1 hv0 hv1).mono ?_;rintro e w' ⟨rfl,nq,rfl⟩;rw [HC.out];have n2:Bw w (v1.drewN nq):=below_drewN n1 nq;have H9:Hid ((v1.drewN nq).heap[w.heap.size]?=some (.cells #[VI 0,VI 0,VU 0,SN] 138 (0,0))):=H8;generalize v1.drewN nq=v2 at n2 H9 |-;obtain ⟨⟨d0,d1,d2,d3⟩,e0,e1,e2,e3⟩:=ay H9.out;go_wp2_with fail;refine bodyPost_ret (v:=.agg #[VI 2,VI 2,VU 0,SN]) (by simp [results,Tryz.results56,go_sem,d0,d1,d2,d3]) rfl ⟨⟨none,0,rfl,RowC.nil _ _ _,fun _=>⟨rfl,rfl⟩,(by intro q hq;cases hq),Nat.zero_le _⟩,qr n2 nle _ _ _ _⟩
 ·rw [if_neg (by simp)];have HC:Hid (dC va=true):=hcn;clear hcn;obtain ⟨X,hX⟩:∃X,cQ zs va 2 (root%17592186044416)=X:=⟨_,rfl⟩;have HX:Hid (cQ zs va 2 (root%17592186044416)=X):=hX;rw [hX];clear hX;obtain ⟨x1,x2,x3,rs⟩:=X;go_enter Tryz.func56,Tryz.ntmps56;go_wp2_with fail;generalize w.alloc (Obj.cells #[VI 0,VI 0,VU 0,SN] 138)=v1 at H8 n1 l1 |-;refine (eL va v1 hv0 hv1).mono ?_;rintro e w' ⟨rfl,nq,rfl⟩;rw [HC.out];have n2:Bw w (v1.drewN nq):=below_drewN n1 nq;have H9:Hid ((v1.drewN nq).heap[w.heap.size]?=some (.cells #[VI 0,VI 0,VU 0,SN] 138 (0,0))):=H8;have l2:w.heap.size<(v1.drewN nq).heap.size:=l1;generalize v1.drewN nq=v2 at n2 H9 l2 |-;clear n1 H8 l1;go_wp2_with fail;refine (bQ root 0 43 1 17592186044416 v2 hr0 hr1 (by omega) (by omega) (by omega) (by omega) rfl rfl).mono ?_;rintro e w' ⟨rfl,nr,rfl⟩;have n3:Bw w (v2.drewN nr):=below_drewN n2 nr;have H10:Hid ((v2.drewN nr).heap[w.heap.size]?=some (.cells #[VI 0,VI 0,VU 0,SN] 138 (0,0))):=H9;have l3:w.heap.size<(v2.drewN nr).heap.size:=l2;generalize v2.drewN nr=v3 at n3 H10 l3 |-;clear n2 H9 l2;rw [Int.ediv_one];have hb0:0<=root%17592186044416∧root%17592186044416<17592186044416:=⟨Int.emod_nonneg _ (by omega),Int.emod_lt_of_pos _ (by omega)⟩;go_wp2_with fail;refine (sX a len cap zs va hl hc hm hv0 hv1 2 _ 2 v3 rfl (by omega) hb0.1 hb0.2 (hB.keep n3)).mono ?_;rintro e v4 ⟨hw,n4⟩;rw [HX.out] at hw;obtain ⟨a4,c4,rfl,r4,na4,sp4,nc4⟩:=hw;simp only at r4 na4 nc4 |-;have n14:=bst n3 n4;have H11:Hid _:=ag H10.out n4 l3;have l4:w.heap.size<v4.heap.size:=ltl l3 n4.size;obtain ⟨⟨d0,d1,d2,d3⟩,e0,e1,e2,e3⟩:=ay (ag H10.out n4 l3);have HR4:Hid (RowC v4 a4 rs.length 3 (dc rs)):=r4;have HN4:Hid (a4=none->rs.length=0∧c4=0):=na4;have HS4:Hid (∀q,a4=some q->q.spot=none∧v3.heap.size<=q.block):=sp4;clear r4 na4 sp4 H10 H11 n3 n4;go_wp2_with fail;refine bodyPost_ret (v:=.agg #[VI x1,VI x2,VU x3,.slice a4 rs.length c4]) (by simp [results,Tryz.results56,go_sem,d0,d1,d2,d3]) rfl ⟨⟨a4,c4,rfl,RowC.gb' HR4.out (gb4 v4 w.heap.size _ _ _ _) (fun q hq=>by have:=(HS4.out q hq).2;omega),HN4.out,(fun q hq=>⟨(HS4.out q hq).1,by have:=(HS4.out q hq).2;omega⟩),nc4⟩,qr n14 nle _ _ _ _⟩
section
attribute [local go_sem ↓] Go.wp_at_zero Go.wp_at_succ
def et (mode:Int) (sum mxr:Bool) (satp:Int):Value:=.agg #[VI mode,.bool sum,.bool mxr,VU satp]
theorem mX (mode:Int) (sum mxr:Bool) (satp:Int) (w:World) (h0:0<=satp) (h1:satp<=18446744073709551615):
 Calls Tryz.prog 53 #[et mode sum mxr satp] w fun e w'=>e=.returned (.bool (onM mode satp))∧Bw w w':=by
 unfold et;have a1:=fZ w #[VI mode,.bool sum,.bool mxr,VU satp] 134;go_enter Tryz.func53,Tryz.ntmps53;go_wp2_with fail;generalize w.alloc (Obj.cells #[VI mode,.bool sum,.bool mxr,VU satp] 134)=v1 at a1 |-;obtain ⟨l1,c1,n1⟩:=a1;have c10:=c1 0;clear c1;refine (bQ satp 60 63 1152921504606846976 16 v1 h0 h1 (by omega) (by omega) (by omega) (by omega) rfl rfl).mono ?_;rintro e w' ⟨rfl,nq,rfl⟩;cases hs:(satp/1152921504606846976%16 == 8)
 ·go_wp2;go_ret;exact ⟨aD (by simp [onM,hs]),below_drewN n1 nq⟩
 ·cases hm0:(mode == 0)
  ·go_wp2;go_ret;exact ⟨aD (by simp [onM,hs,hm0]),below_drewN n1 nq⟩
  ·go_wp2;go_ret;exact ⟨aD (by simp [onM,hs,hm0]),below_drewN n1 nq⟩
theorem qC (satp:Int) (w:World) (h0:0<=satp) (h1:satp<=18446744073709551615):
 Calls Tryz.prog 57 #[VU satp] w fun e w'=>e=.returned (VU (aK satp))∧∃n,w'=w.drewN n:=by
 go_enter Tryz.func57,Tryz.ntmps57;go_wp2_with fail;refine (bQ satp 44 59 17592186044416 65536 w h0 h1 (by omega) (by omega) (by omega) (by omega) rfl rfl).mono ?_;rintro e w' ⟨rfl,nq,rfl⟩;go_wp2;go_ret;exact ⟨rfl,nq,rfl⟩
theorem jB (kind:Int) (w:World):Calls Tryz.prog 153 #[VI kind] w fun e w'=>e=.returned (VI (eR kind))∧w'=w:=by
 by_cases k0:kind=0
 ·subst k0;go_enter Tryz.func153,Tryz.ntmps153;go_wp2;go_ret;exact ⟨rfl,rfl⟩
 by_cases k1:kind=1
 ·subst k1;go_enter Tryz.func153,Tryz.ntmps153;go_wp2;go_ret;exact ⟨rfl,rfl⟩
 have k0':(kind == 0)=false:=by simpa using k0
 have k1':(kind == 1)=false:=by simpa using k1
 go_enter Tryz.func153,Tryz.ntmps153;go_wp2;go_ret;exact ⟨cC (by simp [eR,k0,k1]),rfl⟩
theorem ku (kind:Int) (w:World):Calls Tryz.prog 159 #[VI kind] w fun e w'=>e=.returned (VI (bP kind))∧w'=w:=by
 by_cases k0:kind=0
 ·subst k0;go_enter Tryz.func159,Tryz.ntmps159;go_wp2;go_ret;exact ⟨rfl,rfl⟩
 by_cases k1:kind=1
 ·subst k1;go_enter Tryz.func159,Tryz.ntmps159;go_wp2;go_ret;exact ⟨rfl,rfl⟩
 have k0':(kind == 0)=false:=by simpa using k0
 have k1':(kind == 1)=false:=by simpa using k1
 go_enter Tryz.func159,Tryz.ntmps159;go_wp2;go_ret;exact ⟨cC (by simp [bP,k0,k1]),rfl⟩
def fz (r:Int × Int):Value:=.agg #[VI r.1,VU r.2]
theorem mY {w:World} {g:Nat} {T:TypeId} {a b:Value} (h:w.heap[g]?=some (.cells #[a,b] T (0,0))):
 (w.cell? (AD g 0)=some a∧w.cell? (AD g 1)=some b)∧w.frozen? (AD g 0)=false∧w.frozen? (AD g 1)=false:=by
 simp [World.cell?,World.frozen?,h]
theorem Db {B:Nat} {a w:World} {g:Nat} (h:Below B a w) (hg:B<=g) (x y:Value):Below B a ((w.setCell (AD g 0) x).setCell (AD g 1) y):=
 (h.setCell (p:=(AD g 0)) hg x).setCell (p:=(AD g 1)) hg y
theorem oU (pte level mode:Int) (sum mxr:Bool) (satp kind va:Int) (w:World) (h0:0<=pte) (h1:pte<=18446744073709551615) (hv:0<=va) (hv':va<=18446744073709551615) (hl: -9223372036854775808<=level) (hl':level<=9223372036854775807):
 Calls Tryz.prog 155 #[VU pte,VI level,et mode sum mxr satp,VI kind,VU va] w fun e w'=>e=.returned (fz (ft pte level mode sum mxr kind va))∧Bw w w':=by
 unfold et ft;cases hg:du pte kind mode sum mxr
 ·rw [if_neg (by simp)];have HG:=hid hg;clear hg;go_enter Tryz.func155,Tryz.ntmps155;go_wp2_with fail;refine (mq pte kind mode sum mxr _ h0 h1).mono ?_;rintro e w' ⟨rfl,nq,rfl⟩;rw [HG.out];go_wp2_with (go_at_call 153;refine (jB kind _).mono ?_;rintro e w' ⟨rfl,rfl⟩);exact bodyPost_ret (v:=.agg #[VI (eR kind),VU 0]) (by simp [results,Tryz.results155,go_sem]) rfl ⟨rfl,Db (below_drewN (((brf).alloc nle _).alloc (by simp) _) nq) (Nat.le_succ _) _ _⟩
 ·rw [if_pos rfl];have HG:=hid hg;clear hg;go_enter Tryz.func155,Tryz.ntmps155;go_wp2_with fail;refine (mq pte kind mode sum mxr _ h0 h1).mono ?_;rintro e w' ⟨rfl,nq,rfl⟩;rw [HG.out];go_wp2_with (go_at_call 170;refine (tO pte level va _ h0 h1 hv hv' hl hl').mono ?_;rintro e w' ⟨rfl,nr,rfl⟩);exact bodyPost_ret (v:=.agg #[VI 0,VU (gM pte level va)]) (by simp [results,Tryz.results155,go_sem]) rfl ⟨rfl,Db (below_drewN (((brf).alloc nle _).alloc (by simp) _) (nq+nr)) (Nat.le_succ _) _ _⟩
theorem kS (r:Int × Int × Int × List ef) (v:Value) (mode:Int) (sum mxr:Bool) (satp kind va:Int) (w:World) (h0:0<=r.2.2.1) (h1:r.2.2.1<=18446744073709551615) (hv:0<=va) (hv':va<=18446744073709551615) (hl:0<=r.2.1) (hl':r.2.1<=2) (ho:v.oneCell'=true):
 Calls Tryz.prog 152 #[.agg #[VI r.1,VI r.2.1,VU r.2.2.1,v],et mode sum mxr satp,VI kind,VU va] w fun e w'=>e=.returned (fz (db r mode sum mxr kind va))∧Bw w w':=by
 obtain ⟨c,l,p,rs⟩:=r;simp only at h0 h1 hl hl' |-;unfold db;simp only;by_cases c2:c=2
 ·subst c2;rw [if_pos rfl];unfold et;go_enter Tryz.func152,Tryz.ntmps152;go_wp2_with (go_at_call 153;refine (jB kind _).mono ?_;rintro e w' ⟨rfl,rfl⟩);exact bodyPost_ret (v:=.agg #[VI (eR kind),VU 0]) (by simp [results,Tryz.results152,go_sem]) rfl ⟨rfl,(((brf).alloc nle _).alloc (by simp) _).alloc (by simp;omega) _⟩
 rw [if_neg c2];have c2':(c == 2)=false:=by simpa using c2
 by_cases c3:c=3
 ·subst c3;rw [if_pos rfl];clear c2 c2';unfold et;go_enter Tryz.func152,Tryz.ntmps152;go_wp2_with (go_at_call 159;refine (ku kind _).mono ?_;rintro e w' ⟨rfl,rfl⟩);exact bodyPost_ret (v:=.agg #[VI (bP kind),VU 0]) (by simp [results,Tryz.results152,go_sem]) rfl ⟨rfl,(((brf).alloc nle _).alloc (by simp) _).alloc (by simp;omega) _⟩
 rw [if_neg c3];have c3':(c == 3)=false:=by simpa using c3
 clear c2 c3;obtain ⟨⟨x1,x2⟩,hX⟩:∃X,ft p l mode sum mxr kind va=X:=⟨_,rfl⟩;rw [hX];have HX:=hid hX;clear hX;obtain ⟨v1,Ev1,n1,_,_,H1,l1⟩:=al3 w #[VI c,VI l,VU p,v] #[VI mode,.bool sum,.bool mxr,VU satp] #[VI 0,VU 0] 138 134 182;unfold et;go_enter Tryz.func152,Tryz.ntmps152;go_wp2_with fail;rw [Ev1.out];clear Ev1;refine (oU p l mode sum mxr satp kind va v1 h0 h1 hv hv' (by omega) (by omega)).mono ?_;rw [HX.out];rintro e v2 ⟨rfl,n2⟩;have n12:=bst n1 n2;obtain ⟨⟨d0,d1⟩,e0,e1⟩:=mY (ag H1.out n2 l1);unfold fz;simp only;clear n1 n2 H1;go_wp2_with fail;exact bodyPost_ret (v:=.agg #[VI x1,VU x2]) (by simp [results,Tryz.results152,go_sem,d0,d1]) rfl ⟨rfl,Db n12 (by omega) _ _⟩
theorem sO (zs:List Int) (va:Int) (h:∀i:Nat,0<=zs[i]?.getD 0∧zs[i]?.getD 0<=255):∀(l:Nat) (n:Int),l<=2->
 0<=(cQ zs va l n).2.2.1∧(cQ zs va l n).2.2.1<=18446744073709551615∧0<=(cQ zs va l n).2.1∧(cQ zs va l n).2.1<=2
 | 0,n,hl=>by
  unfold cQ;have hb:=oL zs (64*n+8*dF va ((0:Nat):Int)) 8 (by omega) h;split
  ·simp
  ·split
   ·simp
   ·split
    ·exact ⟨hb.1,hb.2,by simp,by simp⟩
    ·simp
 | l+1,n,hl=>by
  unfold cQ;have hb:=oL zs (64*n+8*dF va ((l+1:Nat):Int)) 8 (by omega) h;split
  ·exact ⟨by simp,by simp,by show (0:Int)<=((l+1:Nat):Int);omega,by show ((l+1:Nat):Int)<=2;omega⟩
  ·split
   ·exact ⟨by simp,by simp,by show (0:Int)<=((l+1:Nat):Int);omega,by show ((l+1:Nat):Int)<=2;omega⟩
   ·split
    ·exact ⟨hb.1,hb.2,by show (0:Int)<=((l+1:Nat):Int);omega,by show ((l+1:Nat):Int)<=2;omega⟩
    ·exact sO zs va h l _ (by omega)
theorem sP (zs:List Int) (root va:Int) (h:∀i:Nat,0<=zs[i]?.getD 0∧zs[i]?.getD 0<=255):
 0<=(dn zs root va).2.2.1∧(dn zs root va).2.2.1<=18446744073709551615∧0<=(dn zs root va).2.1∧(dn zs root va).2.1<=2:=by
 unfold dn;split
 ·simp
 ·exact sO zs va h 2 _ (by omega)
theorem tS (a:Option Addr) (len cap:Nat) (zs:List Int) (mode:Int) (sum mxr:Bool) (satp kind va:Int) (w:World) (hl:len<=1048576) (hc:len<=cap) (hm:cap<=9223372036854775807) (hs0:0<=satp) (hs1:satp<=18446744073709551615) (hv0:0<=va) (hv1:va<=18446744073709551615) (hB:Byt w a len zs):
 Calls Tryz.prog 124 #[.slice a len cap,et mode sum mxr satp,VI kind,VU va] w fun e w'=>e=.returned (fz (jb zs mode sum mxr satp kind va))∧Bw w w':=by
 by_cases hbad:kind<0∨2<kind∨mode<0∨2<mode
 ·have hp:jb zs mode sum mxr satp kind va=(63,0):=by unfold jb;rw [if_pos hbad]
  rw [hp];unfold et fz;clear hp;rcases (show kind<0∨(0<=kind∧2<kind)∨(0<=kind∧kind<=2∧mode<0)∨(0<=kind∧kind<=2∧0<=mode∧2<mode) by omega) with h | ⟨h,h'⟩ | ⟨h,h',h''⟩ | ⟨h,h',h'',h3⟩;all_goals
   clear hbad;go_enter Tryz.func124,Tryz.ntmps124;go_wp2_with fail;exact bodyPost_ret (v:=.agg #[VI 63,VU 0]) (by simp [results,Tryz.results124,go_sem]) rfl ⟨rfl,((brf).alloc nle _).alloc (by simp) _⟩
 ·have hk0:0<=kind:=by omega
  have hk2:kind<=2:=by omega
  have hm0:0<=mode:=by omega
  have hm2:mode<=2:=by omega
  unfold jb;rw [if_neg hbad];clear hbad;cases hon:onM mode satp
  ·rw [if_pos rfl];obtain ⟨v1,Ev1,n1,H2,H1,l1⟩:=al2 w #[VI mode,.bool sum,.bool mxr,VU satp] #[VI 0,VU 0] 134 182;have HO:=hid hon;clear hon;unfold et;go_enter Tryz.func124,Tryz.ntmps124;go_wp2_with fail;rw [Ev1.out];clear Ev1;refine (mX mode sum mxr satp v1 hs0 hs1).mono ?_;rintro e v2 ⟨rfl,n2⟩;rw [HO.out];have n12:=bst n1 n2;obtain ⟨⟨d0,d1⟩,e0,e1⟩:=mY (ag H1.out n2 l1);have H3:=hid (ag H2.out n2 (by omega));have H4:=hid (ag H1.out n2 l1);have l2:=ltl l1 n2.size;clear n1 n2 H1 H2 l1;go_wp2_with fail;exact bodyPost_ret (v:=.agg #[VI 0,VU va]) (by simp [results,Tryz.results124,go_sem,d0,d1]) rfl ⟨rfl,Db n12 (by omega) _ _⟩
  ·rw [if_neg (by simp)];obtain ⟨⟨x1,x2⟩,hX⟩:∃X,db (dn zs satp va) mode sum mxr kind va=X:=⟨_,rfl⟩;rw [hX];have HX:=hid hX;clear hX;obtain ⟨v1,Ev1,n1,H2,H1,l1⟩:=al2 w #[VI mode,.bool sum,.bool mxr,VU satp] #[VI 0,VU 0] 134 182;have HO:=hid hon;clear hon;unfold et;go_enter Tryz.func124,Tryz.ntmps124;go_wp2_with fail;rw [Ev1.out];clear Ev1;refine (mX mode sum mxr satp v1 hs0 hs1).mono ?_;rintro e v2 ⟨rfl,n2⟩;rw [HO.out];have n12:=bst n1 n2;obtain ⟨⟨d0,d1⟩,e0,e1⟩:=mY (ag H1.out n2 l1);have H3:=hid (ag H2.out n2 (by omega));have H4:=hid (ag H1.out n2 l1);have l2:=ltl l1 n2.size;clear n1 n2 H1 H2 l1;obtain ⟨⟨q0,q1,q2,q3⟩,_⟩:=ay H3.out;have HBy:=hid fun (v:World) (hv:Bw v2 v)=>(hB.keep n12).keep hv;have HC:Hid (∀v:World,Bw v2 v->v.cell? (AD w.heap.size 0)=some (VI mode)∧v.cell? (AD w.heap.size 1)=some (.bool sum)∧v.cell? (AD w.heap.size 2)=some (.bool mxr)∧v.cell? (AD w.heap.size 3)=some (VU satp)):=
    fun v hv=>(ay (ag H3.out hv (by omega))).1
   have hwb:=sP zs satp va (hB.2.1);clear hB d0 d1 e0 e1;obtain ⟨W,hW⟩:∃W,dn zs satp va=W:=⟨_,rfl⟩;rw [hW] at hwb;have HW:=hid hW;clear hW;go_wp2;go_region_held3 (fun w'=>w'.cell? (AD w.heap.size 0)=some (VI mode)∧w'.cell? (AD w.heap.size 1)=some (.bool sum)∧w'.cell? (AD w.heap.size 2)=some (.bool mxr)∧w'.cell? (AD w.heap.size 3)=some (VU satp)) (go_keep)
    (first
     | (go_at_call 56;refine (pS a len cap zs satp va _ hl hc hm hs0 hs1 hv0 hv1 (HBy.out _ (brf).drew)).mono ?_;rw [HW.out];rintro e v3 ⟨⟨a3,c3,rfl,r3,na3,sp3,nc3⟩,n3⟩;have m3:Bw v2 v3:=(Below.refl v2.heap.size v2).drew.trans n3;obtain ⟨g0,g1,g2,g3⟩:=HC.out v3 m3;clear r3 na3 sp3 nc3 n3)
     | (go_at_call 152;refine (kS W (.slice a3 W.2.2.2.length c3) mode sum mxr satp kind va _ hwb.1 hwb.2.1 hv0 hv1 hwb.2.2.1 hwb.2.2.2 rfl).mono ?_;rw [<-HW.out,HX.out];unfold fz;rintro e v4 ⟨rfl,n4⟩;have m4:Bw v2 v4:=bst m3 n4;obtain ⟨j0,j1,j2,j3⟩:=HC.out v4 m4;obtain ⟨⟨d0,d1⟩,e0,e1⟩:=mY (ag H4.out m4 l2);clear n4))
   go_wp2_with fail;exact bodyPost_ret (v:=.agg #[VI x1,VU x2]) (by simp [results,Tryz.results124,go_sem,d0,d1]) rfl ⟨rfl,Db (bst n12 m4) (by omega) _ _⟩
end
structure EntM where
 valid:Bool
 level:Int
 tag:Int
 asid:Int
 glob:Bool
 pte:Int
def cH:EntM:=⟨false,0,0,0,false,0⟩
structure TlbM where
 sets:Int
 ways:Int
 es:List EntM
def gx (va level:Int):Int:=if level=0 then va/64%512 else if level=1 then va/512%64 else va/4096%8
def mh (level:Int):Int:=if level=0 then 512 else if level=1 then 64 else 8
def iT (p:Bool):Int:=if p=true then 1 else 2
def aZ (e:EntM) (p:Bool):Bool:=
 e.valid && decide (0<=e.level) && decide (e.level<=2) && decide (e.tag<mh e.level) && decide (e.asid<=65535) && (e.glob == bX e.pte 32) && (bH e.pte e.level == iT p)
def fq (e:EntM):Prop:=
 (-9223372036854775808<=e.level∧e.level<=9223372036854775807)∧(0<=e.tag∧e.tag<=18446744073709551615)∧(0<=e.asid∧e.asid<=18446744073709551615)∧(0<=e.pte∧e.pte<=18446744073709551615)
def jV (e:EntM):List Value:=[.bool e.valid,VI e.level,VU e.tag,VU e.asid,.bool e.glob,VU e.pte]
def nX (e:EntM):Value:=.agg #[.bool e.valid,VI e.level,VU e.tag,VU e.asid,.bool e.glob,VU e.pte]
theorem sR (va level:Int) (w:World) (h0:0<=va) (h1:va<=18446744073709551615) (hl:0<=level) (hl':level<=2):
 Calls Tryz.prog 58 #[VU va,VI level] w fun e w'=>e=.returned (VU (gx va level))∧∃n,w'=w.drewN n:=by
 rcases (show level=0∨level=1∨level=2 by omega) with rfl | rfl | rfl
 ·go_enter Tryz.func58,Tryz.ntmps58;go_wp2_with fail;refine (bQ va 6 14 64 512 w h0 h1 (by omega) (by omega) (by omega) (by omega) rfl rfl).mono ?_;rintro e w' ⟨rfl,nq,rfl⟩;go_wp2;go_ret;exact ⟨rfl,nq,rfl⟩
 ·go_enter Tryz.func58,Tryz.ntmps58;go_wp2_with fail;refine (bQ va 9 14 512 64 w h0 h1 (by omega) (by omega) (by omega) (by omega) rfl rfl).mono ?_;rintro e w' ⟨rfl,nq,rfl⟩;go_wp2;go_ret;exact ⟨rfl,nq,rfl⟩
 ·go_enter Tryz.func58,Tryz.ntmps58;go_wp2_with fail;refine (bQ va 12 14 4096 8 w h0 h1 (by omega) (by omega) (by omega) (by omega) rfl rfl).mono ?_;rintro e w' ⟨rfl,nq,rfl⟩;go_wp2;go_ret;exact ⟨rfl,nq,rfl⟩
theorem lH (x:EntM) (p:Bool) (w:World) (hx:fq x):
 Calls Tryz.prog 151 #[nX x,.bool p] w fun e w'=>e=.returned (.bool (aZ x p))∧Bw w w':=by
 obtain ⟨v,lv,tg,asd,gl,pt⟩:=x;obtain ⟨⟨a1,a2⟩,⟨b1,b2⟩,⟨c1,c2⟩,d1,d2⟩:=hx;simp only at a1 a2 b1 b2 c1 c2 d1 d2;unfold nX aZ;simp only;have n1:=(Below.refl w.heap.size w).alloc nle (Obj.cells #[.bool v,VI lv,VU tg,VU asd,.bool gl,VU pt] 127);cases v
 ·cases p;all_goals
   go_enter Tryz.func151,Tryz.ntmps151;go_wp2;go_quiet (fail);go_wp2;go_ret;exact ⟨aD (by simp),below_drewN n1 nq⟩
 by_cases h0n:¬(0<=lv)
 ·have h0:=h0n;have h0':decide (0<=lv)=false:=by simpa using h0
  cases p;all_goals
   go_enter Tryz.func151,Tryz.ntmps151;go_wp2;go_quiet (fail);go_wp2;go_ret;exact ⟨aD (by simp [h0']),below_drewN n1 nq⟩
 have h0:=Decidable.not_not.1 h0n;clear h0n;by_cases h2n:¬(lv<=2)
 ·have h2:=h2n;have h2':decide (lv<=2)=false:=by simpa using h2
  cases p;all_goals
   go_enter Tryz.func151,Tryz.ntmps151;go_wp2;go_quiet (fail);go_wp2;go_ret;exact ⟨aD (by simp [h2']),below_drewN n1 nq⟩
 have h2:=Decidable.not_not.1 h2n;clear h2n;obtain ⟨g5,hg5⟩:∃g5,bX pt 32=g5:=⟨_,rfl⟩;obtain ⟨kd,hkd⟩:∃kd,bH pt lv=kd:=⟨_,rfl⟩;rw [hg5,hkd];have HC5:Hid (∀w:World,Calls Tryz.prog 61 #[VU pt,VI 5] w fun e w'=>e=.returned (.bool g5)∧∃n,w'=w.drewN n):=fun w=>by
  have:=bW pt 5 32 w d1 d2 (by omega) (by omega) rfl;rw [hg5] at this;exact this
 have HC6:Hid (∀w:World,Calls Tryz.prog 59 #[VU pt,VI lv] w fun e w'=>e=.returned (VI kd)∧∃n,w'=w.drewN n):=fun w=>by
  have:=gu pt lv w d1 d2 a1 a2;rw [hkd] at this;exact this
 clear hg5 hkd;rcases (show lv=0∨lv=1∨lv=2 by omega) with rfl | rfl | rfl
 ·by_cases htn:¬(tg<512)
  ·have ht:=htn;have ht':decide (tg<512)=false:=by simpa using ht
   cases p;all_goals
    go_enter Tryz.func151,Tryz.ntmps151;go_wp2;go_quiet (first
    | (go_at_call 84;exact Calls.quiet_of_same (bj 9 512 _ (by omega) rfl))
    | (go_at_call 61;exact Calls.quiet_of (HC5.out _))
    | (go_at_call 59;exact Calls.quiet_of (HC6.out _)))
    go_wp2;go_ret;exact ⟨aD (by simp [mh,iT,ht']),below_drewN n1 nq⟩
  have ht:=Decidable.not_not.1 htn;clear htn;by_cases han:¬(asd<=65535)
  ·have ha:=han;have ha':decide (asd<=65535)=false:=by simpa using ha
   cases p;all_goals
    go_enter Tryz.func151,Tryz.ntmps151;go_wp2;go_quiet (first
    | (go_at_call 84;exact Calls.quiet_of_same (bj 9 512 _ (by omega) rfl))
    | (go_at_call 61;exact Calls.quiet_of (HC5.out _))
    | (go_at_call 59;exact Calls.quiet_of (HC6.out _)))
    go_wp2;go_ret;exact ⟨aD (by simp [mh,iT,ht,ha']),below_drewN n1 nq⟩
  have ha:=Decidable.not_not.1 han;clear han;cases p <;> cases gl <;> cases g5;all_goals
   go_enter Tryz.func151,Tryz.ntmps151;go_wp2;go_quiet (first
    | (go_at_call 84;exact Calls.quiet_of_same (bj 9 512 _ (by omega) rfl))
    | (go_at_call 61;exact Calls.quiet_of (HC5.out _))
    | (go_at_call 59;exact Calls.quiet_of (HC6.out _)))
   go_wp2;go_ret;exact ⟨aD (by simp [mh,iT,ht,ha]),below_drewN n1 nq⟩
 ·by_cases htn:¬(tg<64)
  ·have ht:=htn;have ht':decide (tg<64)=false:=by simpa using ht
   cases p;all_goals
    go_enter Tryz.func151,Tryz.ntmps151;go_wp2;go_quiet (first
    | (go_at_call 84;exact Calls.quiet_of_same (bj 6 64 _ (by omega) rfl))
    | (go_at_call 61;exact Calls.quiet_of (HC5.out _))
    | (go_at_call 59;exact Calls.quiet_of (HC6.out _)))
    go_wp2;go_ret;exact ⟨aD (by simp [mh,iT,ht']),below_drewN n1 nq⟩
  have ht:=Decidable.not_not.1 htn;clear htn;by_cases han:¬(asd<=65535)
  ·have ha:=han;have ha':decide (asd<=65535)=false:=by simpa using ha
   cases p;all_goals
    go_enter Tryz.func151,Tryz.ntmps151;go_wp2;go_quiet (first
    | (go_at_call 84;exact Calls.quiet_of_same (bj 6 64 _ (by omega) rfl))
    | (go_at_call 61;exact Calls.quiet_of (HC5.out _))
    | (go_at_call 59;exact Calls.quiet_of (HC6.out _)))
    go_wp2;go_ret;exact ⟨aD (by simp [mh,iT,ht,ha']),below_drewN n1 nq⟩
  have ha:=Decidable.not_not.1 han;clear han;cases p <;> cases gl <;> cases g5;all_goals
   go_enter Tryz.func151,Tryz.ntmps151;go_wp2;go_quiet (first
    | (go_at_call 84;exact Calls.quiet_of_same (bj 6 64 _ (by omega) rfl))
    | (go_at_call 61;exact Calls.quiet_of (HC5.out _))
    | (go_at_call 59;exact Calls.quiet_of (HC6.out _)))
   go_wp2;go_ret;exact ⟨aD (by simp [mh,iT,ht,ha]),below_drewN n1 nq⟩
 ·by_cases htn:¬(tg<8)
  ·have ht:=htn;have ht':decide (tg<8)=false:=by simpa using ht
   cases p;all_goals
    go_enter Tryz.func151,Tryz.ntmps151;go_wp2;go_quiet (first
    | (go_at_call 84;exact Calls.quiet_of_same (bj 3 8 _ (by omega) rfl))
    | (go_at_call 61;exact Calls.quiet_of (HC5.out _))
    | (go_at_call 59;exact Calls.quiet_of (HC6.out _)))
    go_wp2;go_ret;exact ⟨aD (by simp [mh,iT,ht']),below_drewN n1 nq⟩
  have ht:=Decidable.not_not.1 htn;clear htn;by_cases han:¬(asd<=65535)
  ·have ha:=han;have ha':decide (asd<=65535)=false:=by simpa using ha
   cases p;all_goals
    go_enter Tryz.func151,Tryz.ntmps151;go_wp2;go_quiet (first
    | (go_at_call 84;exact Calls.quiet_of_same (bj 3 8 _ (by omega) rfl))
    | (go_at_call 61;exact Calls.quiet_of (HC5.out _))
    | (go_at_call 59;exact Calls.quiet_of (HC6.out _)))
    go_wp2;go_ret;exact ⟨aD (by simp [mh,iT,ht,ha']),below_drewN n1 nq⟩
  have ha:=Decidable.not_not.1 han;clear han;cases p <;> cases gl <;> cases g5;all_goals
   go_enter Tryz.func151,Tryz.ntmps151;go_wp2;go_quiet (first
    | (go_at_call 84;exact Calls.quiet_of_same (bj 3 8 _ (by omega) rfl))
    | (go_at_call 61;exact Calls.quiet_of (HC5.out _))
    | (go_at_call 59;exact Calls.quiet_of (HC6.out _)))
   go_wp2;go_ret;exact ⟨aD (by simp [mh,iT,ht,ha]),below_drewN n1 nq⟩
section
attribute [local go_sem ↓] Go.wp_at_zero Go.wp_at_succ
def aO:List EntM->List Value
 | []=>[]
 | e::r=>jV e++aO r
def TlbAt (w:World) (v:Value) (t:TlbM):Prop:=
 ∃a cap,v=.agg #[VI t.sets,VI t.ways,.slice a t.es.length cap]∧RowC w a t.es.length 6 (aO t.es)∧(∀e∈t.es,fq e)∧
  (-9223372036854775808<=t.sets∧t.sets<=9223372036854775807)∧(-9223372036854775808<=t.ways∧t.ways<=9223372036854775807)∧t.es.length<=1048576∧t.es.length<=cap∧cap<=9223372036854775807∧(a=none->t.es.length=0∧cap=0)∧(∀q,a=some q->q.spot=none)
theorem eT:∀es:List EntM,(aO es).length=es.length*6
 | []=>rfl
 | e::r=>by simp [aO,jV,eT r];omega
theorem sI:∀(es:List EntM) (i j:Nat) (hi:i<es.length),j<6->(aO es)[i*6+j]?=(jV es[i])[j]?
 | e::r,0,j,hi,hj=>by
  simp only [aO,List.getElem_cons_zero,Nat.zero_mul,Nat.zero_add];rw [List.getElem?_append_left (by simp [jV];exact hj)]
 | e::r,i+1,j,hi,hj=>by
  simp only [aO,List.getElem_cons_succ];rw [List.getElem?_append_right (by simp [jV];omega)];have:(i+1)*6+j-(jV e).length=i*6+j:=by simp [jV];omega
  rw [this];exact sI r i j (by simpa using hi) hj
def jA (t:TlbM):Bool:=decide ((t.sets=1∨t.sets=2∨t.sets=4∨t.sets=8)∧1<=t.ways∧t.ways<=4∧(t.es.length:Int)=t.sets*t.ways)
def cD (t:TlbM) (p:Bool) (i:Nat) (e:EntM):Bool:=
 (e.valid == false && e.level == 0 && e.tag == 0 && e.asid == 0 && e.glob == false && e.pte == 0) || (aZ e p && (e.tag%t.sets == (i:Int)/t.ways))
def gF (t:TlbM) (p:Bool):Nat->List EntM->Bool
 | _,[]=>true
 | i,e::r=>cD t p i e && gF t p (i+1) r
def aR (t:TlbM) (p:Bool):Bool:=jA t && gF t p 0 t.es
theorem gH (t:TlbM) (p:Bool):∀(es:List EntM) (i:Nat),(∀j x,es[j]?=some x->cD t p (i+j) x=true)->gF t p i es=true
 | [],i,h=>rfl
 | e::r,i,h=>by
  simp only [gF,Bool.and_eq_true];refine ⟨by simpa using h 0 e rfl,gH t p r (i+1) (fun j x hx=>?_)⟩;have:=h (j+1) x (by simpa using hx);rw [show i+1+j=i+(j+1) by omega];exact this
theorem iL (t:TlbM) (p:Bool):∀(es:List EntM) (i j:Nat) (x:EntM),es[j]?=some x->cD t p (i+j) x=false->gF t p i es=false
 | e::r,i,0,x,hx,h=>by
  simp at hx;subst hx;simp only [gF,Nat.add_zero] at h |-;rw [h];rfl
 | e::r,i,j+1,x,hx,h=>by
  simp only [gF];rw [iL t p r (i+1) j x (by simpa using hx) (by rw [show i+1+j=i+(j+1) by omega];exact h),Bool.and_false]
theorem xR {x:EntM} {p:Bool} (h:aZ x p=true):x.tag<512:=by
 simp only [aZ,Bool.and_eq_true,decide_eq_true_eq] at h;have h1:=h.1.1.1.2;unfold mh at h1;split at h1
 ·exact h1
 ·split at h1 <;> omega
theorem dL {w:World} {b off n:Nat} {es:List EntM} (h:RowC w (some (AD b off)) n 6 (aO es)) (hn:es.length=n) (k:Nat) (x:EntM) (hx:es[k]?=some x) (j:Nat) (v:Value) (hj:j<6) (hv:(jV x)[j]?=some v):
 w.cell? ⟨b,off+(k*6+j),none⟩=some v:=by
 have hk:=(List.getElem?_eq_some_iff.1 hx).1;rcases h.2 with h0 | ⟨b',off',e,_,hc⟩
 ·omega
 ·simp at e;obtain ⟨rfl,rfl⟩:=e;refine hc _ _ ?_;rw [sI es k j hk hj];rw [geg hk] at hx;simp at hx;rw [hx];exact hv
theorem xT (s:Int) (hs:s=1∨s=2∨s=4∨s=8) (b off:Nat) (cap:Nat) (ways:Int) (es:List EntM) (n:Nat) (p:Bool) (w:World) (hr:RowC w (some (AD b off)) n 6 (aO es)) (he:∀e∈es,fq e) (hl:n<=1048576) (hN:es.length=n)
 (hw:1<=ways) (hw':ways<=4) (hn:(n:Int)=s*ways):
  Calls Tryz.prog 123 #[.agg #[VI s,VI ways,.slice (some (AD b off)) n cap],.bool p] w fun e w'=>e=.returned (.bool (gF ⟨s,ways,es⟩ p 0 es))∧Bw w w':=by
 have a1:=fZ w #[VI s,VI ways,.slice (some (AD b off)) n cap] 39;have hn':((n:Int) != s*ways)=false:=by rw [bne_eq_false_iff_eq];omega
 have HN:Hid (es.length=n):=hN;have HR:=hid hr;have HE:=hid he;obtain ⟨R,hR⟩:∃R,gF ⟨s,ways,es⟩ p 0 es=R:=⟨_,rfl⟩;rw [hR];have HP:=hid hR;clear hN hr he hn hR;go_enter Tryz.func123,Tryz.ntmps123;go_upto_region 1 with fail;generalize w.alloc (Obj.cells #[VI s,VI ways,.slice (some (AD b off)) n cap] 39)=v1 at a1 |-;obtain ⟨l1,c1,n1⟩:=a1;have c10:=c1 0;have c11:=c1 1;have c12:=c1 2;clear c1;go_cut [45] from 7 to 44 (fun x wx=>x=.bool false∧v1=wx)
 case first=>
  clear HP;rcases hs with rfl | rfl | rfl | rfl <;> (try simp only [Int.one_mul] at hn') <;> (go_wp2_with fail;go_meet;case rel=>exact ⟨by first | rfl | (rw [hn'];done) | (simp;omega),rfl⟩)
 case rest=>
 obtain ⟨rfl,rfl⟩:=hcut;go_wp2;go_loopw [5] (fun i wr=>∃k:Nat,k<=n∧i=VI k∧(∀j x,j<k->es[j]?=some x->cD ⟨s,ways,es⟩ p j x=true)∧Bw v1 wr) (fun i _=>n-(intOf i).toNat)
 case atStart=>exact ⟨0,Nat.zero_le _,rfl,fun j x hj=>absurd hj (by omega),brf⟩
 case round=>
  obtain ⟨k,hk,rfl,hall,hb⟩:=hrel;have HA:=hid hall;clear hall;have d10:=Below.cell2 hb c10 l1;have d11:=Below.cell2 hb c11 l1;have d12:=Below.cell2 hb c12 l1;have l2:=ltl l1 hb.size;have n1r:=bst n1 hb;by_cases hlt:k<n
  ·have hx:∃x:EntM,es[k]?=some x:=⟨_,geg (by have:=HN.out;omega)⟩;obtain ⟨⟨v,lv,tg,asd,gl,pt⟩,hx⟩:=hx;have hok:fq ⟨v,lv,tg,asd,gl,pt⟩:=HE.out _ (List.mem_of_getElem? hx);have HRr:=RowC.keep HR.out n1r;have g0:wr.cell? ⟨b,off+k*6,none⟩=some (.bool v):=dL HRr HN.out k _ hx 0 _ (by omega) rfl;have g1:wr.cell? ⟨b,off+k*6+1,none⟩=some (VI lv):=dL HRr HN.out k _ hx 1 _ (by omega) rfl;have g2:wr.cell? ⟨b,off+k*6+2,none⟩=some (VU tg):=dL HRr HN.out k _ hx 2 _ (by omega) rfl;have g3:wr.cell? ⟨b,off+k*6+3,none⟩=some (VU asd):=dL HRr HN.out k _ hx 3 _ (by omega) rfl;have g4:wr.cell? ⟨b,off+k*6+4,none⟩=some (.bool gl):=dL HRr HN.out k _ hx 4 _ (by omega) rfl;have g5:wr.cell? ⟨b,off+k*6+5,none⟩=some (VU pt):=dL HRr HN.out k _ hx 5 _ (by omega) rfl;have HX:Hid (es[k]?=some ⟨v,lv,tg,asd,gl,pt⟩):=hx;have HPf:Hid (cD ⟨s,ways,es⟩ p k ⟨v,lv,tg,asd,gl,pt⟩=false->false=R):=fun h=>by rw [<-HP.out];exact (iL _ p es 0 k _ hx (by rw [Nat.zero_add];exact h)).symm
   have HPt:Hid (cD ⟨s,ways,es⟩ p k ⟨v,lv,tg,asd,gl,pt⟩=true->∀j x,j<k+1->es[j]?=some x->cD ⟨s,ways,es⟩ p j x=true):=fun h j x hj hx'=>by
    by_cases e:j=k
    ·subst e;rw [hx] at hx';cases hx';exact h
    ·exact HA.out j x (by omega) hx'
   clear hx HRr;have a2:=fZ wr #[.bool v,VI lv,VU tg,VU asd,.bool gl,VU pt] 127;go_wp2_with fail;generalize wr.alloc (Obj.cells #[.bool v,VI lv,VU tg,VU asd,.bool gl,VU pt] 127)=v2 at a2 |-;obtain ⟨l3,c2,n2⟩:=a2;have k0:=aC (c2 0) l3;have k1:=aC (c2 1) l3;have k2:=aC (c2 2) l3;have k3:=aC (c2 3) l3;have k4:=aC (c2 4) l3;have k5:=aC (c2 5) l3;have j0:=aC (Below.cell2 n2 d10 l2) (Nat.lt_trans l2 l3);have j1:=aC (Below.cell2 n2 d11 l2) (Nat.lt_trans l2 l3);have hb2:=bst hb n2;have n12:=bst n1 hb2;have ne:=dp v2;clear c2 d10 d11 d12 hb n2 g0 g1 g2 g3 g4 g5 c10 c11 c12 n1r;obtain ⟨gd,hgd⟩:∃gd,aZ ⟨v,lv,tg,asd,gl,pt⟩ p=gd:=⟨_,rfl⟩;have HGd:Hid (∀u:Lies v2,Calls Tryz.prog 151 #[nX ⟨v,lv,tg,asd,gl,pt⟩,.bool p] u.w fun e w'=>e=.returned (.bool gd)∧Below u.w.heap.size u.w w'):=fun u=>by
    have:=lH ⟨v,lv,tg,asd,gl,pt⟩ p u.w hok;rw [hgd] at this;exact this
   have HGv:Hid (aZ ⟨v,lv,tg,asd,gl,pt⟩ p=gd):=hgd;clear hgd;cases v
   ·have hgf:gd=false:=by rw [<-HGv.out];simp [aZ]
    subst hgf;by_cases q1n:¬(lv=0)
    ·have q1:(lv == 0)=false:=by simpa using q1n
     have HQ:Hid ((lv == 0)=false):=q1;clear q1n;refine bS (by kernel_rfl) (by kernel_rfl) ?_;repeat (go_big_quiet_step ((go_at_call 151;exact cW _ (HGd.out _))))
     refine wpQuiet_nil ?_;rintro _ ⟨u,rfl⟩;go_wp2;go_ret;exact ⟨aD (HPf.out (by simp [cD,HGv.out,HQ.out])),bst n12 u.h⟩
    have q1z:lv=0:=Decidable.not_not.1 q1n;subst q1z;clear q1n;by_cases q2n:¬(tg=0)
    ·have q2:(tg == 0)=false:=by simpa using q2n
     have HQ:Hid ((tg == 0)=false):=q2;clear q2n;refine bS (by kernel_rfl) (by kernel_rfl) ?_;repeat (go_big_quiet_step ((go_at_call 151;exact cW _ (HGd.out _))))
     refine wpQuiet_nil ?_;rintro _ ⟨u,rfl⟩;go_wp2;go_ret;exact ⟨aD (HPf.out (by simp [cD,HGv.out,HQ.out])),bst n12 u.h⟩
    have q2z:tg=0:=Decidable.not_not.1 q2n;subst q2z;clear q2n;by_cases q3n:¬(asd=0)
    ·have q3:(asd == 0)=false:=by simpa using q3n
     have HQ:Hid ((asd == 0)=false):=q3;clear q3n;refine bS (by kernel_rfl) (by kernel_rfl) ?_;repeat (go_big_quiet_step ((go_at_call 151;exact cW _ (HGd.out _))))
     refine wpQuiet_nil ?_;rintro _ ⟨u,rfl⟩;go_wp2;go_ret;exact ⟨aD (HPf.out (by simp [cD,HGv.out,HQ.out])),bst n12 u.h⟩
    have q3z:asd=0:=Decidable.not_not.1 q3n;subst q3z;clear q3n;cases hgl:gl
    ·subst hgl;by_cases q5n:¬(pt=0)
     ·have q5:(pt == 0)=false:=by simpa using q5n
      have HQ:Hid ((pt == 0)=false):=q5;clear q5n;refine bS (by kernel_rfl) (by kernel_rfl) ?_;repeat (go_big_quiet_step ((go_at_call 151;exact cW _ (HGd.out _))))
      refine wpQuiet_nil ?_;rintro _ ⟨u,rfl⟩;go_wp2;go_ret;exact ⟨aD (HPf.out (by simp [cD,HGv.out,HQ.out])),bst n12 u.h⟩
     have q5z:pt=0:=Decidable.not_not.1 q5n;subst q5z;clear q5n;refine bS (by kernel_rfl) (by kernel_rfl) ?_;repeat (go_big_quiet_step ((go_at_call 151;exact cW _ (HGd.out _))))
     refine wpQuiet_nil ?_;rintro _ ⟨u,rfl⟩;go_wp2;go_roundw
     case rel=>exact ⟨k+1,by omega,by go_num,HPt.out (by simp [cD]),bst hb2 u.h⟩
     case measure=>simp [intOf];omega
    ·subst hgl;refine bS (by kernel_rfl) (by kernel_rfl) ?_;repeat (go_big_quiet_step ((go_at_call 151;exact cW _ (HGd.out _))))
     refine wpQuiet_nil ?_;rintro _ ⟨u,rfl⟩;go_wp2;go_ret;exact ⟨aD (HPf.out (by simp [cD,HGv.out])),bst n12 u.h⟩
   ·cases gd
    ·
     refine bS (by kernel_rfl) (by kernel_rfl) ?_;repeat (go_big_quiet_step ((go_at_call 151;exact cW _ (HGd.out _))))
     refine wpQuiet_nil ?_;rintro _ ⟨u,rfl⟩;go_wp2;go_ret;exact ⟨aD (HPf.out (by simp [cD,HGv.out])),bst n12 u.h⟩
    ·have htg:tg<512:=xR HGv.out;have htg0:0<=tg:=hok.2.1.1;have hd0:0<=(k:Int)/ways:=Int.ediv_nonneg (by omega) (by omega);have hd1:(k:Int)/ways<=1048576:=Int.le_trans (Int.ediv_le_self _ (by omega)) (by omega);by_cases hq:tg%s=(k:Int)/ways
     ·have hq':(tg%s != (k:Int)/ways)=false:=by rw [bne_eq_false_iff_eq];exact hq
      have HQ:Hid (tg%s=(k:Int)/ways):=hq;clear hq;rcases hs with rfl | rfl | rfl | rfl;all_goals
       try rw [Int.emod_one] at hq'
       refine bS (by kernel_rfl) (by kernel_rfl) ?_;repeat (go_big_quiet_step ((go_at_call 151;exact cW _ (HGd.out _))))
       refine wpQuiet_nil ?_;rintro _ ⟨u,rfl⟩;go_wp2;go_roundw
       case rel=>exact ⟨k+1,by omega,by go_num,HPt.out (by have hz:=HQ.out;first | (simp [cD,HGv.out,hz];done) | (rw [Int.emod_one] at hz;simp [cD,HGv.out,hz])),bst hb2 u.h⟩
       case measure=>simp [intOf];omega
     ·have hq':(tg%s != (k:Int)/ways)=true:=by rw [bne_iff_ne];exact hq
      have HQ:Hid (¬tg%s=(k:Int)/ways):=hq;clear hq;rcases hs with rfl | rfl | rfl | rfl;all_goals
       try rw [Int.emod_one] at hq'
       refine bS (by kernel_rfl) (by kernel_rfl) ?_;repeat (go_big_quiet_step ((go_at_call 151;exact cW _ (HGd.out _))))
       refine wpQuiet_nil ?_;rintro _ ⟨u,rfl⟩;go_wp2;go_ret;exact ⟨aD (HPf.out (by have hz:=HQ.out;first | (simp [cD,hz];done) | (rw [Int.emod_one] at hz;simp [cD,hz]))),bst n12 u.h⟩
  ·have hkn:k=n:=by omega
   subst hkn;have HT:Hid (true=R):=by
    show true=R;rw [<-HP.out];exact (gH _ p es 0 (fun j x hx=>by rw [Nat.zero_add];exact HA.out j x (by have h1:=(List.getElem?_eq_some_iff.1 hx).1;have h2:=HN.out;omega) hx)).symm
   clear c10 c11 c12 n1 d10 d11;go_wp2;go_ret;exact ⟨aD HT.out,n1r⟩
end
end Go.Proofs.YtkenjknmfhoppaaGreat
