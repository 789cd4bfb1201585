import Derived.Test.YtaoaifmkhbgaiaaGreatPk04
namespace Go.Proofs.YtaoaifmkhbgaiaaGreat
open Go.RowKit
set_option linter.unusedVariables false
set_option maxRecDepth 20000 in
set_option maxHeartbeats 3200000 in
theorem vW (a:Option Addr) (len cap:Nat) (zs:List Int) (va lv n ix rv:Int) (w:World) (hl:len≤1048576) (hc:len≤cap) (hm:cap≤9223372036854775807) (hv0:0≤va) (hv1:va≤18446744073709551615)
 (h0:0≤lv) (h2:lv≤2) (hn0:0≤n) (hn1:n<17592186044416) (hB:Byt w a len zs) (hix:Hid (dA va lv=ix)) (hib:0≤ix∧ix≤7) (hrv:Hid (rdV zs (64*n+8*ix) 8=rv)) (hrb:0≤rv∧rv≤18446744073709551615)
 (hg:Hid (dM len (64*n+8*ix) 8=true)) (hk:Hid (bC rv lv=1)) (NX:Int × Int × Int × List ef) (hlen:NX.2.2.2.length≤2) (h1:1≤lv)
 (hnx:Hid (∀w':World,Byt w' a len zs→
   Calls Tryz.prog 44 #[.slice a len cap,.int .u64 (dK rv),.int .i64 (lv-1),.int .u64 va] w' fun e w''=>kw w'.heap.size w'' e NX∧Below w'.heap.size w' w'')):
 Calls Tryz.prog 44 #[.slice a len cap,.int .u64 n,.int .i64 lv,.int .u64 va] w fun e w'=>
  kw w.heap.size w' e (NX.1,NX.2.1,NX.2.2.1,(lv,64*n+8*ix,rv)::NX.2.2.2)∧Below w.heap.size w w':=by
 have hz:=hB.1;have H8:Hid ((w.alloc (Obj.cells #[Value.int .i64 0,Value.int .i64 0,Value.int .u64 0,Value.slice none 0 0] 85)).heap[w.heap.size]?=some (.cells #[Value.int .i64 0,Value.int .i64 0,Value.int .u64 0,Value.slice none 0 0] 85 (0,0))):=heap_alloc_new _ _;have n1:=(Below.refl w.heap.size w).alloc (Nat.le_refl _) (Obj.cells #[Value.int .i64 0,Value.int .i64 0,Value.int .u64 0,Value.slice none 0 0] 85);have l1:w.heap.size<(w.alloc (Obj.cells #[Value.int .i64 0,Value.int .i64 0,Value.int .u64 0,Value.slice none 0 0] 85)).heap.size:=by simp
 go_enter Tryz.func44,Tryz.ntmps44;go_wp2_with fail;generalize w.alloc (Obj.cells #[Value.int .i64 0,Value.int .i64 0,Value.int .u64 0,Value.slice none 0 0] 85)=v1 at H8 n1 l1 ⊢;refine (ku va lv v1 hv0 hv1 h0 h2).mono ?_;rintro e w' ⟨rfl,nq,rfl⟩;rw [hix.out];have n2:Below w.heap.size w (v1.drewN nq):=below_drewN n1 nq;have H9:Hid ((v1.drewN nq).heap[w.heap.size]?=some (.cells #[Value.int .i64 0,Value.int .i64 0,Value.int .u64 0,Value.slice none 0 0] 85 (0,0))):=H8;have l2:w.heap.size<(v1.drewN nq).heap.size:=l1;generalize v1.drewN nq=v2 at n2 H9 l2 ⊢;clear H8 l1 n1;go_wp2_with fail;refine (gW a len cap zs (64*n+8*ix) 8 v2 (hB.keep n2) hl hc hm (by omega) (by omega) (by omega)).mono ?_;rintro e v3 ⟨rfl,n3⟩;rw [hrv.out,hg.out];have n13:=Below.step n2 n3 (Nat.le_refl _);have H10:Hid (v3.heap[w.heap.size]?=some (.cells #[Value.int .i64 0,Value.int .i64 0,Value.int .u64 0,Value.slice none 0 0] 85 (0,0))):=ab H9.out n3 l2;have l3:w.heap.size<v3.heap.size:=Nat.lt_of_lt_of_le l2 n3.size;clear H9 n2 n3 l2;go_wp2_with fail;have a4:=fH v3 #[Value.bool true,Value.int IntKind.u64 rv] 150;generalize v3.alloc (Obj.cells #[Value.bool true,Value.int IntKind.u64 rv] 150)=v4 at a4 ⊢;obtain ⟨l4,c4,n4⟩:=a4;have c41:v4.cell? ⟨v3.heap.size,1,none⟩=some (.int .u64 rv):=c4 1;have n14:=Below.step n13 n4 (Nat.le_refl _);have H11:Hid (v4.heap[w.heap.size]?=some (.cells #[Value.int .i64 0,Value.int .i64 0,Value.int .u64 0,Value.slice none 0 0] 85 (0,0))):=ab H10.out n4 l3;clear c4 n13 n4 H10;refine (fM rv lv v4 hrb.1 hrb.2 (by omega) (by omega)).mono ?_;rintro e w' ⟨rfl,nk,rfl⟩;rw [hk.out];have n15:Below w.heap.size w (v4.drewN nk):=below_drewN n14 nk;have c51:(v4.drewN nk).cell? ⟨v3.heap.size,1,none⟩=some (.int .u64 rv):=c41;have H12:Hid ((v4.drewN nk).heap[w.heap.size]?=some (.cells #[Value.int .i64 0,Value.int .i64 0,Value.int .u64 0,Value.slice none 0 0] 85 (0,0))):=H11;have l5:v3.heap.size<(v4.drewN nk).heap.size:=l4;generalize v4.drewN nk=v5 at n15 c51 H12 l5 ⊢;clear n14 c41 H11 l4;go_wp2_with fail;refine (dQ rv v5 hrb.1 hrb.2).mono ?_;rintro e w' ⟨rfl,np,rfl⟩;have n16:Below w.heap.size w (v5.drewN np):=below_drewN n15 np;have c61:(v5.drewN np).cell? ⟨v3.heap.size,1,none⟩=some (.int .u64 rv):=c51;have H13:Hid ((v5.drewN np).heap[w.heap.size]?=some (.cells #[Value.int .i64 0,Value.int .i64 0,Value.int .u64 0,Value.slice none 0 0] 85 (0,0))):=H12;have l6:v3.heap.size<(v5.drewN np).heap.size:=l5;generalize v5.drewN np=v6 at n16 c61 H13 l6 ⊢;clear n15 c51 H12 l5;go_wp2_with fail;refine (hnx.out v6 (hB.keep n16)).mono ?_;rintro e v7 ⟨⟨a7,c7,rfl,r7,na7,sp7,nc7⟩,n7⟩;obtain ⟨x1,x2,x3,rs⟩:=NX;simp only at r7 na7 nc7 hlen ⊢;have n17:=Below.step n16 n7 (Nat.le_refl _);have c71:=Below.cell2 n7 c61 l6;have H14:Hid (v7.heap[w.heap.size]?=some (.cells #[Value.int .i64 0,Value.int .i64 0,Value.int .u64 0,Value.slice none 0 0] 85 (0,0))):=ab H13.out n7 (by omega);have l7:v3.heap.size<v7.heap.size:=Nat.lt_of_lt_of_le l6 n7.size;clear n16 n7 c61 H13 l6;have l8:w.heap.size<v7.heap.size:=Nat.lt_trans l3 l7;go_wp2_with fail;have H15:Hid ((v7.alloc (Obj.cells #[Value.int .i64 x1,Value.int .i64 x2,Value.int .u64 x3,Value.slice a7 rs.length c7] 85)).heap[v7.heap.size]?=some (.cells #[Value.int .i64 x1,Value.int .i64 x2,Value.int .u64 x3,Value.slice a7 rs.length c7] 85 (0,0))):=heap_alloc_new _ _;have n8:=(Below.refl v7.heap.size v7).alloc (Nat.le_refl _) (Obj.cells #[Value.int .i64 x1,Value.int .i64 x2,Value.int .u64 x3,Value.slice a7 rs.length c7] 85);have l9:v7.heap.size<(v7.alloc (Obj.cells #[Value.int .i64 x1,Value.int .i64 x2,Value.int .u64 x3,Value.slice a7 rs.length c7] 85)).heap.size:=by simp
 generalize v7.alloc (Obj.cells #[Value.int .i64 x1,Value.int .i64 x2,Value.int .u64 x3,Value.slice a7 rs.length c7] 85)=v8 at H15 n8 l9 ⊢;have n18:=Below.step n17 n8 (Nat.le_refl _);have c81:=Below.cell2 n8 c71 l7;have H16:Hid (v8.heap[w.heap.size]?=some (.cells #[Value.int .i64 0,Value.int .i64 0,Value.int .u64 0,Value.slice none 0 0] 85 (0,0))):=ab H14.out n8 l8;have HR:Hid (RowC v8 a7 rs.length 3 (cD rs)):=r7.keep n8;have HN:Hid (a7=none→rs.length=0∧c7=0):=na7;have HSp:Hid (∀q,a7=some q→q.spot=none∧v6.heap.size≤q.block):=sp7;clear r7 na7 sp7 n17 n8 c71 H14;have q3:=(aw H15.out).1.2.2.2;have p3:=(aw H15.out).2.2.2.2;have ne1:v8.heap.size≠v3.heap.size:=by omega
 have ne2:v8.heap.size≠v7.heap.size:=by omega
 have ne4:v7.heap.size≠v8.heap.size:=by omega
 go_region_law (first
  | (refine mQ _ (by rfl) (.tmp 59) (.tmp 61) 83 (by rfl) 90 Tryz.underlying83 (.agg #[.int .i64 0,.int .u64 0,.int .u64 0]) 3 24 Tryz.infoRec (by rfl) (by decide) v8.heap.size v8.heap.size 1 1 (cD [(lv,64*n+8*ix,rv)]) (by rfl) (OwnC.new 90 3 v8.drew (cD [(lv,64*n+8*ix,rv)]) 1 (by rfl) (by decide)) a7 rs.length c7 (cD rs) (by rfl) HN.out (fun q hq=>(HSp.out q hq).1) (RowC.keep (w:=v8) HR.out ((Below.refl _ _).drew.alloc (Nat.le_refl _) _)) (my rs) (by omega) (by omega) v8.heap.size v8 ((Below.refl _ _).drew.alloc (Nat.le_refl _) _) (Nat.le_refl _) ?_;intro g9 c9 v9 o9 n9;have q9:=Below.cell2 n9 q3 l9;have p9:=Below.froz2 n9 p3 l9)
  | (go_simp;go_at_call 88;refine (tj _ _ _ _).mono ?_;rintro e w' ⟨rfl,rfl⟩))
 all_goals
  have k9:=ab H15.out n9 l9;have k9':=Bq (u:=.slice (some ⟨g9,0,none⟩) (1+rs.length) c9) k9;have m9:=ax (aE v9 (some v7.heap.size)) 3 (.slice (some ⟨g9,0,none⟩) (1+rs.length) c9);have f9:=o9.facts;have n19:Below w.heap.size w v9:=Below.step n18 n9 (Nat.le_refl _);have n110:=Below.gb n19 m9 (by omega) (Nat.lt_of_lt_of_le l9 n9.size);have b9:=av (ab H16.out n9 (by omega)) m9 (by omega);have r9:=o9.row.gb m9 (by omega);generalize v9.setCell ⟨v7.heap.size,3,none⟩ (.slice (some ⟨g9,0,none⟩) (1+rs.length) c9)=v10 at k9' m9 n110 b9 r9 ⊢;obtain ⟨⟨d0,d1,d2,d3⟩,e0,e1,e2,e3⟩:=aw b9;obtain ⟨⟨t0,t1,t2,t3⟩,_⟩:=aw k9';have HR9:Hid (RowC v10 (some ⟨g9,0,none⟩) (1+rs.length) 3 (cD [(lv,64*n+8*ix,rv)]++cD rs)):=r9;clear k9 k9' m9 q9 p9 o9 n9 n19 b9 r9 q3 p3 c81;go_wp2_with fail;refine bodyPost_ret (v:=.agg #[.int .i64 x1,.int .i64 x2,.int .u64 x3,.slice (some ⟨g9,0,none⟩) (1+rs.length) c9]) (by simp [results,Tryz.results44,go_sem,d0,d1,d2,d3]) rfl ?_;have e10:1+rs.length=rs.length+1:=Nat.add_comm _ _;rw [e10] at HR9 f9 ⊢;exact ⟨⟨some ⟨g9,0,none⟩,c9,rfl,RowC.gb HR9.out (gb4 v10 w.heap.size _ _ _ _) (by omega),(by intro h;cases h),(by intro q hq;cases hq;exact ⟨rfl,by show w.heap.size≤g9;omega⟩),f9.2.2.2.1⟩,pN n110 (Nat.le_refl _) _ _ _ _⟩
end Go.Proofs.YtaoaifmkhbgaiaaGreat

namespace Go.Proofs.YtaoaifmkhbgaiaaGreat
open Go.RowKit
set_option linter.unusedVariables false
theorem mF (zs:List Int) (va:Int):∀(l:Nat) (n:Int),(cN zs va l n).2.2.2.length≤l+1
 | 0,n=>by
  unfold cN;split
  ·simp
  ·split
   ·simp
   ·split <;> simp
 | l+1,n=>by
  unfold cN;split
  ·simp
  ·split
   ·simp
   ·split
    ·simp
    ·have:=mF zs va l (dK (rdV zs (64*n+8*dA va ((l+1:Nat):Int)) 8));simp only [List.length_cons];omega
theorem rQ (a:Option Addr) (len cap:Nat) (zs:List Int) (va:Int) (hl:len≤1048576) (hc:len≤cap) (hm:cap≤9223372036854775807) (hv0:0≤va) (hv1:va≤18446744073709551615) (l:Nat):
 ∀(n lv:Int) (w:World),lv=l→l≤2→0≤n→n<17592186044416→Byt w a len zs→
 Calls Tryz.prog 44 #[.slice a len cap,.int .u64 n,.int .i64 lv,.int .u64 va] w fun e w'=>kw w.heap.size w' e (cN zs va l n)∧Below w.heap.size w w':=by
 induction l with
 | zero=>
  intro n lv w e hl2 hn0 hn1 hB;subst e;have hz:=hB.1;have hib:=oA va ((0:Nat):Int);have hrb:=nf zs (64*n+8*dA va ((0:Nat):Int)) 8 (by omega) hB.2.1;unfold cN;rw [hz];cases hg:dM len (64*n+8*dA va ((0:Nat):Int)) 8
  ·rw [if_pos rfl];exact rt a len cap zs va _ n _ _ w hl hc hm hv0 hv1 (by omega) (by omega) hn0 hn1 hB rfl hib rfl hrb hg
  ·rw [if_neg (by simp)];rcases mz (rdV zs (64*n+8*dA va ((0:Nat):Int)) 8) ((0:Nat):Int) with hk | hk | hk
   ·rw [if_pos hk];exact ru a len cap zs va _ n _ _ w hl hc hm hv0 hv1 (by omega) (by omega) hn0 hn1 hB rfl hib rfl hrb hg hk
   ·exact absurd hk (iZ _)
   ·rw [if_neg (by rw [hk];decide),if_pos hk];exact qq a len cap zs va _ n _ _ w hl hc hm hv0 hv1 (by omega) (by omega) hn0 hn1 hB rfl hib rfl hrb hg hk
 | succ l ih=>
  intro n lv w e hl2 hn0 hn1 hB;subst e;have hz:=hB.1;have hib:=oA va ((l+1:Nat):Int);have hrb:=nf zs (64*n+8*dA va ((l+1:Nat):Int)) 8 (by omega) hB.2.1;unfold cN;rw [hz];cases hg:dM len (64*n+8*dA va ((l+1:Nat):Int)) 8
  ·rw [if_pos rfl];exact rt a len cap zs va _ n _ _ w hl hc hm hv0 hv1 (by omega) (by omega) hn0 hn1 hB rfl hib rfl hrb hg
  ·rw [if_neg (by simp)];rcases mz (rdV zs (64*n+8*dA va ((l+1:Nat):Int)) 8) ((l+1:Nat):Int) with hk | hk | hk
   ·rw [if_pos hk];exact ru a len cap zs va _ n _ _ w hl hc hm hv0 hv1 (by omega) (by omega) hn0 hn1 hB rfl hib rfl hrb hg hk
   ·rw [if_neg (by rw [hk];decide),if_neg (by rw [hk];decide)];have hp:=oD (rdV zs (64*n+8*dA va ((l+1:Nat):Int)) 8);exact vW a len cap zs va _ n _ _ w hl hc hm hv0 hv1 (by omega) (by omega) hn0 hn1 hB rfl hib rfl hrb hg hk
     (cN zs va l (dK (rdV zs (64*n+8*dA va ((l+1:Nat):Int)) 8))) (by have:=mF zs va l (dK (rdV zs (64*n+8*dA va ((l+1:Nat):Int)) 8));omega) (by omega)
     (fun w' hB'=>ih _ _ w' (by omega) (by omega) hp.1 hp.2 hB')
   ·rw [if_neg (by rw [hk];decide),if_pos hk];exact qq a len cap zs va _ n _ _ w hl hc hm hv0 hv1 (by omega) (by omega) hn0 hn1 hB rfl hib rfl hrb hg hk
set_option maxHeartbeats 800000 in
theorem kL (a:Option Addr) (len cap:Nat) (zs:List Int) (root va:Int) (w:World) (hl:len≤1048576) (hc:len≤cap) (hm:cap≤9223372036854775807) (hr0:0≤root) (hr1:root≤18446744073709551615) (hv0:0≤va) (hv1:va≤18446744073709551615) (hB:Byt w a len zs):
 Calls Tryz.prog 43 #[.slice a len cap,.int .u64 root,.int .u64 va] w fun e w'=>kw w.heap.size w' e (bV zs root va)∧Below w.heap.size w w':=by
 have H8:Hid ((w.alloc (Obj.cells #[Value.int .i64 0,Value.int .i64 0,Value.int .u64 0,Value.slice none 0 0] 85)).heap[w.heap.size]?=some (.cells #[Value.int .i64 0,Value.int .i64 0,Value.int .u64 0,Value.slice none 0 0] 85 (0,0))):=heap_alloc_new _ _;have n1:=(Below.refl w.heap.size w).alloc (Nat.le_refl _) (Obj.cells #[Value.int .i64 0,Value.int .i64 0,Value.int .u64 0,Value.slice none 0 0] 85);have l1:w.heap.size<(w.alloc (Obj.cells #[Value.int .i64 0,Value.int .i64 0,Value.int .u64 0,Value.slice none 0 0] 85)).heap.size:=by simp
 unfold bV;cases hcn:bW va
 ·rw [if_pos rfl];have HC:Hid (bW va=false):=hcn;clear hcn;go_enter Tryz.func43,Tryz.ntmps43;go_wp2_with fail;generalize w.alloc (Obj.cells #[Value.int .i64 0,Value.int .i64 0,Value.int .u64 0,Value.slice none 0 0] 85)=v1 at H8 n1 l1 ⊢;refine (dR va v1 hv0 hv1).mono ?_;rintro e w' ⟨rfl,nq,rfl⟩;rw [HC.out];have n2:Below w.heap.size w (v1.drewN nq):=below_drewN n1 nq;have H9:Hid ((v1.drewN nq).heap[w.heap.size]?=some (.cells #[Value.int .i64 0,Value.int .i64 0,Value.int .u64 0,Value.slice none 0 0] 85 (0,0))):=H8;generalize v1.drewN nq=v2 at n2 H9 ⊢;obtain ⟨⟨d0,d1,d2,d3⟩,e0,e1,e2,e3⟩:=aw H9.out;go_wp2_with fail;refine bodyPost_ret (v:=.agg #[.int .i64 2,.int .i64 2,.int .u64 0,.slice none 0 0]) (by simp [results,Tryz.results43,go_sem,d0,d1,d2,d3]) rfl ⟨⟨none,0,rfl,RowC.nil _ _ _,fun _=>⟨rfl,rfl⟩,(by intro q hq;cases hq),Nat.zero_le _⟩,pN n2 (Nat.le_refl _) _ _ _ _⟩
 ·rw [if_neg (by simp)];have HC:Hid (bW va=true):=hcn;clear hcn;obtain ⟨X,hX⟩:∃X,cN zs va 2 (root%17592186044416)=X:=⟨_,rfl⟩;have HX:Hid (cN zs va 2 (root%17592186044416)=X):=hX;rw [hX];clear hX;obtain ⟨x1,x2,x3,rs⟩:=X;go_enter Tryz.func43,Tryz.ntmps43;go_wp2_with fail;generalize w.alloc (Obj.cells #[Value.int .i64 0,Value.int .i64 0,Value.int .u64 0,Value.slice none 0 0] 85)=v1 at H8 n1 l1 ⊢;refine (dR va v1 hv0 hv1).mono ?_;rintro e w' ⟨rfl,nq,rfl⟩;rw [HC.out];have n2:Below w.heap.size w (v1.drewN nq):=below_drewN n1 nq;have H9:Hid ((v1.drewN nq).heap[w.heap.size]?=some (.cells #[Value.int .i64 0,Value.int .i64 0,Value.int .u64 0,Value.slice none 0 0] 85 (0,0))):=H8;have l2:w.heap.size<(v1.drewN nq).heap.size:=l1;generalize v1.drewN nq=v2 at n2 H9 l2 ⊢;clear n1 H8 l1;go_wp2_with fail;refine (bS root 0 43 1 17592186044416 v2 hr0 hr1 (by omega) (by omega) (by omega) (by omega) rfl rfl).mono ?_;rintro e w' ⟨rfl,nr,rfl⟩;have n3:Below w.heap.size w (v2.drewN nr):=below_drewN n2 nr;have H10:Hid ((v2.drewN nr).heap[w.heap.size]?=some (.cells #[Value.int .i64 0,Value.int .i64 0,Value.int .u64 0,Value.slice none 0 0] 85 (0,0))):=H9;have l3:w.heap.size<(v2.drewN nr).heap.size:=l2;generalize v2.drewN nr=v3 at n3 H10 l3 ⊢;clear n2 H9 l2;rw [Int.ediv_one];have hb0:0≤root%17592186044416∧root%17592186044416<17592186044416:=⟨Int.emod_nonneg _ (by omega),Int.emod_lt_of_pos _ (by omega)⟩;go_wp2_with fail;refine (rQ a len cap zs va hl hc hm hv0 hv1 2 _ 2 v3 rfl (by omega) hb0.1 hb0.2 (hB.keep n3)).mono ?_;rintro e v4 ⟨hw,n4⟩;rw [HX.out] at hw;obtain ⟨a4,c4,rfl,r4,na4,sp4,nc4⟩:=hw;simp only at r4 na4 nc4 ⊢;have n14:=Below.step n3 n4 (Nat.le_refl _);have H11:Hid _:=ab H10.out n4 l3;have l4:w.heap.size<v4.heap.size:=Nat.lt_of_lt_of_le l3 n4.size;obtain ⟨⟨d0,d1,d2,d3⟩,e0,e1,e2,e3⟩:=aw (ab H10.out n4 l3);have HR4:Hid (RowC v4 a4 rs.length 3 (cD rs)):=r4;have HN4:Hid (a4=none→rs.length=0∧c4=0):=na4;have HS4:Hid (∀q,a4=some q→q.spot=none∧v3.heap.size≤q.block):=sp4;clear r4 na4 sp4 H10 H11 n3 n4;go_wp2_with fail;refine bodyPost_ret (v:=.agg #[.int .i64 x1,.int .i64 x2,.int .u64 x3,.slice a4 rs.length c4]) (by simp [results,Tryz.results43,go_sem,d0,d1,d2,d3]) rfl ⟨⟨a4,c4,rfl,RowC.gb' HR4.out (gb4 v4 w.heap.size _ _ _ _) (fun q hq=>by have:=(HS4.out q hq).2;omega),HN4.out,(fun q hq=>⟨(HS4.out q hq).1,by have:=(HS4.out q hq).2;omega⟩),nc4⟩,pN n14 (Nat.le_refl _) _ _ _ _⟩
end Go.Proofs.YtaoaifmkhbgaiaaGreat

namespace Go.Proofs.YtaoaifmkhbgaiaaGreat
open Go.RowKit
set_option linter.unusedVariables false
attribute [local go_sem ↓] Go.wp_at_zero Go.wp_at_succ
def dx (mode:Int) (sum mxr:Bool) (satp:Int):Value:=.agg #[.int .i64 mode,.bool sum,.bool mxr,.int .u64 satp]
set_option maxHeartbeats 400000 in
theorem kD (mode:Int) (sum mxr:Bool) (satp:Int) (w:World) (h0:0≤satp) (h1:satp≤18446744073709551615):
 Calls Tryz.prog 29 #[dx mode sum mxr satp] w fun e w'=>e=.returned (.bool (onM mode satp))∧Below w.heap.size w w':=by
 unfold dx;have a1:=fH w #[.int .i64 mode,.bool sum,.bool mxr,.int .u64 satp] 25;go_enter Tryz.func29,Tryz.ntmps29;go_wp2_with fail;generalize w.alloc (Obj.cells #[.int .i64 mode,.bool sum,.bool mxr,.int .u64 satp] 25)=v1 at a1 ⊢;obtain ⟨l1,c1,n1⟩:=a1;have c10:v1.cell? ⟨w.heap.size,0,none⟩=some (.int .i64 mode):=c1 0;clear c1;refine (bS satp 60 63 1152921504606846976 16 v1 h0 h1 (by omega) (by omega) (by omega) (by omega) rfl rfl).mono ?_;rintro e w' ⟨rfl,nq,rfl⟩;cases hs:(satp/1152921504606846976%16 == 8)
 ·go_wp2_with fail;go_ret;exact ⟨aF (by simp [onM,hs]),below_drewN n1 nq⟩
 ·cases hm0:(mode == 0)
  ·go_wp2_with fail;go_ret;exact ⟨aF (by simp [onM,hs,hm0]),below_drewN n1 nq⟩
  ·go_wp2_with fail;go_ret;exact ⟨aF (by simp [onM,hs,hm0]),below_drewN n1 nq⟩
theorem pW (satp:Int) (w:World) (h0:0≤satp) (h1:satp≤18446744073709551615):
 Calls Tryz.prog 41 #[.int .u64 satp] w fun e w'=>e=.returned (.int .u64 (ay satp))∧∃n,w'=w.drewN n:=by
 go_enter Tryz.func41,Tryz.ntmps41;go_wp2_with fail;refine (bS satp 44 59 17592186044416 65536 w h0 h1 (by omega) (by omega) (by omega) (by omega) rfl rfl).mono ?_;rintro e w' ⟨rfl,nq,rfl⟩;go_wp2_with fail;go_ret;exact ⟨rfl,nq,rfl⟩
theorem jc (kind:Int) (w:World):Calls Tryz.prog 40 #[.int .i64 kind] w fun e w'=>e=.returned (.int .i64 (eD kind))∧w'=w:=by
 by_cases k0:kind=0
 ·subst k0;go_enter Tryz.func40,Tryz.ntmps40;go_wp2_with fail;go_ret;exact ⟨rfl,rfl⟩
 by_cases k1:kind=1
 ·subst k1;go_enter Tryz.func40,Tryz.ntmps40;go_wp2_with fail;go_ret;exact ⟨rfl,rfl⟩
 have k0':(kind == 0)=false:=by simpa using k0
 have k1':(kind == 1)=false:=by simpa using k1
 go_enter Tryz.func40,Tryz.ntmps40;go_wp2_with fail;go_ret;exact ⟨cA (by simp [eD,k0,k1]),rfl⟩
theorem jQ (kind:Int) (w:World):Calls Tryz.prog 90 #[.int .i64 kind] w fun e w'=>e=.returned (.int .i64 (cQ kind))∧w'=w:=by
 by_cases k0:kind=0
 ·subst k0;go_enter Tryz.func90,Tryz.ntmps90;go_wp2_with fail;go_ret;exact ⟨rfl,rfl⟩
 by_cases k1:kind=1
 ·subst k1;go_enter Tryz.func90,Tryz.ntmps90;go_wp2_with fail;go_ret;exact ⟨rfl,rfl⟩
 have k0':(kind == 0)=false:=by simpa using k0
 have k1':(kind == 1)=false:=by simpa using k1
 go_enter Tryz.func90,Tryz.ntmps90;go_wp2_with fail;go_ret;exact ⟨cA (by simp [cQ,k0,k1]),rfl⟩
def eS (r:Int × Int):Value:=.agg #[.int .i64 r.1,.int .u64 r.2]
theorem iU {w:World} {g:Nat} {T:TypeId} {a b:Value} (h:w.heap[g]?=some (.cells #[a,b] T (0,0))):
 (w.cell? ⟨g,0,none⟩=some a∧w.cell? ⟨g,1,none⟩=some b)∧w.frozen? ⟨g,0,none⟩=false∧w.frozen? ⟨g,1,none⟩=false:=by
 simp [World.cell?,World.frozen?,h]
theorem w5 {B:Nat} {a w:World} {g:Nat} (h:Below B a w) (hg:B≤g) (x y:Value):Below B a ((w.setCell ⟨g,0,none⟩ x).setCell ⟨g,1,none⟩ y):=
 (h.setCell (p:=⟨g,0,none⟩) hg x).setCell (p:=⟨g,1,none⟩) hg y
set_option maxHeartbeats 800000 in
theorem nw (pte level mode:Int) (sum mxr:Bool) (satp kind va:Int) (w:World) (h0:0≤pte) (h1:pte≤18446744073709551615) (hv:0≤va) (hv':va≤18446744073709551615) (hl: -9223372036854775808≤level) (hl':level≤9223372036854775807):
 Calls Tryz.prog 42 #[.int .u64 pte,.int .i64 level,dx mode sum mxr satp,.int .i64 kind,.int .u64 va] w fun e w'=>e=.returned (eS (ey pte level mode sum mxr kind va))∧Below w.heap.size w w':=by
 unfold dx ey;cases hg:cH pte kind mode sum mxr
 ·rw [if_neg (by simp)];have HG:Hid (cH pte kind mode sum mxr=false):=hg;clear hg;go_enter Tryz.func42,Tryz.ntmps42;go_wp2_with fail;refine (jb pte kind mode sum mxr _ h0 h1).mono ?_;rintro e w' ⟨rfl,nq,rfl⟩;rw [HG.out];go_wp2_with (go_at_call 40;refine (jc kind _).mono ?_;rintro e w' ⟨rfl,rfl⟩);exact bodyPost_ret (v:=.agg #[.int .i64 (eD kind),.int .u64 0]) (by simp [results,Tryz.results42,go_sem]) rfl ⟨rfl,w5 (below_drewN (((Below.refl _ _).alloc (Nat.le_refl _) _).alloc (by simp) _) nq) (Nat.le_succ _) _ _⟩
 ·rw [if_pos rfl];have HG:Hid (cH pte kind mode sum mxr=true):=hg;clear hg;go_enter Tryz.func42,Tryz.ntmps42;go_wp2_with fail;refine (jb pte kind mode sum mxr _ h0 h1).mono ?_;rintro e w' ⟨rfl,nq,rfl⟩;rw [HG.out];go_wp2_with (go_at_call 21;refine (mT pte level va _ h0 h1 hv hv' hl hl').mono ?_;rintro e w' ⟨rfl,nr,rfl⟩);exact bodyPost_ret (v:=.agg #[.int .i64 0,.int .u64 (eV pte level va)]) (by simp [results,Tryz.results42,go_sem]) rfl ⟨rfl,w5 (below_drewN (((Below.refl _ _).alloc (Nat.le_refl _) _).alloc (by simp) _) (nq+nr)) (Nat.le_succ _) _ _⟩
set_option maxHeartbeats 800000 in
theorem kE (r:Int × Int × Int × List ef) (v:Value) (mode:Int) (sum mxr:Bool) (satp kind va:Int) (w:World) (h0:0≤r.2.2.1) (h1:r.2.2.1≤18446744073709551615) (hv:0≤va) (hv':va≤18446744073709551615) (hl:0≤r.2.1) (hl':r.2.1≤2) (ho:v.oneCell'=true):
 Calls Tryz.prog 48 #[.agg #[.int .i64 r.1,.int .i64 r.2.1,.int .u64 r.2.2.1,v],dx mode sum mxr satp,.int .i64 kind,.int .u64 va] w fun e w'=>e=.returned (eS (ck r mode sum mxr kind va))∧Below w.heap.size w w':=by
 obtain ⟨c,l,p,rs⟩:=r;simp only at h0 h1 hl hl' ⊢;unfold ck;simp only;by_cases c2:c=2
 ·subst c2;rw [if_pos rfl];unfold dx;go_enter Tryz.func48,Tryz.ntmps48;go_wp2_with (go_at_call 40;refine (jc kind _).mono ?_;rintro e w' ⟨rfl,rfl⟩);exact bodyPost_ret (v:=.agg #[.int .i64 (eD kind),.int .u64 0]) (by simp [results,Tryz.results48,go_sem]) rfl ⟨rfl,(((Below.refl _ _).alloc (Nat.le_refl _) _).alloc (by simp) _).alloc (by simp;omega) _⟩
 rw [if_neg c2];have c2':(c == 2)=false:=by simpa using c2
 by_cases c3:c=3
 ·subst c3;rw [if_pos rfl];clear c2 c2';unfold dx;go_enter Tryz.func48,Tryz.ntmps48;go_wp2_with (go_at_call 90;refine (jQ kind _).mono ?_;rintro e w' ⟨rfl,rfl⟩);exact bodyPost_ret (v:=.agg #[.int .i64 (cQ kind),.int .u64 0]) (by simp [results,Tryz.results48,go_sem]) rfl ⟨rfl,(((Below.refl _ _).alloc (Nat.le_refl _) _).alloc (by simp) _).alloc (by simp;omega) _⟩
 rw [if_neg c3];have c3':(c == 3)=false:=by simpa using c3
 clear c2 c3;obtain ⟨⟨x1,x2⟩,hX⟩:∃X,ey p l mode sum mxr kind va=X:=⟨_,rfl⟩;rw [hX];have HX:Hid (ey p l mode sum mxr kind va=(x1,x2)):=hX;clear hX;have n1:=(((Below.refl w.heap.size w).alloc (Nat.le_refl _) (Obj.cells #[.int .i64 c,.int .i64 l,.int .u64 p,v] 85)).alloc (by simp) (Obj.cells #[.int .i64 mode,.bool sum,.bool mxr,.int .u64 satp] 25)).alloc (by simp;omega) (Obj.cells #[.int .i64 0,.int .u64 0] 43);have H1:Hid (((((w.alloc (Obj.cells #[.int .i64 c,.int .i64 l,.int .u64 p,v] 85)).alloc (Obj.cells #[.int .i64 mode,.bool sum,.bool mxr,.int .u64 satp] 25)).alloc (Obj.cells #[.int .i64 0,.int .u64 0] 43))).heap[w.heap.size+1+1]?=some (.cells #[.int .i64 0,.int .u64 0] 43 (0,0))):=by
  have:=heap_alloc_new ((w.alloc (Obj.cells #[.int .i64 c,.int .i64 l,.int .u64 p,v] 85)).alloc (Obj.cells #[.int .i64 mode,.bool sum,.bool mxr,.int .u64 satp] 25)) (Obj.cells #[.int .i64 0,.int .u64 0] 43);simp only [World.size_alloc] at this;exact this
 have l1:w.heap.size+1+1<((((w.alloc (Obj.cells #[.int .i64 c,.int .i64 l,.int .u64 p,v] 85)).alloc (Obj.cells #[.int .i64 mode,.bool sum,.bool mxr,.int .u64 satp] 25)).alloc (Obj.cells #[.int .i64 0,.int .u64 0] 43))).heap.size:=by simp
 unfold dx;go_enter Tryz.func48,Tryz.ntmps48;go_wp2_with fail;generalize ((w.alloc (Obj.cells #[.int .i64 c,.int .i64 l,.int .u64 p,v] 85)).alloc (Obj.cells #[.int .i64 mode,.bool sum,.bool mxr,.int .u64 satp] 25)).alloc (Obj.cells #[.int .i64 0,.int .u64 0] 43)=v1 at n1 H1 l1 ⊢;refine (nw p l mode sum mxr satp kind va v1 h0 h1 hv hv' (by omega) (by omega)).mono ?_;rw [HX.out];rintro e v2 ⟨rfl,n2⟩;have n12:=Below.step n1 n2 (Nat.le_refl _);obtain ⟨⟨d0,d1⟩,e0,e1⟩:=iU (ab H1.out n2 l1);unfold eS;simp only;clear n1 n2 H1;go_wp2_with fail;exact bodyPost_ret (v:=.agg #[.int .i64 x1,.int .u64 x2]) (by simp [results,Tryz.results48,go_sem,d0,d1]) rfl ⟨rfl,w5 n12 (by omega) _ _⟩
theorem rJ (zs:List Int) (va:Int) (h:∀i:Nat,0≤zs[i]?.getD 0∧zs[i]?.getD 0≤255):∀(l:Nat) (n:Int),l≤2→
 0≤(cN zs va l n).2.2.1∧(cN zs va l n).2.2.1≤18446744073709551615∧0≤(cN zs va l n).2.1∧(cN zs va l n).2.1≤2
 | 0,n,hl=>by
  unfold cN;have hb:=nf zs (64*n+8*dA va ((0:Nat):Int)) 8 (by omega) h;split
  ·simp
  ·split
   ·simp
   ·split
    ·exact ⟨hb.1,hb.2,by simp,by simp⟩
    ·simp
 | l+1,n,hl=>by
  unfold cN;have hb:=nf zs (64*n+8*dA va ((l+1:Nat):Int)) 8 (by omega) h;split
  ·exact ⟨by simp,by simp,by show (0:Int)≤((l+1:Nat):Int);omega,by show ((l+1:Nat):Int)≤2;omega⟩
  ·split
   ·exact ⟨by simp,by simp,by show (0:Int)≤((l+1:Nat):Int);omega,by show ((l+1:Nat):Int)≤2;omega⟩
   ·split
    ·exact ⟨hb.1,hb.2,by show (0:Int)≤((l+1:Nat):Int);omega,by show ((l+1:Nat):Int)≤2;omega⟩
    ·exact rJ zs va h l _ (by omega)
theorem rK (zs:List Int) (root va:Int) (h:∀i:Nat,0≤zs[i]?.getD 0∧zs[i]?.getD 0≤255):
 0≤(bV zs root va).2.2.1∧(bV zs root va).2.2.1≤18446744073709551615∧0≤(bV zs root va).2.1∧(bV zs root va).2.1≤2:=by
 unfold bV;split
 ·simp
 ·exact rJ zs va h 2 _ (by omega)
set_option maxHeartbeats 1600000 in
theorem jD (a:Option Addr) (len cap:Nat) (zs:List Int) (mode:Int) (sum mxr:Bool) (satp kind va:Int) (w:World) (hl:len≤1048576) (hc:len≤cap) (hm:cap≤9223372036854775807) (hs0:0≤satp) (hs1:satp≤18446744073709551615) (hv0:0≤va) (hv1:va≤18446744073709551615) (hB:Byt w a len zs):
 Calls Tryz.prog 14 #[.slice a len cap,dx mode sum mxr satp,.int .i64 kind,.int .u64 va] w fun e w'=>e=.returned (eS (eu zs mode sum mxr satp kind va))∧Below w.heap.size w w':=by
 by_cases hbad:kind<0∨2<kind∨mode<0∨2<mode
 ·have hp:eu zs mode sum mxr satp kind va=(63,0):=by unfold eu;rw [if_pos hbad]
  rw [hp];unfold dx eS;clear hp;rcases (show kind<0∨(0≤kind∧2<kind)∨(0≤kind∧kind≤2∧mode<0)∨(0≤kind∧kind≤2∧0≤mode∧2<mode) by omega) with h | ⟨h,h'⟩ | ⟨h,h',h''⟩ | ⟨h,h',h'',h3⟩;all_goals
   clear hbad;go_enter Tryz.func14,Tryz.ntmps14;go_wp2_with fail;exact bodyPost_ret (v:=.agg #[.int .i64 63,.int .u64 0]) (by simp [results,Tryz.results14,go_sem]) rfl ⟨rfl,((Below.refl _ _).alloc (Nat.le_refl _) _).alloc (by simp) _⟩
 ·have hk0:0≤kind:=by omega
  have hk2:kind≤2:=by omega
  have hm0:0≤mode:=by omega
  have hm2:mode≤2:=by omega
  unfold eu;rw [if_neg hbad];clear hbad;cases hon:onM mode satp
  ·rw [if_pos rfl];have n1:=((Below.refl w.heap.size w).alloc (Nat.le_refl _) (Obj.cells #[.int .i64 mode,.bool sum,.bool mxr,.int .u64 satp] 25)).alloc (by simp) (Obj.cells #[.int .i64 0,.int .u64 0] 43);have H1:Hid (((w.alloc (Obj.cells #[.int .i64 mode,.bool sum,.bool mxr,.int .u64 satp] 25)).alloc (Obj.cells #[.int .i64 0,.int .u64 0] 43)).heap[w.heap.size+1]?=some (.cells #[.int .i64 0,.int .u64 0] 43 (0,0))):=by
    have:=heap_alloc_new (w.alloc (Obj.cells #[.int .i64 mode,.bool sum,.bool mxr,.int .u64 satp] 25)) (Obj.cells #[.int .i64 0,.int .u64 0] 43);simp only [World.size_alloc] at this;exact this
   have H2:Hid (((w.alloc (Obj.cells #[.int .i64 mode,.bool sum,.bool mxr,.int .u64 satp] 25)).alloc (Obj.cells #[.int .i64 0,.int .u64 0] 43)).heap[w.heap.size]?=some (.cells #[.int .i64 mode,.bool sum,.bool mxr,.int .u64 satp] 25 (0,0))):=by
    show _=_;rw [Below.heap_alloc _ _ _ (by simp)];exact heap_alloc_new _ _
   have l1:w.heap.size+1<((w.alloc (Obj.cells #[.int .i64 mode,.bool sum,.bool mxr,.int .u64 satp] 25)).alloc (Obj.cells #[.int .i64 0,.int .u64 0] 43)).heap.size:=by simp
   have HO:Hid (onM mode satp=false):=hon;clear hon;unfold dx;go_enter Tryz.func14,Tryz.ntmps14;go_wp2_with fail;generalize (w.alloc (Obj.cells #[.int .i64 mode,.bool sum,.bool mxr,.int .u64 satp] 25)).alloc (Obj.cells #[.int .i64 0,.int .u64 0] 43)=v1 at n1 H1 H2 l1 ⊢;refine (kD mode sum mxr satp v1 hs0 hs1).mono ?_;rintro e v2 ⟨rfl,n2⟩;rw [HO.out];have n12:=Below.step n1 n2 (Nat.le_refl _);obtain ⟨⟨d0,d1⟩,e0,e1⟩:=iU (ab H1.out n2 l1);have H3:Hid (v2.heap[w.heap.size]?=some (.cells #[.int .i64 mode,.bool sum,.bool mxr,.int .u64 satp] 25 (0,0))):=ab H2.out n2 (by omega);have H4:Hid (v2.heap[w.heap.size+1]?=some (.cells #[.int .i64 0,.int .u64 0] 43 (0,0))):=ab H1.out n2 l1;have l2:w.heap.size+1<v2.heap.size:=Nat.lt_of_lt_of_le l1 n2.size;clear n1 n2 H1 H2 l1;go_wp2_with fail;exact bodyPost_ret (v:=.agg #[.int .i64 0,.int .u64 va]) (by simp [results,Tryz.results14,go_sem,d0,d1]) rfl ⟨rfl,w5 n12 (by omega) _ _⟩
  ·rw [if_neg (by simp)];obtain ⟨⟨x1,x2⟩,hX⟩:∃X,ck (bV zs satp va) mode sum mxr kind va=X:=⟨_,rfl⟩;rw [hX];have HX:Hid (ck (bV zs satp va) mode sum mxr kind va=(x1,x2)):=hX;clear hX;have n1:=((Below.refl w.heap.size w).alloc (Nat.le_refl _) (Obj.cells #[.int .i64 mode,.bool sum,.bool mxr,.int .u64 satp] 25)).alloc (by simp) (Obj.cells #[.int .i64 0,.int .u64 0] 43);have H1:Hid (((w.alloc (Obj.cells #[.int .i64 mode,.bool sum,.bool mxr,.int .u64 satp] 25)).alloc (Obj.cells #[.int .i64 0,.int .u64 0] 43)).heap[w.heap.size+1]?=some (.cells #[.int .i64 0,.int .u64 0] 43 (0,0))):=by
    have:=heap_alloc_new (w.alloc (Obj.cells #[.int .i64 mode,.bool sum,.bool mxr,.int .u64 satp] 25)) (Obj.cells #[.int .i64 0,.int .u64 0] 43);simp only [World.size_alloc] at this;exact this
   have H2:Hid (((w.alloc (Obj.cells #[.int .i64 mode,.bool sum,.bool mxr,.int .u64 satp] 25)).alloc (Obj.cells #[.int .i64 0,.int .u64 0] 43)).heap[w.heap.size]?=some (.cells #[.int .i64 mode,.bool sum,.bool mxr,.int .u64 satp] 25 (0,0))):=by
    show _=_;rw [Below.heap_alloc _ _ _ (by simp)];exact heap_alloc_new _ _
   have l1:w.heap.size+1<((w.alloc (Obj.cells #[.int .i64 mode,.bool sum,.bool mxr,.int .u64 satp] 25)).alloc (Obj.cells #[.int .i64 0,.int .u64 0] 43)).heap.size:=by simp
   have HO:Hid (onM mode satp=true):=hon;clear hon;unfold dx;go_enter Tryz.func14,Tryz.ntmps14;go_wp2_with fail;generalize (w.alloc (Obj.cells #[.int .i64 mode,.bool sum,.bool mxr,.int .u64 satp] 25)).alloc (Obj.cells #[.int .i64 0,.int .u64 0] 43)=v1 at n1 H1 H2 l1 ⊢;refine (kD mode sum mxr satp v1 hs0 hs1).mono ?_;rintro e v2 ⟨rfl,n2⟩;rw [HO.out];have n12:=Below.step n1 n2 (Nat.le_refl _);obtain ⟨⟨d0,d1⟩,e0,e1⟩:=iU (ab H1.out n2 l1);have H3:Hid (v2.heap[w.heap.size]?=some (.cells #[.int .i64 mode,.bool sum,.bool mxr,.int .u64 satp] 25 (0,0))):=ab H2.out n2 (by omega);have H4:Hid (v2.heap[w.heap.size+1]?=some (.cells #[.int .i64 0,.int .u64 0] 43 (0,0))):=ab H1.out n2 l1;have l2:w.heap.size+1<v2.heap.size:=Nat.lt_of_lt_of_le l1 n2.size;clear n1 n2 H1 H2 l1;obtain ⟨⟨q0,q1,q2,q3⟩,_⟩:=aw H3.out;have HBy:Hid (∀v:World,Below v2.heap.size v2 v→Byt v a len zs):=fun v hv=>(hB.keep n12).keep hv;have HC:Hid (∀v:World,Below v2.heap.size v2 v→v.cell? ⟨w.heap.size,0,none⟩=some (.int .i64 mode)∧v.cell? ⟨w.heap.size,1,none⟩=some (.bool sum)∧v.cell? ⟨w.heap.size,2,none⟩=some (.bool mxr)∧v.cell? ⟨w.heap.size,3,none⟩=some (.int .u64 satp)):=
    fun v hv=>(aw (ab H3.out hv (by omega))).1
   have hwb:=rK zs satp va (hB.2.1);clear hB d0 d1 e0 e1;obtain ⟨W,hW⟩:∃W,bV zs satp va=W:=⟨_,rfl⟩;rw [hW] at hwb;have HW:Hid (bV zs satp va=W):=hW;clear hW;go_wp2_with fail;go_region_held3 (fun w'=>w'.cell? ⟨w.heap.size,0,none⟩=some (.int .i64 mode)∧w'.cell? ⟨w.heap.size,1,none⟩=some (.bool sum)∧w'.cell? ⟨w.heap.size,2,none⟩=some (.bool mxr)∧w'.cell? ⟨w.heap.size,3,none⟩=some (.int .u64 satp)) (go_keep)
    (first
     | (go_at_call 43;refine (kL a len cap zs satp va _ hl hc hm hs0 hs1 hv0 hv1 (HBy.out _ (Below.refl _ _).drew)).mono ?_;rw [HW.out];rintro e v3 ⟨⟨a3,c3,rfl,r3,na3,sp3,nc3⟩,n3⟩;have m3:Below v2.heap.size v2 v3:=(Below.refl v2.heap.size v2).drew.trans n3;obtain ⟨g0,g1,g2,g3⟩:=HC.out v3 m3;clear r3 na3 sp3 nc3 n3)
     | (go_at_call 48;refine (kE W (.slice a3 W.2.2.2.length c3) mode sum mxr satp kind va _ hwb.1 hwb.2.1 hv0 hv1 hwb.2.2.1 hwb.2.2.2 rfl).mono ?_;rw [←HW.out,HX.out];unfold eS;rintro e v4 ⟨rfl,n4⟩;have m4:Below v2.heap.size v2 v4:=Below.step m3 n4 (Nat.le_refl _);obtain ⟨j0,j1,j2,j3⟩:=HC.out v4 m4;obtain ⟨⟨d0,d1⟩,e0,e1⟩:=iU (ab H4.out m4 l2);clear n4))
   go_wp2_with fail;exact bodyPost_ret (v:=.agg #[.int .i64 x1,.int .u64 x2]) (by simp [results,Tryz.results14,go_sem,d0,d1]) rfl ⟨rfl,w5 (Below.step n12 m4 (Nat.le_refl _)) (by omega) _ _⟩
end Go.Proofs.YtaoaifmkhbgaiaaGreat

namespace Go.Proofs.YtaoaifmkhbgaiaaGreat
set_option linter.unusedVariables false
structure EntM where
 valid:Bool
 level:Int
 tag:Int
 asid:Int
 glob:Bool
 pte:Int
def cL:EntM:=⟨false,0,0,0,false,0⟩
structure TlbM where
 sets:Int
 ways:Int
 es:List EntM
def dt (va level:Int):Int:=if level=0 then va/64%512 else if level=1 then va/512%64 else va/4096%8
def lS (level:Int):Int:=if level=0 then 512 else if level=1 then 64 else 8
def iA (p:Bool):Int:=if p=true then 1 else 2
def aS (e:EntM) (p:Bool):Bool:=
 e.valid && decide (0≤e.level) && decide (e.level≤2) && decide (e.tag<lS e.level) && decide (e.asid≤65535) && (e.glob == bK e.pte 32) && (bC e.pte e.level == iA p)
def dq (e:EntM):Prop:=
 (-9223372036854775808≤e.level∧e.level≤9223372036854775807)∧(0≤e.tag∧e.tag≤18446744073709551615)∧(0≤e.asid∧e.asid≤18446744073709551615)∧(0≤e.pte∧e.pte≤18446744073709551615)
end Go.Proofs.YtaoaifmkhbgaiaaGreat
