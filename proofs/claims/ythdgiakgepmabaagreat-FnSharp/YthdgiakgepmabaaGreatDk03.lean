import Derived.Deep.RegionLaw
import Derived.Test.YthdgiakgepmabaaGreatDk02
import Derived.Deep.CutRange
namespace Go.Proofs.YthdgiakgepmabaaGreat
open Go.RowKit
set_option linter.unusedVariables false
set_option maxHeartbeats 6400000
set_option maxRecDepth 20000
def xy (r:aP):List Value:=[VI r.1,VU r.2.1,VU r.2.2]
def cj:List aP->List Value
 | []=>[]
 | r::rs=>xy r++cj rs
theorem uf:∀rs:List aP,(cj rs).length=rs.length*3
 | []=>rfl
 | r::rs=>by simp [cj,xy,uf rs];omega
theorem mB:∀rs:List aP,∀u∈cj rs,u.oneCell'=true
 | [],u,h=>by simp [cj] at h
 | r::rs,u,h=>by
  simp only [cj,List.mem_append] at h;rcases h with h | h
  ·simp [xy] at h;rcases h with rfl | rfl | rfl <;> rfl
  ·exact mB rs u h
theorem aO {w:World} {g:Nat} {T:TypeId} {a b c d:Value} (h:w.heap[g]?=some (.cells #[a,b,c,d] T (0,0))):
 (w.cell? (AD g 0)=some a∧w.cell? (AD g 1)=some b∧w.cell? (AD g 2)=some c∧w.cell? (AD g 3)=some d)∧
 (w.frozen? (AD g 0)=false∧w.frozen? (AD g 1)=false∧w.frozen? (AD g 2)=false∧w.frozen? (AD g 3)=false):=by
 simp [World.cell?,World.frozen?,h]
theorem kJ (va level:Int) (w:World) (h0:0<=va) (h1:va<=18446744073709551615) (hl:0<=level) (hl':level<=2):
 Calls Tryz.prog 99 #[VU va,VI level] w fun e w'=>e=.returned (VU (da va level))∧∃n,w'=w.drewN n:=by
 rcases (show level=0∨level=1∨level=2 by omega) with rfl | rfl | rfl
 ·go_enter Tryz.func99,Tryz.ntmps99;go_wp2_with fail;refine (bK va 6 8 64 8 w h0 h1 (by omega) (by omega) (by omega) (by omega) rfl rfl).mono ?_;rintro e w' ⟨rfl,nq,rfl⟩;go_wp2;go_ret;exact ⟨rfl,nq,rfl⟩
 ·go_enter Tryz.func99,Tryz.ntmps99;go_wp2_with fail;refine (bK va 9 11 512 8 w h0 h1 (by omega) (by omega) (by omega) (by omega) rfl rfl).mono ?_;rintro e w' ⟨rfl,nq,rfl⟩;go_wp2;go_ret;exact ⟨rfl,nq,rfl⟩
 ·go_enter Tryz.func99,Tryz.ntmps99;go_wp2_with fail;refine (bK va 12 14 4096 8 w h0 h1 (by omega) (by omega) (by omega) (by omega) rfl rfl).mono ?_;rintro e w' ⟨rfl,nq,rfl⟩;go_wp2;go_ret;exact ⟨rfl,nq,rfl⟩
theorem Tryz.infoRec:(Tryz.prog.info? 118).map (fun i=>(i.zero,i.size,i.bytes))=some (some (.agg #[VI 0,VU 0,VU 0]),3,24):=by kernel_rfl
theorem ug (l a v:Int) (w:World):
 Calls Tryz.prog 100 #[VI l,VU a,VU v] w fun e w'=>
  e=.returned (SL w.heap.size 1 1)∧w'=w.alloc (.cells #[VI l,VU a,VU v] 118):=by
 go_enter Tryz.func100,Tryz.ntmps100;go_wp2;go_ret;exact ⟨rfl,rfl⟩
theorem re (va level:Int):0<=da va level∧da va level<=7:=by
 unfold da;split
 ·omega
 ·split <;> omega
theorem nH (zs:List Int) (a n:Int) (hn:n<=8) (h:∀i:Nat,0<=zs[i]?.getD 0∧zs[i]?.getD 0<=255):0<=rdV zs a n∧rdV zs a n<=18446744073709551615:=by
 unfold rdV;split
 ·have:=fY zs a.toNat n.toNat h;have hp:(256:Int)^n.toNat<=18446744073709551616:=by
   rcases (show n.toNat=0∨n.toNat=1∨n.toNat=2∨n.toNat=3∨n.toNat=4∨n.toNat=5∨n.toNat=6∨n.toNat=7∨n.toNat=8 by omega) with h | h | h | h | h | h | h | h | h <;> rw [h] <;> decide
  omega
 ·omega
theorem Hi {v:World} {p:Nat} {T:TypeId} {a b c d u:Value} (h:v.heap[p]?=some (.cells #[a,b,c,d] T (0,0))):(v.setCell (AD p 3) u).heap[p]?=some (.cells #[a,b,c,u] T (0,0)):=by
 simp [World.setCell,Array.getElem?_modify,h]
theorem gb4 (v:World) (g:Nat) (x y z u:Value):v.grownBy ((((v.setCell (AD g 0) x).setCell (AD g 1) y).setCell (AD g 2) z).setCell (AD g 3) u) (some g):=
 au (au (au (au (ao v (some g)) 0 x) 1 y) 2 z) 3 u
theorem Bq {B:Nat} {a w:World} {g:Nat} (h:Below B a w) (hg:B<=g) (x y z u:Value):Below B a ((((w.setCell (AD g 0) x).setCell (AD g 1) y).setCell (AD g 2) z).setCell (AD g 3) u):=
 (((h.setCell (p:=(AD g 0)) hg x).setCell (p:=(AD g 1)) hg y).setCell (p:=(AD g 2)) hg z).setCell (p:=(AD g 3)) hg u
theorem E8 (V:World) (g:Nat) (hg:V.heap.size=g) (e:TypeId) (n size:Nat) (cs:List Value) (hn:cs.length=n*size) (hm:n<=maxLen):RowC (V.alloc (.cells cs.toArray e)).drew (some (AD g 0)) n size cs:=by
 subst hg;exact (OwnC.new e size V cs n hn hm).row
def nI (base:Nat) (w':World) (e:Ending) (r:Int × Int × Int × List aP):Prop:=
 ∃a cap,e=.returned (.agg #[VI r.1,VI r.2.1,VU r.2.2.1,.slice a r.2.2.2.length cap])∧RowC w' a r.2.2.2.length 3 (cj r.2.2.2)∧
  (a=none->r.2.2.2.length=0∧cap=0)∧(∀q,a=some q->q.spot=none∧base<=q.block)∧r.2.2.2.length<=cap
theorem vd (x:Int):0<=dA x∧dA x<17592186044416:=⟨Int.emod_nonneg _ (by omega),Int.emod_lt_of_pos _ (by omega)⟩
theorem mC (p l:Int):aU p l=0∨aU p l=1∨aU p l=2:=by
 unfold aU;split
 ·exact .inl rfl
 ·split
  ·split
   ·exact .inl rfl
   ·exact .inr (.inl rfl)
  ·split
   ·exact .inl rfl
   ·exact .inr (.inr rfl)
theorem jq (p:Int):aU p 0≠1:=by
 unfold aU;split
 ·simp
 ·split
  ·simp
  ·split <;> simp
theorem ae {B:Nat} {w w':World} {g:Nat} {o:Obj} (h:w.heap[g]?=some o) (hb:Below B w w') (hg:g<B):w'.heap[g]?=some o:=by rw [hb.block g hg,h]
theorem se (a:Option Addr) (len cap:Nat) (zs:List Int) (va lv n ix rv:Int) (w:World) (hl:len<=1048576) (hc:len<=cap) (hm:cap<=9223372036854775807) (hv0:0<=va) (hv1:va<=18446744073709551615)
 (h0:0<=lv) (h2:lv<=2) (hn0:0<=n) (hn1:n<17592186044416) (hB:Byt w a len zs) (hix:Hid (da va lv=ix)) (hib:0<=ix∧ix<=7) (hrv:Hid (rdV zs (64*n+8*ix) 8=rv)) (hrb:0<=rv∧rv<=18446744073709551615)
 (hg:Hid (dO len (64*n+8*ix) 8=false)):
 Calls Tryz.prog 71 #[.slice a len cap,VU n,VI lv,VU va] w fun e w'=>nI w.heap.size w' e (3,lv,0,[])∧Bw w w':=by
 have hz:=hB.1;obtain ⟨v1,Ev1,n1,H8,l1⟩:=al1 w #[VI 0,VI 0,VU 0,SN] 114;go_enter Tryz.func71,Tryz.ntmps71;go_wp2_with fail;rw [Ev1.out];clear Ev1;refine (kJ va lv v1 hv0 hv1 h0 h2).mono ?_;rintro e w' ⟨rfl,nq,rfl⟩;rw [hix.out];have n2:=below_drewN n1 nq;have H9:Hid ((v1.drewN nq).heap[w.heap.size]?=some (.cells #[VI 0,VI 0,VU 0,SN] 114 (0,0))):=H8;have l2:w.heap.size<(v1.drewN nq).heap.size:=l1;generalize v1.drewN nq=v2 at n2 H9 l2 |-;clear H8 l1 n1;go_wp2_with fail;refine (gK a len cap zs (64*n+8*ix) 8 v2 (hB.keep n2) hl hc hm (by omega) (by omega) (by omega)).mono ?_;rintro e v3 ⟨rfl,n3⟩;rw [hrv.out,hg.out];have n13:=bst n2 n3;have H10:Hid (v3.heap[w.heap.size]?=some (.cells #[VI 0,VI 0,VU 0,SN] 114 (0,0))):=ae H9.out n3 l2;have l3:w.heap.size<v3.heap.size:=ltl l2 n3.size;clear H9 n2 n3 l2;obtain ⟨⟨d0,d1,d2,d3⟩,e0,e1,e2,e3⟩:=aO H10.out;go_wp2_with fail;refine bodyPost_ret (v:=.agg #[VI 3,VI lv,VU 0,SN]) (by simp [results,Tryz.results71,go_sem,d0,d1,d2,d3,l3]) rfl ⟨⟨none,0,rfl,RowC.nil _ _ _,fun _=>⟨rfl,rfl⟩,(by intro q hq;cases hq),Nat.zero_le _⟩,?_⟩;exact (Bq n13 nle _ _ _ _).alloc (by simpa [World.setCell] using n13.size) _
theorem sf (a:Option Addr) (len cap:Nat) (zs:List Int) (va lv n ix rv:Int) (w:World) (hl:len<=1048576) (hc:len<=cap) (hm:cap<=9223372036854775807) (hv0:0<=va) (hv1:va<=18446744073709551615)
 (h0:0<=lv) (h2:lv<=2) (hn0:0<=n) (hn1:n<17592186044416) (hB:Byt w a len zs) (hix:Hid (da va lv=ix)) (hib:0<=ix∧ix<=7) (hrv:Hid (rdV zs (64*n+8*ix) 8=rv)) (hrb:0<=rv∧rv<=18446744073709551615)
 (hg:Hid (dO len (64*n+8*ix) 8=true)) (hk:Hid (aU rv lv=0)):
 Calls Tryz.prog 71 #[.slice a len cap,VU n,VI lv,VU va] w fun e w'=>nI w.heap.size w' e (2,lv,0,[])∧Bw w w':=by
 have hz:=hB.1;obtain ⟨v1,Ev1,n1,H8,l1⟩:=al1 w #[VI 0,VI 0,VU 0,SN] 114;go_enter Tryz.func71,Tryz.ntmps71;go_wp2_with fail;rw [Ev1.out];clear Ev1;refine (kJ va lv v1 hv0 hv1 h0 h2).mono ?_;rintro e w' ⟨rfl,nq,rfl⟩;rw [hix.out];have n2:=below_drewN n1 nq;have H9:Hid ((v1.drewN nq).heap[w.heap.size]?=some (.cells #[VI 0,VI 0,VU 0,SN] 114 (0,0))):=H8;have l2:w.heap.size<(v1.drewN nq).heap.size:=l1;generalize v1.drewN nq=v2 at n2 H9 l2 |-;clear H8 l1 n1;go_wp2_with fail;refine (gK a len cap zs (64*n+8*ix) 8 v2 (hB.keep n2) hl hc hm (by omega) (by omega) (by omega)).mono ?_;rintro e v3 ⟨rfl,n3⟩;rw [hrv.out,hg.out];have n13:=bst n2 n3;have H10:Hid (v3.heap[w.heap.size]?=some (.cells #[VI 0,VI 0,VU 0,SN] 114 (0,0))):=ae H9.out n3 l2;have l3:w.heap.size<v3.heap.size:=ltl l2 n3.size;clear H9 n2 n3 l2;go_wp2_with fail;have a4:=jP v3 #[Value.bool true,VU rv] 165;generalize v3.alloc (Obj.cells #[Value.bool true,VU rv] 165)=v4 at a4 |-;obtain ⟨l4,c4,n4⟩:=a4;have c41:v4.cell? (AD v3.heap.size 1)=some (VU rv):=c4 1;have n14:=bst n13 n4;have H11:Hid (v4.heap[w.heap.size]?=some (.cells #[VI 0,VI 0,VU 0,SN] 114 (0,0))):=ae H10.out n4 l3;clear c4 n13 n4 H10;refine (hH rv lv v4 hrb.1 hrb.2 (by omega) (by omega)).mono ?_;rintro e w' ⟨rfl,nk,rfl⟩;rw [hk.out];have n15:Bw w (v4.drewN nk):=below_drewN n14 nk;have c51:(v4.drewN nk).cell? (AD v3.heap.size 1)=some (VU rv):=c41;have H12:Hid ((v4.drewN nk).heap[w.heap.size]?=some (.cells #[VI 0,VI 0,VU 0,SN] 114 (0,0))):=H11;have l5:v3.heap.size<(v4.drewN nk).heap.size:=l4;generalize v4.drewN nk=v5 at n15 c51 H12 l5 |-;clear n14 c41 H11 l4;obtain ⟨⟨d0,d1,d2,d3⟩,e0,e1,e2,e3⟩:=aO H12.out;go_wp2_with fail;refine bodyPost_ret (v:=.agg #[VI 2,VI lv,VU 0,SN]) (by simp [results,Tryz.results71,go_sem,d0,d1,d2,d3]) rfl ⟨⟨none,0,rfl,RowC.nil _ _ _,fun _=>⟨rfl,rfl⟩,(by intro q hq;cases hq),Nat.zero_le _⟩,?_⟩;exact Bq n15 nle _ _ _ _
theorem qD (a:Option Addr) (len cap:Nat) (zs:List Int) (va lv n ix rv:Int) (w:World) (hl:len<=1048576) (hc:len<=cap) (hm:cap<=9223372036854775807) (hv0:0<=va) (hv1:va<=18446744073709551615)
 (h0:0<=lv) (h2:lv<=2) (hn0:0<=n) (hn1:n<17592186044416) (hB:Byt w a len zs) (hix:Hid (da va lv=ix)) (hib:0<=ix∧ix<=7) (hrv:Hid (rdV zs (64*n+8*ix) 8=rv)) (hrb:0<=rv∧rv<=18446744073709551615)
 (hg:Hid (dO len (64*n+8*ix) 8=true)) (hk:Hid (aU rv lv=2)):
 Calls Tryz.prog 71 #[.slice a len cap,VU n,VI lv,VU va] w fun e w'=>nI w.heap.size w' e (1,lv,rv,[(lv,64*n+8*ix,rv)])∧Bw w w':=by
 have hz:=hB.1;obtain ⟨v1,Ev1,n1,H8,l1⟩:=al1 w #[VI 0,VI 0,VU 0,SN] 114;go_enter Tryz.func71,Tryz.ntmps71;go_wp2_with fail;rw [Ev1.out];clear Ev1;refine (kJ va lv v1 hv0 hv1 h0 h2).mono ?_;rintro e w' ⟨rfl,nq,rfl⟩;rw [hix.out];have n2:=below_drewN n1 nq;have H9:Hid ((v1.drewN nq).heap[w.heap.size]?=some (.cells #[VI 0,VI 0,VU 0,SN] 114 (0,0))):=H8;have l2:w.heap.size<(v1.drewN nq).heap.size:=l1;generalize v1.drewN nq=v2 at n2 H9 l2 |-;clear H8 l1 n1;go_wp2_with fail;refine (gK a len cap zs (64*n+8*ix) 8 v2 (hB.keep n2) hl hc hm (by omega) (by omega) (by omega)).mono ?_;rintro e v3 ⟨rfl,n3⟩;rw [hrv.out,hg.out];have n13:=bst n2 n3;have H10:Hid (v3.heap[w.heap.size]?=some (.cells #[VI 0,VI 0,VU 0,SN] 114 (0,0))):=ae H9.out n3 l2;have l3:w.heap.size<v3.heap.size:=ltl l2 n3.size;clear H9 n2 n3 l2;go_wp2_with fail;have a4:=jP v3 #[Value.bool true,VU rv] 165;generalize v3.alloc (Obj.cells #[Value.bool true,VU rv] 165)=v4 at a4 |-;obtain ⟨l4,c4,n4⟩:=a4;have c41:v4.cell? (AD v3.heap.size 1)=some (VU rv):=c4 1;have n14:=bst n13 n4;have H11:Hid (v4.heap[w.heap.size]?=some (.cells #[VI 0,VI 0,VU 0,SN] 114 (0,0))):=ae H10.out n4 l3;clear c4 n13 n4 H10;refine (hH rv lv v4 hrb.1 hrb.2 (by omega) (by omega)).mono ?_;rintro e w' ⟨rfl,nk,rfl⟩;rw [hk.out];have n15:Bw w (v4.drewN nk):=below_drewN n14 nk;have c51:(v4.drewN nk).cell? (AD v3.heap.size 1)=some (VU rv):=c41;have H12:Hid ((v4.drewN nk).heap[w.heap.size]?=some (.cells #[VI 0,VI 0,VU 0,SN] 114 (0,0))):=H11;have l5:v3.heap.size<(v4.drewN nk).heap.size:=l4;generalize v4.drewN nk=v5 at n15 c51 H12 l5 |-;clear n14 c41 H11 l4;obtain ⟨⟨d0,d1,d2,d3⟩,e0,e1,e2,e3⟩:=aO H12.out;have l6:w.heap.size<v5.heap.size:=Nat.lt_trans l3 l5;have ne1:v5.heap.size≠v3.heap.size:=by omega
 have ne2:w.heap.size≠v3.heap.size:=by omega
 have ne3:v3.heap.size≠w.heap.size:=by omega
 go_wp2;go_region_held3 (fun w'=>w'.cell? (AD v3.heap.size 1)=some (VU rv)) (go_keep)
  (first | (go_at_call 100;refine (ug _ _ _ _).mono ?_;rintro e w' ⟨rfl,rfl⟩))
 go_wp2_with fail;refine bodyPost_ret (v:=.agg #[VI 1,VI lv,VU rv,SL v5.heap.size 1 1]) (by simp [results,Tryz.results71,go_sem,d0,d1,d2,d3,l6]) rfl
  ⟨⟨some (AD v5.heap.size 0),1,rfl,E8 _ _ (by simp [World.setCell]) _ 1 3 (cj [(lv,64*n+8*ix,rv)]) (uf _) (by decide),(by intro h;cases h),(by intro q hq;cases hq;exact ⟨rfl,Nat.le_of_lt l6⟩),nle⟩,?_⟩
 exact ((Bq n15 nle _ _ _ _).alloc (by simpa [World.setCell] using n15.size) _).drew
theorem yy (a:Option Addr) (len cap:Nat) (zs:List Int) (va lv n ix rv:Int) (w:World) (hl:len<=1048576) (hc:len<=cap) (hm:cap<=9223372036854775807) (hv0:0<=va) (hv1:va<=18446744073709551615)
 (h0:0<=lv) (h2:lv<=2) (hn0:0<=n) (hn1:n<17592186044416) (hB:Byt w a len zs) (hix:Hid (da va lv=ix)) (hib:0<=ix∧ix<=7) (hrv:Hid (rdV zs (64*n+8*ix) 8=rv)) (hrb:0<=rv∧rv<=18446744073709551615)
 (hg:Hid (dO len (64*n+8*ix) 8=true)) (hk:Hid (aU rv lv=1)) (NX:Int × Int × Int × List aP) (hlen:NX.2.2.2.length<=2) (h1:1<=lv)
 (hnx:Hid (∀w':World,Byt w' a len zs->
   Calls Tryz.prog 71 #[.slice a len cap,VU (dA rv),VI (lv-1),VU va] w' fun e w''=>nI w'.heap.size w'' e NX∧Bw w' w'')):
 Calls Tryz.prog 71 #[.slice a len cap,VU n,VI lv,VU va] w fun e w'=>
  nI w.heap.size w' e (NX.1,NX.2.1,NX.2.2.1,(lv,64*n+8*ix,rv)::NX.2.2.2)∧Bw w w':=by
 have hz:=hB.1;obtain ⟨v1,Ev1,n1,H8,l1⟩:=al1 w #[VI 0,VI 0,VU 0,SN] 114;go_enter Tryz.func71,Tryz.ntmps71;go_wp2_with fail;rw [Ev1.out];clear Ev1;refine (kJ va lv v1 hv0 hv1 h0 h2).mono ?_;rintro e w' ⟨rfl,nq,rfl⟩;rw [hix.out];have n2:=below_drewN n1 nq;have H9:Hid ((v1.drewN nq).heap[w.heap.size]?=some (.cells #[VI 0,VI 0,VU 0,SN] 114 (0,0))):=H8;have l2:w.heap.size<(v1.drewN nq).heap.size:=l1;generalize v1.drewN nq=v2 at n2 H9 l2 |-;clear H8 l1 n1;go_wp2_with fail;refine (gK a len cap zs (64*n+8*ix) 8 v2 (hB.keep n2) hl hc hm (by omega) (by omega) (by omega)).mono ?_;rintro e v3 ⟨rfl,n3⟩;rw [hrv.out,hg.out];have n13:=bst n2 n3;have H10:Hid (v3.heap[w.heap.size]?=some (.cells #[VI 0,VI 0,VU 0,SN] 114 (0,0))):=ae H9.out n3 l2;have l3:w.heap.size<v3.heap.size:=ltl l2 n3.size;clear H9 n2 n3 l2;go_wp2_with fail;have a4:=jP v3 #[Value.bool true,VU rv] 165;generalize v3.alloc (Obj.cells #[Value.bool true,VU rv] 165)=v4 at a4 |-;obtain ⟨l4,c4,n4⟩:=a4;have c41:v4.cell? (AD v3.heap.size 1)=some (VU rv):=c4 1;have n14:=bst n13 n4;have H11:Hid (v4.heap[w.heap.size]?=some (.cells #[VI 0,VI 0,VU 0,SN] 114 (0,0))):=ae H10.out n4 l3;clear c4 n13 n4 H10;refine (hH rv lv v4 hrb.1 hrb.2 (by omega) (by omega)).mono ?_;rintro e w' ⟨rfl,nk,rfl⟩;rw [hk.out];have n15:Bw w (v4.drewN nk):=below_drewN n14 nk;have c51:(v4.drewN nk).cell? (AD v3.heap.size 1)=some (VU rv):=c41;have H12:Hid ((v4.drewN nk).heap[w.heap.size]?=some (.cells #[VI 0,VI 0,VU 0,SN] 114 (0,0))):=H11;have l5:v3.heap.size<(v4.drewN nk).heap.size:=l4;generalize v4.drewN nk=v5 at n15 c51 H12 l5 |-;clear n14 c41 H11 l4;go_wp2_with fail;refine (dK rv v5 hrb.1 hrb.2).mono ?_;rintro e w' ⟨rfl,np,rfl⟩;have n16:Bw w (v5.drewN np):=below_drewN n15 np;have c61:(v5.drewN np).cell? (AD v3.heap.size 1)=some (VU rv):=c51;have H13:Hid ((v5.drewN np).heap[w.heap.size]?=some (.cells #[VI 0,VI 0,VU 0,SN] 114 (0,0))):=H12;have l6:v3.heap.size<(v5.drewN np).heap.size:=l5;generalize v5.drewN np=v6 at n16 c61 H13 l6 |-;clear n15 c51 H12 l5;go_wp2_with fail;refine (hnx.out v6 (hB.keep n16)).mono ?_;rintro e v7 ⟨⟨a7,c7,rfl,r7,na7,sp7,nc7⟩,n7⟩;obtain ⟨x1,x2,x3,rs⟩:=NX;simp only at r7 na7 nc7 hlen |-;have n17:=bst n16 n7;have c71:=Below.cell2 n7 c61 l6;have H14:Hid (v7.heap[w.heap.size]?=some (.cells #[VI 0,VI 0,VU 0,SN] 114 (0,0))):=ae H13.out n7 (by omega);have l7:v3.heap.size<v7.heap.size:=ltl l6 n7.size;clear n16 n7 c61 H13 l6;have l8:w.heap.size<v7.heap.size:=Nat.lt_trans l3 l7;go_wp2_with fail;obtain ⟨v8,Ev8,n8,H15,l9⟩:=al1 v7 #[VI x1,VI x2,VU x3,Value.slice a7 rs.length c7] 114;rw [Ev8.out];clear Ev8;have n18:=bst n17 n8;have c81:=Below.cell2 n8 c71 l7;have H16:Hid (v8.heap[w.heap.size]?=some (.cells #[VI 0,VI 0,VU 0,SN] 114 (0,0))):=ae H14.out n8 l8;have HR:Hid (RowC v8 a7 rs.length 3 (cj rs)):=r7.keep n8;have HN:Hid (a7=none->rs.length=0∧c7=0):=na7;have HSp:Hid (∀q,a7=some q->q.spot=none∧v6.heap.size<=q.block):=sp7;clear r7 na7 sp7 n17 n8 c71 H14;have q3:=(aO H15.out).1.2.2.2;have p3:=(aO H15.out).2.2.2.2;have ne1:v8.heap.size≠v3.heap.size:=by omega
 have ne2:v8.heap.size≠v7.heap.size:=by omega
 have ne4:v7.heap.size≠v8.heap.size:=by omega
 go_region_law (first
  | (refine mT _ (by rfl) (.tmp 59) (.tmp 61) 112 (by rfl) 118 Tryz.underlying112 (.agg #[VI 0,VU 0,VU 0]) 3 24 Tryz.infoRec (by rfl) (by decide) v8.heap.size v8.heap.size 1 1 (cj [(lv,64*n+8*ix,rv)]) (by rfl) (OwnC.new 118 3 v8.drew (cj [(lv,64*n+8*ix,rv)]) 1 (by rfl) (by decide)) a7 rs.length c7 (cj rs) (by rfl) HN.out (fun q hq=>(HSp.out q hq).1) (RowC.keep (w:=v8) HR.out ((brf).drew.alloc nle _)) (mB rs) (by omega) (by omega) v8.heap.size v8 ((brf).drew.alloc nle _) nle ?_;intro g9 c9 v9 o9 n9;have q9:=Below.cell2 n9 q3 l9;have p9:=Below.froz2 n9 p3 l9)
  | (go_simp;go_at_call 100;refine (ug _ _ _ _).mono ?_;rintro e w' ⟨rfl,rfl⟩))
 all_goals
  have k9:=ae H15.out n9 l9;have k9':=Hi (u:=SL g9 (1+rs.length) c9) k9;have m9:=au (ao v9 (some v7.heap.size)) 3 (SL g9 (1+rs.length) c9);have f9:=o9.facts;have n19:Bw w v9:=bst n18 n9;have n110:=Below.gb n19 m9 (by omega) (ltl l9 n9.size);have b9:=aA (ae H16.out n9 (by omega)) m9 (by omega);have r9:=o9.row.gb m9 (by omega);generalize v9.setCell (AD v7.heap.size 3) (SL g9 (1+rs.length) c9)=v10 at k9' m9 n110 b9 r9 |-;obtain ⟨⟨d0,d1,d2,d3⟩,e0,e1,e2,e3⟩:=aO b9;obtain ⟨⟨t0,t1,t2,t3⟩,_⟩:=aO k9';have HR9:Hid (RowC v10 (some (AD g9 0)) (1+rs.length) 3 (cj [(lv,64*n+8*ix,rv)]++cj rs)):=r9;clear k9 k9' m9 q9 p9 o9 n9 n19 b9 r9 q3 p3 c81;go_wp2_with fail;refine bodyPost_ret (v:=.agg #[VI x1,VI x2,VU x3,SL g9 (1+rs.length) c9]) (by simp [results,Tryz.results71,go_sem,d0,d1,d2,d3]) rfl ?_;have e10:1+rs.length=rs.length+1:=Nat.add_comm _ _;rw [e10] at HR9 f9 |-;exact ⟨⟨some (AD g9 0),c9,rfl,RowC.gb HR9.out (gb4 v10 w.heap.size _ _ _ _) (by omega),(by intro h;cases h),(by intro q hq;cases hq;exact ⟨rfl,by show w.heap.size<=g9;omega⟩),f9.2.2.2.1⟩,Bq n110 nle _ _ _ _⟩
theorem mI (zs:List Int) (va:Int):∀(l:Nat) (n:Int),(bu zs va l n).2.2.2.length<=l+1
 | 0,n=>by
  unfold bu;split
  ·simp
  ·split
   ·simp
   ·split <;> simp
 | l+1,n=>by
  unfold bu;split
  ·simp
  ·split
   ·simp
   ·split
    ·simp
    ·have:=mI zs va l (dA (rdV zs (64*n+8*da va ((l+1:Nat):Int)) 8));simp only [List.length_cons];omega
theorem zK (a:Option Addr) (len cap:Nat) (zs:List Int) (va:Int) (hl:len<=1048576) (hc:len<=cap) (hm:cap<=9223372036854775807) (hv0:0<=va) (hv1:va<=18446744073709551615) (l:Nat):
 ∀(n lv:Int) (w:World),lv=l->l<=2->0<=n->n<17592186044416->Byt w a len zs->
 Calls Tryz.prog 71 #[.slice a len cap,VU n,VI lv,VU va] w fun e w'=>nI w.heap.size w' e (bu zs va l n)∧Bw w w':=by
 induction l with
 | zero=>
  intro n lv w e hl2 hn0 hn1 hB;subst e;have hz:=hB.1;have hib:=re va ((0:Nat):Int);have hrb:=nH zs (64*n+8*da va ((0:Nat):Int)) 8 (by omega) hB.2.1;unfold bu;rw [hz];cases hg:dO len (64*n+8*da va ((0:Nat):Int)) 8
  ·rw [if_pos rfl];exact se a len cap zs va _ n _ _ w hl hc hm hv0 hv1 (by omega) (by omega) hn0 hn1 hB rfl hib rfl hrb hg
  ·rw [if_neg (by simp)];rcases mC (rdV zs (64*n+8*da va ((0:Nat):Int)) 8) ((0:Nat):Int) with hk | hk | hk
   ·rw [if_pos hk];exact sf a len cap zs va _ n _ _ w hl hc hm hv0 hv1 (by omega) (by omega) hn0 hn1 hB rfl hib rfl hrb hg hk
   ·exact absurd hk (jq _)
   ·rw [if_neg (by rw [hk];decide),if_pos hk];exact qD a len cap zs va _ n _ _ w hl hc hm hv0 hv1 (by omega) (by omega) hn0 hn1 hB rfl hib rfl hrb hg hk
 | succ l ih=>
  intro n lv w e hl2 hn0 hn1 hB;subst e;have hz:=hB.1;have hib:=re va ((l+1:Nat):Int);have hrb:=nH zs (64*n+8*da va ((l+1:Nat):Int)) 8 (by omega) hB.2.1;unfold bu;rw [hz];cases hg:dO len (64*n+8*da va ((l+1:Nat):Int)) 8
  ·rw [if_pos rfl];exact se a len cap zs va _ n _ _ w hl hc hm hv0 hv1 (by omega) (by omega) hn0 hn1 hB rfl hib rfl hrb hg
  ·rw [if_neg (by simp)];rcases mC (rdV zs (64*n+8*da va ((l+1:Nat):Int)) 8) ((l+1:Nat):Int) with hk | hk | hk
   ·rw [if_pos hk];exact sf a len cap zs va _ n _ _ w hl hc hm hv0 hv1 (by omega) (by omega) hn0 hn1 hB rfl hib rfl hrb hg hk
   ·rw [if_neg (by rw [hk];decide),if_neg (by rw [hk];decide)];have hp:=vd (rdV zs (64*n+8*da va ((l+1:Nat):Int)) 8);exact yy a len cap zs va _ n _ _ w hl hc hm hv0 hv1 (by omega) (by omega) hn0 hn1 hB rfl hib rfl hrb hg hk
     (bu zs va l (dA (rdV zs (64*n+8*da va ((l+1:Nat):Int)) 8))) (by have:=mI zs va l (dA (rdV zs (64*n+8*da va ((l+1:Nat):Int)) 8));omega) (by omega)
     (fun w' hB'=>ih _ _ w' (by omega) (by omega) hp.1 hp.2 hB')
   ·rw [if_neg (by rw [hk];decide),if_pos hk];exact qD a len cap zs va _ n _ _ w hl hc hm hv0 hv1 (by omega) (by omega) hn0 hn1 hB rfl hib rfl hrb hg hk
theorem oY (a:Option Addr) (len cap:Nat) (zs:List Int) (root va:Int) (w:World) (hl:len<=1048576) (hc:len<=cap) (hm:cap<=9223372036854775807) (hr0:0<=root) (hr1:root<=18446744073709551615) (hv0:0<=va) (hv1:va<=18446744073709551615) (hB:Byt w a len zs):
 Calls Tryz.prog 36 #[.slice a len cap,VU root,VU va] w fun e w'=>nI w.heap.size w' e (bD zs root va)∧Bw w w':=by
 have H8:Hid ((w.alloc (Obj.cells #[VI 0,VI 0,VU 0,SN] 114)).heap[w.heap.size]?=some (.cells #[VI 0,VI 0,VU 0,SN] 114 (0,0))):=fC _ _;have n1:=(Below.refl w.heap.size w).alloc nle (Obj.cells #[VI 0,VI 0,VU 0,SN] 114);have l1:w.heap.size<(w.alloc (Obj.cells #[VI 0,VI 0,VU 0,SN] 114)).heap.size:=by simp
 unfold bD;cases hcn:cR va
 ·rw [if_pos rfl];have HC:Hid (cR va=false):=hcn;clear hcn;go_enter Tryz.func36,Tryz.ntmps36;go_wp2_with fail;generalize w.alloc (Obj.cells #[VI 0,VI 0,VU 0,SN] 114)=v1 at H8 n1 l1 |-;refine (fM va v1 hv0 hv1).mono ?_;rintro e w' ⟨rfl,nq,rfl⟩;rw [HC.out];have n2:Bw w (v1.drewN nq):=below_drewN n1 nq;have H9:Hid ((v1.drewN nq).heap[w.heap.size]?=some (.cells #[VI 0,VI 0,VU 0,SN] 114 (0,0))):=H8;generalize v1.drewN nq=v2 at n2 H9 |-;obtain ⟨⟨d0,d1,d2,d3⟩,e0,e1,e2,e3⟩:=aO H9.out;go_wp2_with fail;refine bodyPost_ret (v:=.agg #[VI 2,VI 2,VU 0,SN]) (by simp [results,Tryz.results36,go_sem,d0,d1,d2,d3]) rfl ⟨⟨none,0,rfl,RowC.nil _ _ _,fun _=>⟨rfl,rfl⟩,(by intro q hq;cases hq),Nat.zero_le _⟩,Bq n2 nle _ _ _ _⟩
 ·rw [if_neg (by simp)];have HC:Hid (cR va=true):=hcn;clear hcn;obtain ⟨X,hX⟩:∃X,bu zs va 2 (root%17592186044416)=X:=⟨_,rfl⟩;have HX:Hid (bu zs va 2 (root%17592186044416)=X):=hX;rw [hX];clear hX;obtain ⟨x1,x2,x3,rs⟩:=X;go_enter Tryz.func36,Tryz.ntmps36;go_wp2_with fail;generalize w.alloc (Obj.cells #[VI 0,VI 0,VU 0,SN] 114)=v1 at H8 n1 l1 |-;refine (fM va v1 hv0 hv1).mono ?_;rintro e w' ⟨rfl,nq,rfl⟩;rw [HC.out];have n2:Bw w (v1.drewN nq):=below_drewN n1 nq;have H9:Hid ((v1.drewN nq).heap[w.heap.size]?=some (.cells #[VI 0,VI 0,VU 0,SN] 114 (0,0))):=H8;have l2:w.heap.size<(v1.drewN nq).heap.size:=l1;generalize v1.drewN nq=v2 at n2 H9 l2 |-;clear n1 H8 l1;go_wp2_with fail;refine (bK root 0 43 1 17592186044416 v2 hr0 hr1 (by omega) (by omega) (by omega) (by omega) rfl rfl).mono ?_;rintro e w' ⟨rfl,nr,rfl⟩;have n3:Bw w (v2.drewN nr):=below_drewN n2 nr;have H10:Hid ((v2.drewN nr).heap[w.heap.size]?=some (.cells #[VI 0,VI 0,VU 0,SN] 114 (0,0))):=H9;have l3:w.heap.size<(v2.drewN nr).heap.size:=l2;generalize v2.drewN nr=v3 at n3 H10 l3 |-;clear n2 H9 l2;rw [Int.ediv_one];have hb0:0<=root%17592186044416∧root%17592186044416<17592186044416:=⟨Int.emod_nonneg _ (by omega),Int.emod_lt_of_pos _ (by omega)⟩;go_wp2_with fail;refine (zK a len cap zs va hl hc hm hv0 hv1 2 _ 2 v3 rfl (by omega) hb0.1 hb0.2 (hB.keep n3)).mono ?_;rintro e v4 ⟨hw,n4⟩;rw [HX.out] at hw;obtain ⟨a4,c4,rfl,r4,na4,sp4,nc4⟩:=hw;simp only at r4 na4 nc4 |-;have n14:=bst n3 n4;have H11:Hid _:=ae H10.out n4 l3;have l4:w.heap.size<v4.heap.size:=ltl l3 n4.size;obtain ⟨⟨d0,d1,d2,d3⟩,e0,e1,e2,e3⟩:=aO (ae H10.out n4 l3);have HR4:Hid (RowC v4 a4 rs.length 3 (cj rs)):=r4;have HN4:Hid (a4=none->rs.length=0∧c4=0):=na4;have HS4:Hid (∀q,a4=some q->q.spot=none∧v3.heap.size<=q.block):=sp4;clear r4 na4 sp4 H10 H11 n3 n4;go_wp2_with fail;refine bodyPost_ret (v:=.agg #[VI x1,VI x2,VU x3,.slice a4 rs.length c4]) (by simp [results,Tryz.results36,go_sem,d0,d1,d2,d3]) rfl ⟨⟨a4,c4,rfl,RowC.gb' HR4.out (gb4 v4 w.heap.size _ _ _ _) (fun q hq=>by have:=(HS4.out q hq).2;omega),HN4.out,(fun q hq=>⟨(HS4.out q hq).1,by have:=(HS4.out q hq).2;omega⟩),nc4⟩,Bq n14 nle _ _ _ _⟩
section
attribute [local go_sem ↓] Go.wp_at_zero Go.wp_at_succ
def io (mode:Int) (sum mxr:Bool) (satp:Int):Value:=.agg #[VI mode,.bool sum,.bool mxr,VU satp]
theorem vJ (mode:Int) (sum mxr:Bool) (satp:Int) (w:World) (h0:0<=satp) (h1:satp<=18446744073709551615):
 Calls Tryz.prog 33 #[io mode sum mxr satp] w fun e w'=>e=.returned (.bool (onM mode satp))∧Bw w w':=by
 unfold io;have a1:=jP w #[VI mode,.bool sum,.bool mxr,VU satp] 110;go_enter Tryz.func33,Tryz.ntmps33;go_wp2_with fail;generalize w.alloc (Obj.cells #[VI mode,.bool sum,.bool mxr,VU satp] 110)=v1 at a1 |-;obtain ⟨l1,c1,n1⟩:=a1;have c10:=c1 0;clear c1;refine (bK satp 60 63 1152921504606846976 16 v1 h0 h1 (by omega) (by omega) (by omega) (by omega) rfl rfl).mono ?_;rintro e w' ⟨rfl,nq,rfl⟩;cases hs:(satp/1152921504606846976%16 == 8)
 ·go_wp2;go_ret;exact ⟨aL (by simp [onM,hs]),below_drewN n1 nq⟩
 ·cases hm0:(mode == 0)
  ·go_wp2;go_ret;exact ⟨aL (by simp [onM,hs,hm0]),below_drewN n1 nq⟩
  ·go_wp2;go_ret;exact ⟨aL (by simp [onM,hs,hm0]),below_drewN n1 nq⟩
theorem BN (satp:Int) (w:World) (h0:0<=satp) (h1:satp<=18446744073709551615):
 Calls Tryz.prog 37 #[VU satp] w fun e w'=>e=.returned (VU (aN satp))∧∃n,w'=w.drewN n:=by
 go_enter Tryz.func37,Tryz.ntmps37;go_wp2_with fail;refine (bK satp 44 59 17592186044416 65536 w h0 h1 (by omega) (by omega) (by omega) (by omega) rfl rfl).mono ?_;rintro e w' ⟨rfl,nq,rfl⟩;go_wp2;go_ret;exact ⟨rfl,nq,rfl⟩
theorem lV (kind:Int) (w:World):Calls Tryz.prog 117 #[VI kind] w fun e w'=>e=.returned (VI (eU kind))∧w'=w:=by
 by_cases k0:kind=0
 ·subst k0;go_enter Tryz.func117,Tryz.ntmps117;go_wp2;go_ret;exact ⟨rfl,rfl⟩
 by_cases k1:kind=1
 ·subst k1;go_enter Tryz.func117,Tryz.ntmps117;go_wp2;go_ret;exact ⟨rfl,rfl⟩
 have k0':(kind == 0)=false:=by simpa using k0
 have k1':(kind == 1)=false:=by simpa using k1
 go_enter Tryz.func117,Tryz.ntmps117;go_wp2;go_ret;exact ⟨cx (by simp [eU,k0,k1]),rfl⟩
theorem kx (kind:Int) (w:World):Calls Tryz.prog 123 #[VI kind] w fun e w'=>e=.returned (VI (bO kind))∧w'=w:=by
 by_cases k0:kind=0
 ·subst k0;go_enter Tryz.func123,Tryz.ntmps123;go_wp2;go_ret;exact ⟨rfl,rfl⟩
 by_cases k1:kind=1
 ·subst k1;go_enter Tryz.func123,Tryz.ntmps123;go_wp2;go_ret;exact ⟨rfl,rfl⟩
 have k0':(kind == 0)=false:=by simpa using k0
 have k1':(kind == 1)=false:=by simpa using k1
 go_enter Tryz.func123,Tryz.ntmps123;go_wp2;go_ret;exact ⟨cx (by simp [bO,k0,k1]),rfl⟩
def fZ (r:Int × Int):Value:=.agg #[VI r.1,VU r.2]
theorem mH {w:World} {g:Nat} {T:TypeId} {a b:Value} (h:w.heap[g]?=some (.cells #[a,b] T (0,0))):
 (w.cell? (AD g 0)=some a∧w.cell? (AD g 1)=some b)∧w.frozen? (AD g 0)=false∧w.frozen? (AD g 1)=false:=by
 simp [World.cell?,World.frozen?,h]
theorem DF {B:Nat} {a w:World} {g:Nat} (h:Below B a w) (hg:B<=g) (x y:Value):Below B a ((w.setCell (AD g 0) x).setCell (AD g 1) y):=
 (h.setCell (p:=(AD g 0)) hg x).setCell (p:=(AD g 1)) hg y
theorem zF (pte level mode:Int) (sum mxr:Bool) (satp kind va:Int) (w:World) (h0:0<=pte) (h1:pte<=18446744073709551615) (hv:0<=va) (hv':va<=18446744073709551615) (hl: -9223372036854775808<=level) (hl':level<=9223372036854775807):
 Calls Tryz.prog 119 #[VU pte,VI level,io mode sum mxr satp,VI kind,VU va] w fun e w'=>e=.returned (fZ (fT pte level mode sum mxr kind va))∧Bw w w':=by
 unfold io fT;cases hg:cG pte kind mode sum mxr
 ·rw [if_neg (by simp)];have HG:=hid hg;clear hg;go_enter Tryz.func119,Tryz.ntmps119;go_wp2_with fail;refine (jy pte kind mode sum mxr _ h0 h1).mono ?_;rintro e w' ⟨rfl,nq,rfl⟩;rw [HG.out];go_wp2_with (go_at_call 117;refine (lV kind _).mono ?_;rintro e w' ⟨rfl,rfl⟩);exact bodyPost_ret (v:=.agg #[VI (eU kind),VU 0]) (by simp [results,Tryz.results119,go_sem]) rfl ⟨rfl,DF (below_drewN (((brf).alloc nle _).alloc (by simp) _) nq) (Nat.le_succ _) _ _⟩
 ·rw [if_pos rfl];have HG:=hid hg;clear hg;go_enter Tryz.func119,Tryz.ntmps119;go_wp2_with fail;refine (jy pte kind mode sum mxr _ h0 h1).mono ?_;rintro e w' ⟨rfl,nq,rfl⟩;rw [HG.out];go_wp2_with (go_at_call 136;refine (tH pte level va _ h0 h1 hv hv' hl hl').mono ?_;rintro e w' ⟨rfl,nr,rfl⟩);exact bodyPost_ret (v:=.agg #[VI 0,VU (fH pte level va)]) (by simp [results,Tryz.results119,go_sem]) rfl ⟨rfl,DF (below_drewN (((brf).alloc nle _).alloc (by simp) _) (nq+nr)) (Nat.le_succ _) _ _⟩
theorem vK (r:Int × Int × Int × List aP) (v:Value) (mode:Int) (sum mxr:Bool) (satp kind va:Int) (w:World) (h0:0<=r.2.2.1) (h1:r.2.2.1<=18446744073709551615) (hv:0<=va) (hv':va<=18446744073709551615) (hl:0<=r.2.1) (hl':r.2.1<=2) (ho:v.oneCell'=true):
 Calls Tryz.prog 115 #[.agg #[VI r.1,VI r.2.1,VU r.2.2.1,v],io mode sum mxr satp,VI kind,VU va] w fun e w'=>e=.returned (fZ (cK r mode sum mxr kind va))∧Bw w w':=by
 obtain ⟨c,l,p,rs⟩:=r;simp only at h0 h1 hl hl' |-;unfold cK;simp only;by_cases c2:c=2
 ·subst c2;rw [if_pos rfl];unfold io;go_enter Tryz.func115,Tryz.ntmps115;go_wp2_with (go_at_call 117;refine (lV kind _).mono ?_;rintro e w' ⟨rfl,rfl⟩);exact bodyPost_ret (v:=.agg #[VI (eU kind),VU 0]) (by simp [results,Tryz.results115,go_sem]) rfl ⟨rfl,(((brf).alloc nle _).alloc (by simp) _).alloc (by simp;omega) _⟩
 rw [if_neg c2];have c2':(c == 2)=false:=by simpa using c2
 by_cases c3:c=3
 ·subst c3;rw [if_pos rfl];clear c2 c2';unfold io;go_enter Tryz.func115,Tryz.ntmps115;go_wp2_with (go_at_call 123;refine (kx kind _).mono ?_;rintro e w' ⟨rfl,rfl⟩);exact bodyPost_ret (v:=.agg #[VI (bO kind),VU 0]) (by simp [results,Tryz.results115,go_sem]) rfl ⟨rfl,(((brf).alloc nle _).alloc (by simp) _).alloc (by simp;omega) _⟩
 rw [if_neg c3];have c3':(c == 3)=false:=by simpa using c3
 clear c2 c3;obtain ⟨⟨x1,x2⟩,hX⟩:∃X,fT p l mode sum mxr kind va=X:=⟨_,rfl⟩;rw [hX];have HX:=hid hX;clear hX;obtain ⟨v1,Ev1,n1,_,_,H1,l1⟩:=al3 w #[VI c,VI l,VU p,v] #[VI mode,.bool sum,.bool mxr,VU satp] #[VI 0,VU 0] 114 110 161;unfold io;go_enter Tryz.func115,Tryz.ntmps115;go_wp2_with fail;rw [Ev1.out];clear Ev1;refine (zF p l mode sum mxr satp kind va v1 h0 h1 hv hv' (by omega) (by omega)).mono ?_;rw [HX.out];rintro e v2 ⟨rfl,n2⟩;have n12:=bst n1 n2;obtain ⟨⟨d0,d1⟩,e0,e1⟩:=mH (ae H1.out n2 l1);unfold fZ;simp only;clear n1 n2 H1;go_wp2_with fail;exact bodyPost_ret (v:=.agg #[VI x1,VU x2]) (by simp [results,Tryz.results115,go_sem,d0,d1]) rfl ⟨rfl,DF n12 (by omega) _ _⟩
theorem sI (zs:List Int) (va:Int) (h:∀i:Nat,0<=zs[i]?.getD 0∧zs[i]?.getD 0<=255):∀(l:Nat) (n:Int),l<=2->
 0<=(bu zs va l n).2.2.1∧(bu zs va l n).2.2.1<=18446744073709551615∧0<=(bu zs va l n).2.1∧(bu zs va l n).2.1<=2
 | 0,n,hl=>by
  unfold bu;have hb:=nH zs (64*n+8*da va ((0:Nat):Int)) 8 (by omega) h;split
  ·simp
  ·split
   ·simp
   ·split
    ·exact ⟨hb.1,hb.2,by simp,by simp⟩
    ·simp
 | l+1,n,hl=>by
  unfold bu;have hb:=nH zs (64*n+8*da va ((l+1:Nat):Int)) 8 (by omega) h;split
  ·exact ⟨by simp,by simp,by show (0:Int)<=((l+1:Nat):Int);omega,by show ((l+1:Nat):Int)<=2;omega⟩
  ·split
   ·exact ⟨by simp,by simp,by show (0:Int)<=((l+1:Nat):Int);omega,by show ((l+1:Nat):Int)<=2;omega⟩
   ·split
    ·exact ⟨hb.1,hb.2,by show (0:Int)<=((l+1:Nat):Int);omega,by show ((l+1:Nat):Int)<=2;omega⟩
    ·exact sI zs va h l _ (by omega)
theorem sJ (zs:List Int) (root va:Int) (h:∀i:Nat,0<=zs[i]?.getD 0∧zs[i]?.getD 0<=255):
 0<=(bD zs root va).2.2.1∧(bD zs root va).2.2.1<=18446744073709551615∧0<=(bD zs root va).2.1∧(bD zs root va).2.1<=2:=by
 unfold bD;split
 ·simp
 ·exact sI zs va h 2 _ (by omega)
theorem tL (a:Option Addr) (len cap:Nat) (zs:List Int) (mode:Int) (sum mxr:Bool) (satp kind va:Int) (w:World) (hl:len<=1048576) (hc:len<=cap) (hm:cap<=9223372036854775807) (hs0:0<=satp) (hs1:satp<=18446744073709551615) (hv0:0<=va) (hv1:va<=18446744073709551615) (hB:Byt w a len zs):
 Calls Tryz.prog 91 #[.slice a len cap,io mode sum mxr satp,VI kind,VU va] w fun e w'=>e=.returned (fZ (fP zs mode sum mxr satp kind va))∧Bw w w':=by
 by_cases hbad:kind<0∨2<kind∨mode<0∨2<mode
 ·have hp:fP zs mode sum mxr satp kind va=(63,0):=by unfold fP;rw [if_pos hbad]
  rw [hp];unfold io fZ;clear hp;rcases (show kind<0∨(0<=kind∧2<kind)∨(0<=kind∧kind<=2∧mode<0)∨(0<=kind∧kind<=2∧0<=mode∧2<mode) by omega) with h | ⟨h,h'⟩ | ⟨h,h',h''⟩ | ⟨h,h',h'',h3⟩;all_goals
   clear hbad;go_enter Tryz.func91,Tryz.ntmps91;go_wp2_with fail;exact bodyPost_ret (v:=.agg #[VI 63,VU 0]) (by simp [results,Tryz.results91,go_sem]) rfl ⟨rfl,((brf).alloc nle _).alloc (by simp) _⟩
 ·have hk0:0<=kind:=by omega
  have hk2:kind<=2:=by omega
  have hm0:0<=mode:=by omega
  have hm2:mode<=2:=by omega
  unfold fP;rw [if_neg hbad];clear hbad;cases hon:onM mode satp
  ·rw [if_pos rfl];obtain ⟨v1,Ev1,n1,H2,H1,l1⟩:=al2 w #[VI mode,.bool sum,.bool mxr,VU satp] #[VI 0,VU 0] 110 161;have HO:=hid hon;clear hon;unfold io;go_enter Tryz.func91,Tryz.ntmps91;go_wp2_with fail;rw [Ev1.out];clear Ev1;refine (vJ mode sum mxr satp v1 hs0 hs1).mono ?_;rintro e v2 ⟨rfl,n2⟩;rw [HO.out];have n12:=bst n1 n2;obtain ⟨⟨d0,d1⟩,e0,e1⟩:=mH (ae H1.out n2 l1);have H3:=hid (ae H2.out n2 (by omega));have H4:=hid (ae H1.out n2 l1);have l2:=ltl l1 n2.size;clear n1 n2 H1 H2 l1;go_wp2_with fail;exact bodyPost_ret (v:=.agg #[VI 0,VU va]) (by simp [results,Tryz.results91,go_sem,d0,d1]) rfl ⟨rfl,DF n12 (by omega) _ _⟩
  ·rw [if_neg (by simp)];obtain ⟨⟨x1,x2⟩,hX⟩:∃X,cK (bD zs satp va) mode sum mxr kind va=X:=⟨_,rfl⟩;rw [hX];have HX:=hid hX;clear hX;obtain ⟨v1,Ev1,n1,H2,H1,l1⟩:=al2 w #[VI mode,.bool sum,.bool mxr,VU satp] #[VI 0,VU 0] 110 161;have HO:=hid hon;clear hon;unfold io;go_enter Tryz.func91,Tryz.ntmps91;go_wp2_with fail;rw [Ev1.out];clear Ev1;refine (vJ mode sum mxr satp v1 hs0 hs1).mono ?_;rintro e v2 ⟨rfl,n2⟩;rw [HO.out];have n12:=bst n1 n2;obtain ⟨⟨d0,d1⟩,e0,e1⟩:=mH (ae H1.out n2 l1);have H3:=hid (ae H2.out n2 (by omega));have H4:=hid (ae H1.out n2 l1);have l2:=ltl l1 n2.size;clear n1 n2 H1 H2 l1;obtain ⟨⟨q0,q1,q2,q3⟩,_⟩:=aO H3.out;have HBy:=hid fun (v:World) (hv:Bw v2 v)=>(hB.keep n12).keep hv;have HC:Hid (∀v:World,Bw v2 v->v.cell? (AD w.heap.size 0)=some (VI mode)∧v.cell? (AD w.heap.size 1)=some (.bool sum)∧v.cell? (AD w.heap.size 2)=some (.bool mxr)∧v.cell? (AD w.heap.size 3)=some (VU satp)):=
    fun v hv=>(aO (ae H3.out hv (by omega))).1
   have hwb:=sJ zs satp va (hB.2.1);clear hB d0 d1 e0 e1;obtain ⟨W,hW⟩:∃W,bD zs satp va=W:=⟨_,rfl⟩;rw [hW] at hwb;have HW:=hid hW;clear hW;go_wp2;go_region_held3 (fun w'=>w'.cell? (AD w.heap.size 0)=some (VI mode)∧w'.cell? (AD w.heap.size 1)=some (.bool sum)∧w'.cell? (AD w.heap.size 2)=some (.bool mxr)∧w'.cell? (AD w.heap.size 3)=some (VU satp)) (go_keep)
    (first
     | (go_at_call 36;refine (oY a len cap zs satp va _ hl hc hm hs0 hs1 hv0 hv1 (HBy.out _ (brf).drew)).mono ?_;rw [HW.out];rintro e v3 ⟨⟨a3,c3,rfl,r3,na3,sp3,nc3⟩,n3⟩;have m3:Bw v2 v3:=(Below.refl v2.heap.size v2).drew.trans n3;obtain ⟨g0,g1,g2,g3⟩:=HC.out v3 m3;clear r3 na3 sp3 nc3 n3)
     | (go_at_call 115;refine (vK W (.slice a3 W.2.2.2.length c3) mode sum mxr satp kind va _ hwb.1 hwb.2.1 hv0 hv1 hwb.2.2.1 hwb.2.2.2 rfl).mono ?_;rw [<-HW.out,HX.out];unfold fZ;rintro e v4 ⟨rfl,n4⟩;have m4:Bw v2 v4:=bst m3 n4;obtain ⟨j0,j1,j2,j3⟩:=HC.out v4 m4;obtain ⟨⟨d0,d1⟩,e0,e1⟩:=mH (ae H4.out m4 l2);clear n4))
   go_wp2_with fail;exact bodyPost_ret (v:=.agg #[VI x1,VU x2]) (by simp [results,Tryz.results91,go_sem,d0,d1]) rfl ⟨rfl,DF (bst n12 m4) (by omega) _ _⟩
end
structure EntM where
 valid:Bool
 level:Int
 tag:Int
 asid:Int
 glob:Bool
 pte:Int
def cM:EntM:=⟨false,0,0,0,false,0⟩
structure TlbM where
 sets:Int
 ways:Int
 es:List EntM
def dP (va level:Int):Int:=if level=0 then va/64%512 else if level=1 then va/512%64 else va/4096%8
def zA (level:Int):Int:=if level=0 then 512 else if level=1 then 64 else 8
def qG (p:Bool):Int:=if p=true then 1 else 2
def bB (e:EntM) (p:Bool):Bool:=
 e.valid && decide (0<=e.level) && decide (e.level<=2) && decide (e.tag<zA e.level) && decide (e.asid<=65535) && (e.glob == bJ e.pte 32) && (aU e.pte e.level == qG p)
def iH (e:EntM):Prop:=
 (-9223372036854775808<=e.level∧e.level<=9223372036854775807)∧(0<=e.tag∧e.tag<=18446744073709551615)∧(0<=e.asid∧e.asid<=18446744073709551615)∧(0<=e.pte∧e.pte<=18446744073709551615)
def nY (e:EntM):List Value:=[.bool e.valid,VI e.level,VU e.tag,VU e.asid,.bool e.glob,VU e.pte]
def GO (e:EntM):Value:=.agg #[.bool e.valid,VI e.level,VU e.tag,VU e.asid,.bool e.glob,VU e.pte]
theorem sK (va level:Int) (w:World) (h0:0<=va) (h1:va<=18446744073709551615) (hl:0<=level) (hl':level<=2):
 Calls Tryz.prog 38 #[VU va,VI level] w fun e w'=>e=.returned (VU (dP va level))∧∃n,w'=w.drewN n:=by
 rcases (show level=0∨level=1∨level=2 by omega) with rfl | rfl | rfl
 ·go_enter Tryz.func38,Tryz.ntmps38;go_wp2_with fail;refine (bK va 6 14 64 512 w h0 h1 (by omega) (by omega) (by omega) (by omega) rfl rfl).mono ?_;rintro e w' ⟨rfl,nq,rfl⟩;go_wp2;go_ret;exact ⟨rfl,nq,rfl⟩
 ·go_enter Tryz.func38,Tryz.ntmps38;go_wp2_with fail;refine (bK va 9 14 512 64 w h0 h1 (by omega) (by omega) (by omega) (by omega) rfl rfl).mono ?_;rintro e w' ⟨rfl,nq,rfl⟩;go_wp2;go_ret;exact ⟨rfl,nq,rfl⟩
 ·go_enter Tryz.func38,Tryz.ntmps38;go_wp2_with fail;refine (bK va 12 14 4096 8 w h0 h1 (by omega) (by omega) (by omega) (by omega) rfl rfl).mono ?_;rintro e w' ⟨rfl,nq,rfl⟩;go_wp2;go_ret;exact ⟨rfl,nq,rfl⟩
structure Lies (v:World) where
 w:World
 h:Bw v w
theorem eF (v:World):Nonempty (Lies v):=⟨⟨v,brf⟩⟩
theorem fX {P:Program} {f:FuncId} {args:Array Value} {v:World} (u:Lies v) {x:Value} (h:Calls P f args u.w fun e w'=>e=.returned x∧Below u.w.heap.size u.w w'):
 Calls P f args u.w fun e w''=>e=.returned x∧∃u':Lies v,w''=u'.w:=
 h.mono fun e w' ⟨he,hb⟩=>⟨he,⟨w',bst u.h hb⟩,rfl⟩
theorem jZ {P:Program} {f:FuncId} {args:Array Value} {v:World} (u:Lies v) {x:Value} (h:Calls P f args u.w fun e w'=>e=.returned x∧w'=u.w):
 Calls P f args u.w fun e w''=>e=.returned x∧∃u':Lies v,w''=u'.w:=
 h.mono fun e w' ⟨he,hb⟩=>⟨he,u,hb⟩
theorem aM {v:World} {b o:Nat} {x:Value} (hc:v.cell? (AD b o)=some x) (hb:b<v.heap.size) (u:Lies v):u.w.cell? (AD b o)=some x:=Below.cell2 u.h hc hb
theorem cN {P:Program} {id:Nat} {Q:Exit->Act->World->Prop} {a:Act} {w:World} {l:List Oper} (hm:P.follows .mixedOrders=true) (hB:Region.lexB .any l.toArray=true)
 (h:wpQuiet P l.toArray (fun w'=>∃u:Lies w,w'=u.w) (fun a'=>∀w',(∃u:Lies w,w'=u.w)->Q .normal a' w') l a):(Code.region id l.toArray true).wp P Q a w:=
 wp_region_quiet (C:=fun w'=>∃u:Lies w,w'=u.w) hm hB ⟨⟨w.drew,(brf).drew⟩,rfl⟩ (by simpa using h)
section
attribute [local go_sem ↓] Go.wp_at_zero Go.wp_at_succ
def co:List EntM->List Value
 | []=>[]
 | e::r=>nY e++co r
def TlbAt (w:World) (v:Value) (t:TlbM):Prop:=
 ∃a cap,v=.agg #[VI t.sets,VI t.ways,.slice a t.es.length cap]∧RowC w a t.es.length 6 (co t.es)∧(∀e∈t.es,iH e)∧
  (-9223372036854775808<=t.sets∧t.sets<=9223372036854775807)∧(-9223372036854775808<=t.ways∧t.ways<=9223372036854775807)∧t.es.length<=1048576∧t.es.length<=cap∧cap<=9223372036854775807∧(a=none->t.es.length=0∧cap=0)∧(∀q,a=some q->q.spot=none)
theorem jl:∀es:List EntM,(co es).length=es.length*6
 | []=>rfl
 | e::r=>by simp [co,nY,jl r];omega
theorem sC:∀(es:List EntM) (i j:Nat) (hi:i<es.length),j<6->(co es)[i*6+j]?=(nY es[i])[j]?
 | e::r,0,j,hi,hj=>by
  simp only [co,List.getElem_cons_zero,Nat.zero_mul,Nat.zero_add];rw [List.getElem?_append_left (by simp [nY];exact hj)]
 | e::r,i+1,j,hi,hj=>by
  simp only [co,List.getElem_cons_succ];rw [List.getElem?_append_right (by simp [nY];omega)];have:(i+1)*6+j-(nY e).length=i*6+j:=by simp [nY];omega
  rw [this];exact sC r i j (by simpa using hi) hj
def kN (t:TlbM):Bool:=decide ((t.sets=1∨t.sets=2∨t.sets=4∨t.sets=8)∧1<=t.ways∧t.ways<=4∧(t.es.length:Int)=t.sets*t.ways)
def dh (t:TlbM) (p:Bool) (i:Nat) (e:EntM):Bool:=
 (e.valid == false && e.level == 0 && e.tag == 0 && e.asid == 0 && e.glob == false && e.pte == 0) || (bB e p && (e.tag%t.sets == (i:Int)/t.ways))
def iA (t:TlbM) (p:Bool):Nat->List EntM->Bool
 | _,[]=>true
 | i,e::r=>dh t p i e && iA t p (i+1) r
def aY (t:TlbM) (p:Bool):Bool:=kN t && iA t p 0 t.es
theorem gP (t:TlbM) (p:Bool):∀(es:List EntM) (i:Nat),(∀j x,es[j]?=some x->dh t p (i+j) x=true)->iA t p i es=true
 | [],i,h=>rfl
 | e::r,i,h=>by
  simp only [iA,Bool.and_eq_true];refine ⟨by simpa using h 0 e rfl,gP t p r (i+1) (fun j x hx=>?_)⟩;have:=h (j+1) x (by simpa using hx);rw [show i+1+j=i+(j+1) by omega];exact this
theorem jV (t:TlbM) (p:Bool):∀(es:List EntM) (i j:Nat) (x:EntM),es[j]?=some x->dh t p (i+j) x=false->iA t p i es=false
 | e::r,i,0,x,hx,h=>by
  simp at hx;subst hx;simp only [iA,Nat.add_zero] at h |-;rw [h];rfl
 | e::r,i,j+1,x,hx,h=>by
  simp only [iA];rw [jV t p r (i+1) j x (by simpa using hx) (by rw [show i+1+j=i+(j+1) by omega];exact h),Bool.and_false]
theorem DA {w:World} {b off n:Nat} {es:List EntM} (h:RowC w (some (AD b off)) n 6 (co es)) (hn:es.length=n) (k:Nat) (x:EntM) (hx:es[k]?=some x) (j:Nat) (v:Value) (hj:j<6) (hv:(nY x)[j]?=some v):
 w.cell? ⟨b,off+(k*6+j),none⟩=some v:=by
 have hk:=(List.getElem?_eq_some_iff.1 hx).1;rcases h.2 with h0 | ⟨b',off',e,_,hc⟩
 ·omega
 ·simp at e;obtain ⟨rfl,rfl⟩:=e;refine hc _ _ ?_;rw [sC es k j hk hj];rw [geg hk] at hx;simp at hx;rw [hx];exact hv
end
section
attribute [local go_sem ↓] Go.wp_at_zero Go.wp_at_succ
theorem TlbAt.keep {w w':World} {v:Value} {t:TlbM} (h:TlbAt w v t) (hb:Bw w w'):TlbAt w' v t:=by
 obtain ⟨a,cap,rfl,hr,r⟩:=h;exact ⟨a,cap,rfl,hr.keep hb,r⟩
def iY (t:TlbM):Bool:=aY t true || aY t false
def ko (x:EntM) (va asid:Int):Bool:=x.valid && (x.tag == dP va x.level) && (x.glob || x.asid == asid)
end
end Go.Proofs.YthdgiakgepmabaaGreat
