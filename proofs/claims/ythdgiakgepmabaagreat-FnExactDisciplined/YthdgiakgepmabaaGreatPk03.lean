import Derived.Deep.RegionLaw
import Derived.Test.YthdgiakgepmabaaGreatPk02
namespace Go.Proofs.YthdgiakgepmabaaGreat
open Go.RowKit
set_option linter.unusedVariables false
set_option maxHeartbeats 6400000
set_option maxRecDepth 20000
def tR (r:aD):List Value:=[VI r.1,VU r.2.1,VU r.2.2]
def bu:List aD->List Value
 | []=>[]
 | r::rs=>tR r++bu rs
theorem FI:∀rs:List aD,(bu rs).length=rs.length*3
 | []=>rfl
 | r::rs=>by simp [bu,tR,FI rs];omega
theorem kV:∀rs:List aD,∀u∈bu rs,u.oneCell'=true
 | [],u,h=>by simp [bu] at h
 | r::rs,u,h=>by
  simp only [bu,List.mem_append] at h;rcases h with h | h
  ·simp [tR] at h;rcases h with rfl | rfl | rfl <;> rfl
  ·exact kV rs u h
theorem aO {w:World} {g:Nat} {T:TypeId} {a b c d:Value} (h:w.heap[g]?=some (.cells #[a,b,c,d] T (0,0))):
 (w.cell? (AD g 0)=some a∧w.cell? (AD g 1)=some b∧w.cell? (AD g 2)=some c∧w.cell? (AD g 3)=some d)∧
 (w.frozen? (AD g 0)=false∧w.frozen? (AD g 1)=false∧w.frozen? (AD g 2)=false∧w.frozen? (AD g 3)=false):=by
 simp [World.cell?,World.frozen?,h]
theorem CL (va level:Int) (w:World) (h0:0<=va) (h1:va<=18446744073709551615) (hl:0<=level) (hl':level<=2):
 Calls Tryz.prog 99 #[VU va,VI level] w fun e w'=>e=.returned (VU (vZ va level))∧∃n,w'=w.drewN n:=by
 rcases (show level=0∨level=1∨level=2 by omega) with rfl | rfl | rfl
 ·go_enter Tryz.func99,Tryz.ntmps99;go_wp2_with fail;refine (en va 6 8 64 8 w h0 h1 (by omega) (by omega) (by omega) (by omega) rfl rfl).mono ?_;rintro e w' ⟨rfl,nq,rfl⟩;go_wp2;go_ret;exact ⟨rfl,nq,rfl⟩
 ·go_enter Tryz.func99,Tryz.ntmps99;go_wp2_with fail;refine (en va 9 11 512 8 w h0 h1 (by omega) (by omega) (by omega) (by omega) rfl rfl).mono ?_;rintro e w' ⟨rfl,nq,rfl⟩;go_wp2;go_ret;exact ⟨rfl,nq,rfl⟩
 ·go_enter Tryz.func99,Tryz.ntmps99;go_wp2_with fail;refine (en va 12 14 4096 8 w h0 h1 (by omega) (by omega) (by omega) (by omega) rfl rfl).mono ?_;rintro e w' ⟨rfl,nq,rfl⟩;go_wp2;go_ret;exact ⟨rfl,nq,rfl⟩
theorem Tryz.infoRec:(Tryz.prog.info? 118).map (fun i=>(i.zero,i.size,i.bytes))=some (some (.agg #[VI 0,VU 0,VU 0]),3,24):=by kernel_rfl
theorem FJ (l a v:Int) (w:World):
 Calls Tryz.prog 100 #[VI l,VU a,VU v] w fun e w'=>
  e=.returned (SL w.heap.size 1 1)∧w'=w.alloc (.cells #[VI l,VU a,VU v] 118):=by
 go_enter Tryz.func100,Tryz.ntmps100;go_wp2;go_ret;exact ⟨rfl,rfl⟩
theorem uH (va level:Int):0<=vZ va level∧vZ va level<=7:=by
 unfold vZ;split
 ·omega
 ·split <;> omega
theorem nj (zs:List Int) (a n:Int) (hn:n<=8) (h:∀i:Nat,0<=zs[i]?.getD 0∧zs[i]?.getD 0<=255):0<=rdV zs a n∧rdV zs a n<=18446744073709551615:=by
 unfold rdV;split
 ·have:=eW zs a.toNat n.toNat h;have hp:(256:Int)^n.toNat<=18446744073709551616:=by
   rcases (show n.toNat=0∨n.toNat=1∨n.toNat=2∨n.toNat=3∨n.toNat=4∨n.toNat=5∨n.toNat=6∨n.toNat=7∨n.toNat=8 by omega) with h | h | h | h | h | h | h | h | h <;> rw [h] <;> decide
  omega
 ·omega
theorem I9 {v:World} {p:Nat} {T:TypeId} {a b c d u:Value} (h:v.heap[p]?=some (.cells #[a,b,c,d] T (0,0))):(v.setCell (AD p 3) u).heap[p]?=some (.cells #[a,b,c,u] T (0,0)):=by
 simp [World.setCell,Array.getElem?_modify,h]
theorem gb4 (v:World) (g:Nat) (x y z u:Value):v.grownBy ((((v.setCell (AD g 0) x).setCell (AD g 1) y).setCell (AD g 2) z).setCell (AD g 3) u) (some g):=
 aj (aj (aj (aj (cC v (some g)) 0 x) 1 y) 2 z) 3 u
theorem DY {B:Nat} {a w:World} {g:Nat} (h:Below B a w) (hg:B<=g) (x y z u:Value):Below B a ((((w.setCell (AD g 0) x).setCell (AD g 1) y).setCell (AD g 2) z).setCell (AD g 3) u):=
 (((h.setCell (p:=(AD g 0)) hg x).setCell (p:=(AD g 1)) hg y).setCell (p:=(AD g 2)) hg z).setCell (p:=(AD g 3)) hg u
theorem IL (V:World) (g:Nat) (hg:V.heap.size=g) (e:TypeId) (n size:Nat) (cs:List Value) (hn:cs.length=n*size) (hm:n<=maxLen):RowC (V.alloc (.cells cs.toArray e)).drew (some (AD g 0)) n size cs:=by
 subst hg;exact (OwnC.new e size V cs n hn hm).row
def Df (base:Nat) (w':World) (e:Ending) (r:Int × Int × Int × List aD):Prop:=
 ∃a cap,e=.returned (.agg #[VI r.1,VI r.2.1,VU r.2.2.1,.slice a r.2.2.2.length cap])∧RowC w' a r.2.2.2.length 3 (bu r.2.2.2)∧
  (a=none->r.2.2.2.length=0∧cap=0)∧(∀q,a=some q->q.spot=none∧base<=q.block)∧r.2.2.2.length<=cap
theorem uI (x:Int):0<=cx x∧cx x<17592186044416:=⟨Int.emod_nonneg _ (by omega),Int.emod_lt_of_pos _ (by omega)⟩
theorem Do (p l:Int):aV p l=0∨aV p l=1∨aV p l=2:=by
 unfold aV;split
 ·exact .inl rfl
 ·split
  ·split
   ·exact .inl rfl
   ·exact .inr (.inl rfl)
  ·split
   ·exact .inl rfl
   ·exact .inr (.inr rfl)
theorem ie (p:Int):aV p 0≠1:=by
 unfold aV;split
 ·simp
 ·split
  ·simp
  ·split <;> simp
theorem ag {B:Nat} {w w':World} {g:Nat} {o:Obj} (h:w.heap[g]?=some o) (hb:Below B w w') (hg:g<B):w'.heap[g]?=some o:=by rw [hb.block g hg,h]
theorem EJ (a:Option Addr) (len cap:Nat) (zs:List Int) (va lv n ix rv:Int) (w:World) (hl:len<=1048576) (hc:len<=cap) (hm:cap<=9223372036854775807) (hv0:0<=va) (hv1:va<=18446744073709551615)
 (h0:0<=lv) (h2:lv<=2) (hn0:0<=n) (hn1:n<17592186044416) (hB:Byt w a len zs) (hix:Hid (vZ va lv=ix)) (hib:0<=ix∧ix<=7) (hrv:Hid (rdV zs (64*n+8*ix) 8=rv)) (hrb:0<=rv∧rv<=18446744073709551615)
 (hg:Hid (dL len (64*n+8*ix) 8=false)):
 Calls Tryz.prog 71 #[.slice a len cap,VU n,VI lv,VU va] w fun e w'=>Df w.heap.size w' e (3,lv,0,[])∧Bw w w':=by
 have hz:=hB.1;obtain ⟨v1,Ev1,n1,H8,l1⟩:=al1 w #[VI 0,VI 0,VU 0,SN] 114;go_enter Tryz.func71,Tryz.ntmps71;go_wp2_with fail;rw [Ev1.out];clear Ev1;refine (CL va lv v1 hv0 hv1 h0 h2).mono ?_;rintro e w' ⟨rfl,nq,rfl⟩;rw [hix.out];have n2:=below_drewN n1 nq;have H9:Hid ((v1.drewN nq).heap[w.heap.size]?=some (.cells #[VI 0,VI 0,VU 0,SN] 114 (0,0))):=H8;have l2:w.heap.size<(v1.drewN nq).heap.size:=l1;generalize v1.drewN nq=v2 at n2 H9 l2 |-;clear H8 l1 n1;go_wp2_with fail;refine (BY a len cap zs (64*n+8*ix) 8 v2 (hB.keep n2) hl hc hm (by omega) (by omega) (by omega)).mono ?_;rintro e v3 ⟨rfl,n3⟩;rw [hrv.out,hg.out];have n13:=bst n2 n3;have H10:Hid (v3.heap[w.heap.size]?=some (.cells #[VI 0,VI 0,VU 0,SN] 114 (0,0))):=ag H9.out n3 l2;have l3:w.heap.size<v3.heap.size:=ltl l2 n3.size;clear H9 n2 n3 l2;obtain ⟨⟨d0,d1,d2,d3⟩,e0,e1,e2,e3⟩:=aO H10.out;go_wp2_with fail;refine bodyPost_ret (v:=.agg #[VI 3,VI lv,VU 0,SN]) (by simp [results,Tryz.results71,go_sem,d0,d1,d2,d3,l3]) rfl ⟨⟨none,0,rfl,RowC.nil _ _ _,fun _=>⟨rfl,rfl⟩,(by intro q hq;cases hq),Nat.zero_le _⟩,?_⟩;exact (DY n13 nle _ _ _ _).alloc (by simpa [World.setCell] using n13.size) _
theorem EK (a:Option Addr) (len cap:Nat) (zs:List Int) (va lv n ix rv:Int) (w:World) (hl:len<=1048576) (hc:len<=cap) (hm:cap<=9223372036854775807) (hv0:0<=va) (hv1:va<=18446744073709551615)
 (h0:0<=lv) (h2:lv<=2) (hn0:0<=n) (hn1:n<17592186044416) (hB:Byt w a len zs) (hix:Hid (vZ va lv=ix)) (hib:0<=ix∧ix<=7) (hrv:Hid (rdV zs (64*n+8*ix) 8=rv)) (hrb:0<=rv∧rv<=18446744073709551615)
 (hg:Hid (dL len (64*n+8*ix) 8=true)) (hk:Hid (aV rv lv=0)):
 Calls Tryz.prog 71 #[.slice a len cap,VU n,VI lv,VU va] w fun e w'=>Df w.heap.size w' e (2,lv,0,[])∧Bw w w':=by
 have hz:=hB.1;obtain ⟨v1,Ev1,n1,H8,l1⟩:=al1 w #[VI 0,VI 0,VU 0,SN] 114;go_enter Tryz.func71,Tryz.ntmps71;go_wp2_with fail;rw [Ev1.out];clear Ev1;refine (CL va lv v1 hv0 hv1 h0 h2).mono ?_;rintro e w' ⟨rfl,nq,rfl⟩;rw [hix.out];have n2:=below_drewN n1 nq;have H9:Hid ((v1.drewN nq).heap[w.heap.size]?=some (.cells #[VI 0,VI 0,VU 0,SN] 114 (0,0))):=H8;have l2:w.heap.size<(v1.drewN nq).heap.size:=l1;generalize v1.drewN nq=v2 at n2 H9 l2 |-;clear H8 l1 n1;go_wp2_with fail;refine (BY a len cap zs (64*n+8*ix) 8 v2 (hB.keep n2) hl hc hm (by omega) (by omega) (by omega)).mono ?_;rintro e v3 ⟨rfl,n3⟩;rw [hrv.out,hg.out];have n13:=bst n2 n3;have H10:Hid (v3.heap[w.heap.size]?=some (.cells #[VI 0,VI 0,VU 0,SN] 114 (0,0))):=ag H9.out n3 l2;have l3:w.heap.size<v3.heap.size:=ltl l2 n3.size;clear H9 n2 n3 l2;go_wp2_with fail;have a4:=BN v3 #[Value.bool true,VU rv] 165;generalize v3.alloc (Obj.cells #[Value.bool true,VU rv] 165)=v4 at a4 |-;obtain ⟨l4,c4,n4⟩:=a4;have c41:v4.cell? (AD v3.heap.size 1)=some (VU rv):=c4 1;have n14:=bst n13 n4;have H11:Hid (v4.heap[w.heap.size]?=some (.cells #[VI 0,VI 0,VU 0,SN] 114 (0,0))):=ag H10.out n4 l3;clear c4 n13 n4 H10;refine (BD rv lv v4 hrb.1 hrb.2 (by omega) (by omega)).mono ?_;rintro e w' ⟨rfl,nk,rfl⟩;rw [hk.out];have n15:Bw w (v4.drewN nk):=below_drewN n14 nk;have c51:(v4.drewN nk).cell? (AD v3.heap.size 1)=some (VU rv):=c41;have H12:Hid ((v4.drewN nk).heap[w.heap.size]?=some (.cells #[VI 0,VI 0,VU 0,SN] 114 (0,0))):=H11;have l5:v3.heap.size<(v4.drewN nk).heap.size:=l4;generalize v4.drewN nk=v5 at n15 c51 H12 l5 |-;clear n14 c41 H11 l4;obtain ⟨⟨d0,d1,d2,d3⟩,e0,e1,e2,e3⟩:=aO H12.out;go_wp2_with fail;refine bodyPost_ret (v:=.agg #[VI 2,VI lv,VU 0,SN]) (by simp [results,Tryz.results71,go_sem,d0,d1,d2,d3]) rfl ⟨⟨none,0,rfl,RowC.nil _ _ _,fun _=>⟨rfl,rfl⟩,(by intro q hq;cases hq),Nat.zero_le _⟩,?_⟩;exact DY n15 nle _ _ _ _
theorem Ep (a:Option Addr) (len cap:Nat) (zs:List Int) (va lv n ix rv:Int) (w:World) (hl:len<=1048576) (hc:len<=cap) (hm:cap<=9223372036854775807) (hv0:0<=va) (hv1:va<=18446744073709551615)
 (h0:0<=lv) (h2:lv<=2) (hn0:0<=n) (hn1:n<17592186044416) (hB:Byt w a len zs) (hix:Hid (vZ va lv=ix)) (hib:0<=ix∧ix<=7) (hrv:Hid (rdV zs (64*n+8*ix) 8=rv)) (hrb:0<=rv∧rv<=18446744073709551615)
 (hg:Hid (dL len (64*n+8*ix) 8=true)) (hk:Hid (aV rv lv=2)):
 Calls Tryz.prog 71 #[.slice a len cap,VU n,VI lv,VU va] w fun e w'=>Df w.heap.size w' e (1,lv,rv,[(lv,64*n+8*ix,rv)])∧Bw w w':=by
 have hz:=hB.1;obtain ⟨v1,Ev1,n1,H8,l1⟩:=al1 w #[VI 0,VI 0,VU 0,SN] 114;go_enter Tryz.func71,Tryz.ntmps71;go_wp2_with fail;rw [Ev1.out];clear Ev1;refine (CL va lv v1 hv0 hv1 h0 h2).mono ?_;rintro e w' ⟨rfl,nq,rfl⟩;rw [hix.out];have n2:=below_drewN n1 nq;have H9:Hid ((v1.drewN nq).heap[w.heap.size]?=some (.cells #[VI 0,VI 0,VU 0,SN] 114 (0,0))):=H8;have l2:w.heap.size<(v1.drewN nq).heap.size:=l1;generalize v1.drewN nq=v2 at n2 H9 l2 |-;clear H8 l1 n1;go_wp2_with fail;refine (BY a len cap zs (64*n+8*ix) 8 v2 (hB.keep n2) hl hc hm (by omega) (by omega) (by omega)).mono ?_;rintro e v3 ⟨rfl,n3⟩;rw [hrv.out,hg.out];have n13:=bst n2 n3;have H10:Hid (v3.heap[w.heap.size]?=some (.cells #[VI 0,VI 0,VU 0,SN] 114 (0,0))):=ag H9.out n3 l2;have l3:w.heap.size<v3.heap.size:=ltl l2 n3.size;clear H9 n2 n3 l2;go_wp2_with fail;have a4:=BN v3 #[Value.bool true,VU rv] 165;generalize v3.alloc (Obj.cells #[Value.bool true,VU rv] 165)=v4 at a4 |-;obtain ⟨l4,c4,n4⟩:=a4;have c41:v4.cell? (AD v3.heap.size 1)=some (VU rv):=c4 1;have n14:=bst n13 n4;have H11:Hid (v4.heap[w.heap.size]?=some (.cells #[VI 0,VI 0,VU 0,SN] 114 (0,0))):=ag H10.out n4 l3;clear c4 n13 n4 H10;refine (BD rv lv v4 hrb.1 hrb.2 (by omega) (by omega)).mono ?_;rintro e w' ⟨rfl,nk,rfl⟩;rw [hk.out];have n15:Bw w (v4.drewN nk):=below_drewN n14 nk;have c51:(v4.drewN nk).cell? (AD v3.heap.size 1)=some (VU rv):=c41;have H12:Hid ((v4.drewN nk).heap[w.heap.size]?=some (.cells #[VI 0,VI 0,VU 0,SN] 114 (0,0))):=H11;have l5:v3.heap.size<(v4.drewN nk).heap.size:=l4;generalize v4.drewN nk=v5 at n15 c51 H12 l5 |-;clear n14 c41 H11 l4;obtain ⟨⟨d0,d1,d2,d3⟩,e0,e1,e2,e3⟩:=aO H12.out;have l6:w.heap.size<v5.heap.size:=Nat.lt_trans l3 l5;have ne1:v5.heap.size≠v3.heap.size:=by omega
 have ne2:w.heap.size≠v3.heap.size:=by omega
 have ne3:v3.heap.size≠w.heap.size:=by omega
 go_wp2;go_region_held3 (fun w'=>w'.cell? (AD v3.heap.size 1)=some (VU rv)) (go_keep)
  (first | (go_at_call 100;refine (FJ _ _ _ _).mono ?_;rintro e w' ⟨rfl,rfl⟩))
 go_wp2_with fail;refine bodyPost_ret (v:=.agg #[VI 1,VI lv,VU rv,SL v5.heap.size 1 1]) (by simp [results,Tryz.results71,go_sem,d0,d1,d2,d3,l6]) rfl
  ⟨⟨some (AD v5.heap.size 0),1,rfl,IL _ _ (by simp [World.setCell]) _ 1 3 (bu [(lv,64*n+8*ix,rv)]) (FI _) (by decide),(by intro h;cases h),(by intro q hq;cases hq;exact ⟨rfl,Nat.le_of_lt l6⟩),nle⟩,?_⟩
 exact ((DY n15 nle _ _ _ _).alloc (by simpa [World.setCell] using n15.size) _).drew
theorem Gp (a:Option Addr) (len cap:Nat) (zs:List Int) (va lv n ix rv:Int) (w:World) (hl:len<=1048576) (hc:len<=cap) (hm:cap<=9223372036854775807) (hv0:0<=va) (hv1:va<=18446744073709551615)
 (h0:0<=lv) (h2:lv<=2) (hn0:0<=n) (hn1:n<17592186044416) (hB:Byt w a len zs) (hix:Hid (vZ va lv=ix)) (hib:0<=ix∧ix<=7) (hrv:Hid (rdV zs (64*n+8*ix) 8=rv)) (hrb:0<=rv∧rv<=18446744073709551615)
 (hg:Hid (dL len (64*n+8*ix) 8=true)) (hk:Hid (aV rv lv=1)) (NX:Int × Int × Int × List aD) (hlen:NX.2.2.2.length<=2) (h1:1<=lv)
 (hnx:Hid (∀w':World,Byt w' a len zs->
   Calls Tryz.prog 71 #[.slice a len cap,VU (cx rv),VI (lv-1),VU va] w' fun e w''=>Df w'.heap.size w'' e NX∧Bw w' w'')):
 Calls Tryz.prog 71 #[.slice a len cap,VU n,VI lv,VU va] w fun e w'=>
  Df w.heap.size w' e (NX.1,NX.2.1,NX.2.2.1,(lv,64*n+8*ix,rv)::NX.2.2.2)∧Bw w w':=by
 have hz:=hB.1;obtain ⟨v1,Ev1,n1,H8,l1⟩:=al1 w #[VI 0,VI 0,VU 0,SN] 114;go_enter Tryz.func71,Tryz.ntmps71;go_wp2_with fail;rw [Ev1.out];clear Ev1;refine (CL va lv v1 hv0 hv1 h0 h2).mono ?_;rintro e w' ⟨rfl,nq,rfl⟩;rw [hix.out];have n2:=below_drewN n1 nq;have H9:Hid ((v1.drewN nq).heap[w.heap.size]?=some (.cells #[VI 0,VI 0,VU 0,SN] 114 (0,0))):=H8;have l2:w.heap.size<(v1.drewN nq).heap.size:=l1;generalize v1.drewN nq=v2 at n2 H9 l2 |-;clear H8 l1 n1;go_wp2_with fail;refine (BY a len cap zs (64*n+8*ix) 8 v2 (hB.keep n2) hl hc hm (by omega) (by omega) (by omega)).mono ?_;rintro e v3 ⟨rfl,n3⟩;rw [hrv.out,hg.out];have n13:=bst n2 n3;have H10:Hid (v3.heap[w.heap.size]?=some (.cells #[VI 0,VI 0,VU 0,SN] 114 (0,0))):=ag H9.out n3 l2;have l3:w.heap.size<v3.heap.size:=ltl l2 n3.size;clear H9 n2 n3 l2;go_wp2_with fail;have a4:=BN v3 #[Value.bool true,VU rv] 165;generalize v3.alloc (Obj.cells #[Value.bool true,VU rv] 165)=v4 at a4 |-;obtain ⟨l4,c4,n4⟩:=a4;have c41:v4.cell? (AD v3.heap.size 1)=some (VU rv):=c4 1;have n14:=bst n13 n4;have H11:Hid (v4.heap[w.heap.size]?=some (.cells #[VI 0,VI 0,VU 0,SN] 114 (0,0))):=ag H10.out n4 l3;clear c4 n13 n4 H10;refine (BD rv lv v4 hrb.1 hrb.2 (by omega) (by omega)).mono ?_;rintro e w' ⟨rfl,nk,rfl⟩;rw [hk.out];have n15:Bw w (v4.drewN nk):=below_drewN n14 nk;have c51:(v4.drewN nk).cell? (AD v3.heap.size 1)=some (VU rv):=c41;have H12:Hid ((v4.drewN nk).heap[w.heap.size]?=some (.cells #[VI 0,VI 0,VU 0,SN] 114 (0,0))):=H11;have l5:v3.heap.size<(v4.drewN nk).heap.size:=l4;generalize v4.drewN nk=v5 at n15 c51 H12 l5 |-;clear n14 c41 H11 l4;go_wp2_with fail;refine (sp rv v5 hrb.1 hrb.2).mono ?_;rintro e w' ⟨rfl,np,rfl⟩;have n16:Bw w (v5.drewN np):=below_drewN n15 np;have c61:(v5.drewN np).cell? (AD v3.heap.size 1)=some (VU rv):=c51;have H13:Hid ((v5.drewN np).heap[w.heap.size]?=some (.cells #[VI 0,VI 0,VU 0,SN] 114 (0,0))):=H12;have l6:v3.heap.size<(v5.drewN np).heap.size:=l5;generalize v5.drewN np=v6 at n16 c61 H13 l6 |-;clear n15 c51 H12 l5;go_wp2_with fail;refine (hnx.out v6 (hB.keep n16)).mono ?_;rintro e v7 ⟨⟨a7,c7,rfl,r7,na7,sp7,nc7⟩,n7⟩;obtain ⟨x1,x2,x3,rs⟩:=NX;simp only at r7 na7 nc7 hlen |-;have n17:=bst n16 n7;have c71:=Below.cell2 n7 c61 l6;have H14:Hid (v7.heap[w.heap.size]?=some (.cells #[VI 0,VI 0,VU 0,SN] 114 (0,0))):=ag H13.out n7 (by omega);have l7:v3.heap.size<v7.heap.size:=ltl l6 n7.size;clear n16 n7 c61 H13 l6;have l8:w.heap.size<v7.heap.size:=Nat.lt_trans l3 l7;go_wp2_with fail;obtain ⟨v8,Ev8,n8,H15,l9⟩:=al1 v7 #[VI x1,VI x2,VU x3,Value.slice a7 rs.length c7] 114;rw [Ev8.out];clear Ev8;have n18:=bst n17 n8;have c81:=Below.cell2 n8 c71 l7;have H16:Hid (v8.heap[w.heap.size]?=some (.cells #[VI 0,VI 0,VU 0,SN] 114 (0,0))):=ag H14.out n8 l8;have HR:Hid (RowC v8 a7 rs.length 3 (bu rs)):=r7.keep n8;have HN:Hid (a7=none->rs.length=0∧c7=0):=na7;have HSp:Hid (∀q,a7=some q->q.spot=none∧v6.heap.size<=q.block):=sp7;clear r7 na7 sp7 n17 n8 c71 H14;have q3:=(aO H15.out).1.2.2.2;have p3:=(aO H15.out).2.2.2.2;have ne1:v8.heap.size≠v3.heap.size:=by omega
 have ne2:v8.heap.size≠v7.heap.size:=by omega
 have ne4:v7.heap.size≠v8.heap.size:=by omega
 go_region_law (first
  | (refine Dy _ (by rfl) (.tmp 59) (.tmp 61) 112 (by rfl) 118 Tryz.underlying112 (.agg #[VI 0,VU 0,VU 0]) 3 24 Tryz.infoRec (by rfl) (by decide) v8.heap.size v8.heap.size 1 1 (bu [(lv,64*n+8*ix,rv)]) (by rfl) (OwnC.new 118 3 v8.drew (bu [(lv,64*n+8*ix,rv)]) 1 (by rfl) (by decide)) a7 rs.length c7 (bu rs) (by rfl) HN.out (fun q hq=>(HSp.out q hq).1) (RowC.keep (w:=v8) HR.out ((brf).drew.alloc nle _)) (kV rs) (by omega) (by omega) v8.heap.size v8 ((brf).drew.alloc nle _) nle ?_;intro g9 c9 v9 o9 n9;have q9:=Below.cell2 n9 q3 l9;have p9:=Below.froz2 n9 p3 l9)
  | (go_simp;go_at_call 100;refine (FJ _ _ _ _).mono ?_;rintro e w' ⟨rfl,rfl⟩))
 all_goals
  have k9:=ag H15.out n9 l9;have k9':=I9 (u:=SL g9 (1+rs.length) c9) k9;have m9:=aj (cC v9 (some v7.heap.size)) 3 (SL g9 (1+rs.length) c9);have f9:=o9.facts;have n19:Bw w v9:=bst n18 n9;have n110:=Below.gb n19 m9 (by omega) (ltl l9 n9.size);have b9:=aq (ag H16.out n9 (by omega)) m9 (by omega);have r9:=o9.row.gb m9 (by omega);generalize v9.setCell (AD v7.heap.size 3) (SL g9 (1+rs.length) c9)=v10 at k9' m9 n110 b9 r9 |-;obtain ⟨⟨d0,d1,d2,d3⟩,e0,e1,e2,e3⟩:=aO b9;obtain ⟨⟨t0,t1,t2,t3⟩,_⟩:=aO k9';have HR9:Hid (RowC v10 (some (AD g9 0)) (1+rs.length) 3 (bu [(lv,64*n+8*ix,rv)]++bu rs)):=r9;clear k9 k9' m9 q9 p9 o9 n9 n19 b9 r9 q3 p3 c81;go_wp2_with fail;refine bodyPost_ret (v:=.agg #[VI x1,VI x2,VU x3,SL g9 (1+rs.length) c9]) (by simp [results,Tryz.results71,go_sem,d0,d1,d2,d3]) rfl ?_;have e10:1+rs.length=rs.length+1:=Nat.add_comm _ _;rw [e10] at HR9 f9 |-;exact ⟨⟨some (AD g9 0),c9,rfl,RowC.gb HR9.out (gb4 v10 w.heap.size _ _ _ _) (by omega),(by intro h;cases h),(by intro q hq;cases hq;exact ⟨rfl,by show w.heap.size<=g9;omega⟩),f9.2.2.2.1⟩,DY n110 nle _ _ _ _⟩
theorem li (zs:List Int) (va:Int):∀(l:Nat) (n:Int),(aN zs va l n).2.2.2.length<=l+1
 | 0,n=>by
  unfold aN;split
  ·simp
  ·split
   ·simp
   ·split <;> simp
 | l+1,n=>by
  unfold aN;split
  ·simp
  ·split
   ·simp
   ·split
    ·simp
    ·have:=li zs va l (cx (rdV zs (64*n+8*vZ va ((l+1:Nat):Int)) 8));simp only [List.length_cons];omega
theorem Fb (a:Option Addr) (len cap:Nat) (zs:List Int) (va:Int) (hl:len<=1048576) (hc:len<=cap) (hm:cap<=9223372036854775807) (hv0:0<=va) (hv1:va<=18446744073709551615) (l:Nat):
 ∀(n lv:Int) (w:World),lv=l->l<=2->0<=n->n<17592186044416->Byt w a len zs->
 Calls Tryz.prog 71 #[.slice a len cap,VU n,VI lv,VU va] w fun e w'=>Df w.heap.size w' e (aN zs va l n)∧Bw w w':=by
 induction l with
 | zero=>
  intro n lv w e hl2 hn0 hn1 hB;subst e;have hz:=hB.1;have hib:=uH va ((0:Nat):Int);have hrb:=nj zs (64*n+8*vZ va ((0:Nat):Int)) 8 (by omega) hB.2.1;unfold aN;rw [hz];cases hg:dL len (64*n+8*vZ va ((0:Nat):Int)) 8
  ·rw [if_pos rfl];exact EJ a len cap zs va _ n _ _ w hl hc hm hv0 hv1 (by omega) (by omega) hn0 hn1 hB rfl hib rfl hrb hg
  ·rw [if_neg (by simp)];rcases Do (rdV zs (64*n+8*vZ va ((0:Nat):Int)) 8) ((0:Nat):Int) with hk | hk | hk
   ·rw [if_pos hk];exact EK a len cap zs va _ n _ _ w hl hc hm hv0 hv1 (by omega) (by omega) hn0 hn1 hB rfl hib rfl hrb hg hk
   ·exact absurd hk (ie _)
   ·rw [if_neg (by rw [hk];decide),if_pos hk];exact Ep a len cap zs va _ n _ _ w hl hc hm hv0 hv1 (by omega) (by omega) hn0 hn1 hB rfl hib rfl hrb hg hk
 | succ l ih=>
  intro n lv w e hl2 hn0 hn1 hB;subst e;have hz:=hB.1;have hib:=uH va ((l+1:Nat):Int);have hrb:=nj zs (64*n+8*vZ va ((l+1:Nat):Int)) 8 (by omega) hB.2.1;unfold aN;rw [hz];cases hg:dL len (64*n+8*vZ va ((l+1:Nat):Int)) 8
  ·rw [if_pos rfl];exact EJ a len cap zs va _ n _ _ w hl hc hm hv0 hv1 (by omega) (by omega) hn0 hn1 hB rfl hib rfl hrb hg
  ·rw [if_neg (by simp)];rcases Do (rdV zs (64*n+8*vZ va ((l+1:Nat):Int)) 8) ((l+1:Nat):Int) with hk | hk | hk
   ·rw [if_pos hk];exact EK a len cap zs va _ n _ _ w hl hc hm hv0 hv1 (by omega) (by omega) hn0 hn1 hB rfl hib rfl hrb hg hk
   ·rw [if_neg (by rw [hk];decide),if_neg (by rw [hk];decide)];have hp:=uI (rdV zs (64*n+8*vZ va ((l+1:Nat):Int)) 8);exact Gp a len cap zs va _ n _ _ w hl hc hm hv0 hv1 (by omega) (by omega) hn0 hn1 hB rfl hib rfl hrb hg hk
     (aN zs va l (cx (rdV zs (64*n+8*vZ va ((l+1:Nat):Int)) 8))) (by have:=li zs va l (cx (rdV zs (64*n+8*vZ va ((l+1:Nat):Int)) 8));omega) (by omega)
     (fun w' hB'=>ih _ _ w' (by omega) (by omega) hp.1 hp.2 hB')
   ·rw [if_neg (by rw [hk];decide),if_pos hk];exact Ep a len cap zs va _ n _ _ w hl hc hm hv0 hv1 (by omega) (by omega) hn0 hn1 hB rfl hib rfl hrb hg hk
theorem CR (a:Option Addr) (len cap:Nat) (zs:List Int) (root va:Int) (w:World) (hl:len<=1048576) (hc:len<=cap) (hm:cap<=9223372036854775807) (hr0:0<=root) (hr1:root<=18446744073709551615) (hv0:0<=va) (hv1:va<=18446744073709551615) (hB:Byt w a len zs):
 Calls Tryz.prog 36 #[.slice a len cap,VU root,VU va] w fun e w'=>Df w.heap.size w' e (aU zs root va)∧Bw w w':=by
 have H8:Hid ((w.alloc (Obj.cells #[VI 0,VI 0,VU 0,SN] 114)).heap[w.heap.size]?=some (.cells #[VI 0,VI 0,VU 0,SN] 114 (0,0))):=dN _ _;have n1:=(Below.refl w.heap.size w).alloc nle (Obj.cells #[VI 0,VI 0,VU 0,SN] 114);have l1:w.heap.size<(w.alloc (Obj.cells #[VI 0,VI 0,VU 0,SN] 114)).heap.size:=by simp
 unfold aU;cases hcn:bY va
 ·rw [if_pos rfl];have HC:Hid (bY va=false):=hcn;clear hcn;go_enter Tryz.func36,Tryz.ntmps36;go_wp2_with fail;generalize w.alloc (Obj.cells #[VI 0,VI 0,VU 0,SN] 114)=v1 at H8 n1 l1 |-;refine (Bi va v1 hv0 hv1).mono ?_;rintro e w' ⟨rfl,nq,rfl⟩;rw [HC.out];have n2:Bw w (v1.drewN nq):=below_drewN n1 nq;have H9:Hid ((v1.drewN nq).heap[w.heap.size]?=some (.cells #[VI 0,VI 0,VU 0,SN] 114 (0,0))):=H8;generalize v1.drewN nq=v2 at n2 H9 |-;obtain ⟨⟨d0,d1,d2,d3⟩,e0,e1,e2,e3⟩:=aO H9.out;go_wp2_with fail;refine bodyPost_ret (v:=.agg #[VI 2,VI 2,VU 0,SN]) (by simp [results,Tryz.results36,go_sem,d0,d1,d2,d3]) rfl ⟨⟨none,0,rfl,RowC.nil _ _ _,fun _=>⟨rfl,rfl⟩,(by intro q hq;cases hq),Nat.zero_le _⟩,DY n2 nle _ _ _ _⟩
 ·rw [if_neg (by simp)];have HC:Hid (bY va=true):=hcn;clear hcn;obtain ⟨X,hX⟩:∃X,aN zs va 2 (root%17592186044416)=X:=⟨_,rfl⟩;have HX:Hid (aN zs va 2 (root%17592186044416)=X):=hX;rw [hX];clear hX;obtain ⟨x1,x2,x3,rs⟩:=X;go_enter Tryz.func36,Tryz.ntmps36;go_wp2_with fail;generalize w.alloc (Obj.cells #[VI 0,VI 0,VU 0,SN] 114)=v1 at H8 n1 l1 |-;refine (Bi va v1 hv0 hv1).mono ?_;rintro e w' ⟨rfl,nq,rfl⟩;rw [HC.out];have n2:Bw w (v1.drewN nq):=below_drewN n1 nq;have H9:Hid ((v1.drewN nq).heap[w.heap.size]?=some (.cells #[VI 0,VI 0,VU 0,SN] 114 (0,0))):=H8;have l2:w.heap.size<(v1.drewN nq).heap.size:=l1;generalize v1.drewN nq=v2 at n2 H9 l2 |-;clear n1 H8 l1;go_wp2_with fail;refine (en root 0 43 1 17592186044416 v2 hr0 hr1 (by omega) (by omega) (by omega) (by omega) rfl rfl).mono ?_;rintro e w' ⟨rfl,nr,rfl⟩;have n3:Bw w (v2.drewN nr):=below_drewN n2 nr;have H10:Hid ((v2.drewN nr).heap[w.heap.size]?=some (.cells #[VI 0,VI 0,VU 0,SN] 114 (0,0))):=H9;have l3:w.heap.size<(v2.drewN nr).heap.size:=l2;generalize v2.drewN nr=v3 at n3 H10 l3 |-;clear n2 H9 l2;rw [Int.ediv_one];have hb0:0<=root%17592186044416∧root%17592186044416<17592186044416:=⟨Int.emod_nonneg _ (by omega),Int.emod_lt_of_pos _ (by omega)⟩;go_wp2_with fail;refine (Fb a len cap zs va hl hc hm hv0 hv1 2 _ 2 v3 rfl (by omega) hb0.1 hb0.2 (hB.keep n3)).mono ?_;rintro e v4 ⟨hw,n4⟩;rw [HX.out] at hw;obtain ⟨a4,c4,rfl,r4,na4,sp4,nc4⟩:=hw;simp only at r4 na4 nc4 |-;have n14:=bst n3 n4;have H11:Hid _:=ag H10.out n4 l3;have l4:w.heap.size<v4.heap.size:=ltl l3 n4.size;obtain ⟨⟨d0,d1,d2,d3⟩,e0,e1,e2,e3⟩:=aO (ag H10.out n4 l3);have HR4:Hid (RowC v4 a4 rs.length 3 (bu rs)):=r4;have HN4:Hid (a4=none->rs.length=0∧c4=0):=na4;have HS4:Hid (∀q,a4=some q->q.spot=none∧v3.heap.size<=q.block):=sp4;clear r4 na4 sp4 H10 H11 n3 n4;go_wp2_with fail;refine bodyPost_ret (v:=.agg #[VI x1,VI x2,VU x3,.slice a4 rs.length c4]) (by simp [results,Tryz.results36,go_sem,d0,d1,d2,d3]) rfl ⟨⟨a4,c4,rfl,RowC.gb' HR4.out (gb4 v4 w.heap.size _ _ _ _) (fun q hq=>by have:=(HS4.out q hq).2;omega),HN4.out,(fun q hq=>⟨(HS4.out q hq).1,by have:=(HS4.out q hq).2;omega⟩),nc4⟩,DY n14 nle _ _ _ _⟩
section
attribute [local go_sem ↓] Go.wp_at_zero Go.wp_at_succ
def Bz (mode:Int) (sum mxr:Bool) (satp:Int):Value:=.agg #[VI mode,.bool sum,.bool mxr,VU satp]
theorem CO (mode:Int) (sum mxr:Bool) (satp:Int) (w:World) (h0:0<=satp) (h1:satp<=18446744073709551615):
 Calls Tryz.prog 33 #[Bz mode sum mxr satp] w fun e w'=>e=.returned (.bool (onM mode satp))∧Bw w w':=by
 unfold Bz;have a1:=BN w #[VI mode,.bool sum,.bool mxr,VU satp] 110;go_enter Tryz.func33,Tryz.ntmps33;go_wp2_with fail;generalize w.alloc (Obj.cells #[VI mode,.bool sum,.bool mxr,VU satp] 110)=v1 at a1 |-;obtain ⟨l1,c1,n1⟩:=a1;have c10:=c1 0;clear c1;refine (en satp 60 63 1152921504606846976 16 v1 h0 h1 (by omega) (by omega) (by omega) (by omega) rfl rfl).mono ?_;rintro e w' ⟨rfl,nq,rfl⟩;cases hs:(satp/1152921504606846976%16 == 8)
 ·go_wp2;go_ret;exact ⟨aR (by simp [onM,hs]),below_drewN n1 nq⟩
 ·cases hm0:(mode == 0)
  ·go_wp2;go_ret;exact ⟨aR (by simp [onM,hs,hm0]),below_drewN n1 nq⟩
  ·go_wp2;go_ret;exact ⟨aR (by simp [onM,hs,hm0]),below_drewN n1 nq⟩
theorem Dr (satp:Int) (w:World) (h0:0<=satp) (h1:satp<=18446744073709551615):
 Calls Tryz.prog 37 #[VU satp] w fun e w'=>e=.returned (VU (aB satp))∧∃n,w'=w.drewN n:=by
 go_enter Tryz.func37,Tryz.ntmps37;go_wp2_with fail;refine (en satp 44 59 17592186044416 65536 w h0 h1 (by omega) (by omega) (by omega) (by omega) rfl rfl).mono ?_;rintro e w' ⟨rfl,nq,rfl⟩;go_wp2;go_ret;exact ⟨rfl,nq,rfl⟩
theorem Co (kind:Int) (w:World):Calls Tryz.prog 117 #[VI kind] w fun e w'=>e=.returned (VI (dI kind))∧w'=w:=by
 by_cases k0:kind=0
 ·subst k0;go_enter Tryz.func117,Tryz.ntmps117;go_wp2;go_ret;exact ⟨rfl,rfl⟩
 by_cases k1:kind=1
 ·subst k1;go_enter Tryz.func117,Tryz.ntmps117;go_wp2;go_ret;exact ⟨rfl,rfl⟩
 have k0':(kind == 0)=false:=by simpa using k0
 have k1':(kind == 1)=false:=by simpa using k1
 go_enter Tryz.func117,Tryz.ntmps117;go_wp2;go_ret;exact ⟨eQ (by simp [dI,k0,k1]),rfl⟩
theorem Cz (kind:Int) (w:World):Calls Tryz.prog 123 #[VI kind] w fun e w'=>e=.returned (VI (bq kind))∧w'=w:=by
 by_cases k0:kind=0
 ·subst k0;go_enter Tryz.func123,Tryz.ntmps123;go_wp2;go_ret;exact ⟨rfl,rfl⟩
 by_cases k1:kind=1
 ·subst k1;go_enter Tryz.func123,Tryz.ntmps123;go_wp2;go_ret;exact ⟨rfl,rfl⟩
 have k0':(kind == 0)=false:=by simpa using k0
 have k1':(kind == 1)=false:=by simpa using k1
 go_enter Tryz.func123,Tryz.ntmps123;go_wp2;go_ret;exact ⟨eQ (by simp [bq,k0,k1]),rfl⟩
def BJ (r:Int × Int):Value:=.agg #[VI r.1,VU r.2]
theorem Ds {w:World} {g:Nat} {T:TypeId} {a b:Value} (h:w.heap[g]?=some (.cells #[a,b] T (0,0))):
 (w.cell? (AD g 0)=some a∧w.cell? (AD g 1)=some b)∧w.frozen? (AD g 0)=false∧w.frozen? (AD g 1)=false:=by
 simp [World.cell?,World.frozen?,h]
theorem Ir {B:Nat} {a w:World} {g:Nat} (h:Below B a w) (hg:B<=g) (x y:Value):Below B a ((w.setCell (AD g 0) x).setCell (AD g 1) y):=
 (h.setCell (p:=(AD g 0)) hg x).setCell (p:=(AD g 1)) hg y
theorem DC (pte level mode:Int) (sum mxr:Bool) (satp kind va:Int) (w:World) (h0:0<=pte) (h1:pte<=18446744073709551615) (hv:0<=va) (hv':va<=18446744073709551615) (hl: -9223372036854775808<=level) (hl':level<=9223372036854775807):
 Calls Tryz.prog 119 #[VU pte,VI level,Bz mode sum mxr satp,VI kind,VU va] w fun e w'=>e=.returned (BJ (eT pte level mode sum mxr kind va))∧Bw w w':=by
 unfold Bz eT;cases hg:bZ pte kind mode sum mxr
 ·rw [if_neg (by simp)];have HG:=hid hg;clear hg;go_enter Tryz.func119,Tryz.ntmps119;go_wp2_with fail;refine (Cn pte kind mode sum mxr _ h0 h1).mono ?_;rintro e w' ⟨rfl,nq,rfl⟩;rw [HG.out];go_wp2_with (go_at_call 117;refine (Co kind _).mono ?_;rintro e w' ⟨rfl,rfl⟩);exact bodyPost_ret (v:=.agg #[VI (dI kind),VU 0]) (by simp [results,Tryz.results119,go_sem]) rfl ⟨rfl,Ir (below_drewN (((brf).alloc nle _).alloc (by simp) _) nq) (Nat.le_succ _) _ _⟩
 ·rw [if_pos rfl];have HG:=hid hg;clear hg;go_enter Tryz.func119,Tryz.ntmps119;go_wp2_with fail;refine (Cn pte kind mode sum mxr _ h0 h1).mono ?_;rintro e w' ⟨rfl,nq,rfl⟩;rw [HG.out];go_wp2_with (go_at_call 136;refine (Fv pte level va _ h0 h1 hv hv' hl hl').mono ?_;rintro e w' ⟨rfl,nr,rfl⟩);exact bodyPost_ret (v:=.agg #[VI 0,VU (fE pte level va)]) (by simp [results,Tryz.results119,go_sem]) rfl ⟨rfl,Ir (below_drewN (((brf).alloc nle _).alloc (by simp) _) (nq+nr)) (Nat.le_succ _) _ _⟩
theorem CQ (r:Int × Int × Int × List aD) (v:Value) (mode:Int) (sum mxr:Bool) (satp kind va:Int) (w:World) (h0:0<=r.2.2.1) (h1:r.2.2.1<=18446744073709551615) (hv:0<=va) (hv':va<=18446744073709551615) (hl:0<=r.2.1) (hl':r.2.1<=2) (ho:v.oneCell'=true):
 Calls Tryz.prog 115 #[.agg #[VI r.1,VI r.2.1,VU r.2.2.1,v],Bz mode sum mxr satp,VI kind,VU va] w fun e w'=>e=.returned (BJ (bw r mode sum mxr kind va))∧Bw w w':=by
 obtain ⟨c,l,p,rs⟩:=r;simp only at h0 h1 hl hl' |-;unfold bw;simp only;by_cases c2:c=2
 ·subst c2;rw [if_pos rfl];unfold Bz;go_enter Tryz.func115,Tryz.ntmps115;go_wp2_with (go_at_call 117;refine (Co kind _).mono ?_;rintro e w' ⟨rfl,rfl⟩);exact bodyPost_ret (v:=.agg #[VI (dI kind),VU 0]) (by simp [results,Tryz.results115,go_sem]) rfl ⟨rfl,(((brf).alloc nle _).alloc (by simp) _).alloc (by simp;omega) _⟩
 rw [if_neg c2];have c2':(c == 2)=false:=by simpa using c2
 by_cases c3:c=3
 ·subst c3;rw [if_pos rfl];clear c2 c2';unfold Bz;go_enter Tryz.func115,Tryz.ntmps115;go_wp2_with (go_at_call 123;refine (Cz kind _).mono ?_;rintro e w' ⟨rfl,rfl⟩);exact bodyPost_ret (v:=.agg #[VI (bq kind),VU 0]) (by simp [results,Tryz.results115,go_sem]) rfl ⟨rfl,(((brf).alloc nle _).alloc (by simp) _).alloc (by simp;omega) _⟩
 rw [if_neg c3];have c3':(c == 3)=false:=by simpa using c3
 clear c2 c3;obtain ⟨⟨x1,x2⟩,hX⟩:∃X,eT p l mode sum mxr kind va=X:=⟨_,rfl⟩;rw [hX];have HX:=hid hX;clear hX;obtain ⟨v1,Ev1,n1,_,_,H1,l1⟩:=al3 w #[VI c,VI l,VU p,v] #[VI mode,.bool sum,.bool mxr,VU satp] #[VI 0,VU 0] 114 110 161;unfold Bz;go_enter Tryz.func115,Tryz.ntmps115;go_wp2_with fail;rw [Ev1.out];clear Ev1;refine (DC p l mode sum mxr satp kind va v1 h0 h1 hv hv' (by omega) (by omega)).mono ?_;rw [HX.out];rintro e v2 ⟨rfl,n2⟩;have n12:=bst n1 n2;obtain ⟨⟨d0,d1⟩,e0,e1⟩:=Ds (ag H1.out n2 l1);unfold BJ;simp only;clear n1 n2 H1;go_wp2_with fail;exact bodyPost_ret (v:=.agg #[VI x1,VU x2]) (by simp [results,Tryz.results115,go_sem,d0,d1]) rfl ⟨rfl,Ir n12 (by omega) _ _⟩
theorem EU (zs:List Int) (va:Int) (h:∀i:Nat,0<=zs[i]?.getD 0∧zs[i]?.getD 0<=255):∀(l:Nat) (n:Int),l<=2->
 0<=(aN zs va l n).2.2.1∧(aN zs va l n).2.2.1<=18446744073709551615∧0<=(aN zs va l n).2.1∧(aN zs va l n).2.1<=2
 | 0,n,hl=>by
  unfold aN;have hb:=nj zs (64*n+8*vZ va ((0:Nat):Int)) 8 (by omega) h;split
  ·simp
  ·split
   ·simp
   ·split
    ·exact ⟨hb.1,hb.2,by simp,by simp⟩
    ·simp
 | l+1,n,hl=>by
  unfold aN;have hb:=nj zs (64*n+8*vZ va ((l+1:Nat):Int)) 8 (by omega) h;split
  ·exact ⟨by simp,by simp,by show (0:Int)<=((l+1:Nat):Int);omega,by show ((l+1:Nat):Int)<=2;omega⟩
  ·split
   ·exact ⟨by simp,by simp,by show (0:Int)<=((l+1:Nat):Int);omega,by show ((l+1:Nat):Int)<=2;omega⟩
   ·split
    ·exact ⟨hb.1,hb.2,by show (0:Int)<=((l+1:Nat):Int);omega,by show ((l+1:Nat):Int)<=2;omega⟩
    ·exact EU zs va h l _ (by omega)
theorem sD (zs:List Int) (root va:Int) (h:∀i:Nat,0<=zs[i]?.getD 0∧zs[i]?.getD 0<=255):
 0<=(aU zs root va).2.2.1∧(aU zs root va).2.2.1<=18446744073709551615∧0<=(aU zs root va).2.1∧(aU zs root va).2.1<=2:=by
 unfold aU;split
 ·simp
 ·exact EU zs va h 2 _ (by omega)
theorem Fw (a:Option Addr) (len cap:Nat) (zs:List Int) (mode:Int) (sum mxr:Bool) (satp kind va:Int) (w:World) (hl:len<=1048576) (hc:len<=cap) (hm:cap<=9223372036854775807) (hs0:0<=satp) (hs1:satp<=18446744073709551615) (hv0:0<=va) (hv1:va<=18446744073709551615) (hB:Byt w a len zs):
 Calls Tryz.prog 91 #[.slice a len cap,Bz mode sum mxr satp,VI kind,VU va] w fun e w'=>e=.returned (BJ (fB zs mode sum mxr satp kind va))∧Bw w w':=by
 by_cases hbad:kind<0∨2<kind∨mode<0∨2<mode
 ·have hp:fB zs mode sum mxr satp kind va=(63,0):=by unfold fB;rw [if_pos hbad]
  rw [hp];unfold Bz BJ;clear hp;rcases (show kind<0∨(0<=kind∧2<kind)∨(0<=kind∧kind<=2∧mode<0)∨(0<=kind∧kind<=2∧0<=mode∧2<mode) by omega) with h | ⟨h,h'⟩ | ⟨h,h',h''⟩ | ⟨h,h',h'',h3⟩;all_goals
   clear hbad;go_enter Tryz.func91,Tryz.ntmps91;go_wp2_with fail;exact bodyPost_ret (v:=.agg #[VI 63,VU 0]) (by simp [results,Tryz.results91,go_sem]) rfl ⟨rfl,((brf).alloc nle _).alloc (by simp) _⟩
 ·have hk0:0<=kind:=by omega
  have hk2:kind<=2:=by omega
  have hm0:0<=mode:=by omega
  have hm2:mode<=2:=by omega
  unfold fB;rw [if_neg hbad];clear hbad;cases hon:onM mode satp
  ·rw [if_pos rfl];obtain ⟨v1,Ev1,n1,H2,H1,l1⟩:=al2 w #[VI mode,.bool sum,.bool mxr,VU satp] #[VI 0,VU 0] 110 161;have HO:=hid hon;clear hon;unfold Bz;go_enter Tryz.func91,Tryz.ntmps91;go_wp2_with fail;rw [Ev1.out];clear Ev1;refine (CO mode sum mxr satp v1 hs0 hs1).mono ?_;rintro e v2 ⟨rfl,n2⟩;rw [HO.out];have n12:=bst n1 n2;obtain ⟨⟨d0,d1⟩,e0,e1⟩:=Ds (ag H1.out n2 l1);have H3:=hid (ag H2.out n2 (by omega));have H4:=hid (ag H1.out n2 l1);have l2:=ltl l1 n2.size;clear n1 n2 H1 H2 l1;go_wp2_with fail;exact bodyPost_ret (v:=.agg #[VI 0,VU va]) (by simp [results,Tryz.results91,go_sem,d0,d1]) rfl ⟨rfl,Ir n12 (by omega) _ _⟩
  ·rw [if_neg (by simp)];obtain ⟨⟨x1,x2⟩,hX⟩:∃X,bw (aU zs satp va) mode sum mxr kind va=X:=⟨_,rfl⟩;rw [hX];have HX:=hid hX;clear hX;obtain ⟨v1,Ev1,n1,H2,H1,l1⟩:=al2 w #[VI mode,.bool sum,.bool mxr,VU satp] #[VI 0,VU 0] 110 161;have HO:=hid hon;clear hon;unfold Bz;go_enter Tryz.func91,Tryz.ntmps91;go_wp2_with fail;rw [Ev1.out];clear Ev1;refine (CO mode sum mxr satp v1 hs0 hs1).mono ?_;rintro e v2 ⟨rfl,n2⟩;rw [HO.out];have n12:=bst n1 n2;obtain ⟨⟨d0,d1⟩,e0,e1⟩:=Ds (ag H1.out n2 l1);have H3:=hid (ag H2.out n2 (by omega));have H4:=hid (ag H1.out n2 l1);have l2:=ltl l1 n2.size;clear n1 n2 H1 H2 l1;obtain ⟨⟨q0,q1,q2,q3⟩,_⟩:=aO H3.out;have HBy:=hid fun (v:World) (hv:Bw v2 v)=>(hB.keep n12).keep hv;have HC:Hid (∀v:World,Bw v2 v->v.cell? (AD w.heap.size 0)=some (VI mode)∧v.cell? (AD w.heap.size 1)=some (.bool sum)∧v.cell? (AD w.heap.size 2)=some (.bool mxr)∧v.cell? (AD w.heap.size 3)=some (VU satp)):=
    fun v hv=>(aO (ag H3.out hv (by omega))).1
   have hwb:=sD zs satp va (hB.2.1);clear hB d0 d1 e0 e1;obtain ⟨W,hW⟩:∃W,aU zs satp va=W:=⟨_,rfl⟩;rw [hW] at hwb;have HW:=hid hW;clear hW;go_wp2;go_region_held3 (fun w'=>w'.cell? (AD w.heap.size 0)=some (VI mode)∧w'.cell? (AD w.heap.size 1)=some (.bool sum)∧w'.cell? (AD w.heap.size 2)=some (.bool mxr)∧w'.cell? (AD w.heap.size 3)=some (VU satp)) (go_keep)
    (first
     | (go_at_call 36;refine (CR a len cap zs satp va _ hl hc hm hs0 hs1 hv0 hv1 (HBy.out _ (brf).drew)).mono ?_;rw [HW.out];rintro e v3 ⟨⟨a3,c3,rfl,r3,na3,sp3,nc3⟩,n3⟩;have m3:Bw v2 v3:=(Below.refl v2.heap.size v2).drew.trans n3;obtain ⟨g0,g1,g2,g3⟩:=HC.out v3 m3;clear r3 na3 sp3 nc3 n3)
     | (go_at_call 115;refine (CQ W (.slice a3 W.2.2.2.length c3) mode sum mxr satp kind va _ hwb.1 hwb.2.1 hv0 hv1 hwb.2.2.1 hwb.2.2.2 rfl).mono ?_;rw [<-HW.out,HX.out];unfold BJ;rintro e v4 ⟨rfl,n4⟩;have m4:Bw v2 v4:=bst m3 n4;obtain ⟨j0,j1,j2,j3⟩:=HC.out v4 m4;obtain ⟨⟨d0,d1⟩,e0,e1⟩:=Ds (ag H4.out m4 l2);clear n4))
   go_wp2_with fail;exact bodyPost_ret (v:=.agg #[VI x1,VU x2]) (by simp [results,Tryz.results91,go_sem,d0,d1]) rfl ⟨rfl,Ir (bst n12 m4) (by omega) _ _⟩
end
structure EntM where
 valid:Bool
 level:Int
 tag:Int
 asid:Int
 glob:Bool
 pte:Int
def bC:EntM:=⟨false,0,0,0,false,0⟩
structure TlbM where
 sets:Int
 ways:Int
 es:List EntM
def cG (va level:Int):Int:=if level=0 then va/64%512 else if level=1 then va/512%64 else va/4096%8
def tW (level:Int):Int:=if level=0 then 512 else if level=1 then 64 else 8
def Cj (p:Bool):Int:=if p=true then 1 else 2
def aH (e:EntM) (p:Bool):Bool:=
 e.valid && decide (0<=e.level) && decide (e.level<=2) && decide (e.tag<tW e.level) && decide (e.asid<=65535) && (e.glob == aZ e.pte 32) && (aV e.pte e.level == Cj p)
def BE (e:EntM):Prop:=
 (-9223372036854775808<=e.level∧e.level<=9223372036854775807)∧(0<=e.tag∧e.tag<=18446744073709551615)∧(0<=e.asid∧e.asid<=18446744073709551615)∧(0<=e.pte∧e.pte<=18446744073709551615)
def ky (e:EntM):List Value:=[.bool e.valid,VI e.level,VU e.tag,VU e.asid,.bool e.glob,VU e.pte]
def AQ (e:EntM):Value:=.agg #[.bool e.valid,VI e.level,VU e.tag,VU e.asid,.bool e.glob,VU e.pte]
theorem Dk (va level:Int) (w:World) (h0:0<=va) (h1:va<=18446744073709551615) (hl:0<=level) (hl':level<=2):
 Calls Tryz.prog 38 #[VU va,VI level] w fun e w'=>e=.returned (VU (cG va level))∧∃n,w'=w.drewN n:=by
 rcases (show level=0∨level=1∨level=2 by omega) with rfl | rfl | rfl
 ·go_enter Tryz.func38,Tryz.ntmps38;go_wp2_with fail;refine (en va 6 14 64 512 w h0 h1 (by omega) (by omega) (by omega) (by omega) rfl rfl).mono ?_;rintro e w' ⟨rfl,nq,rfl⟩;go_wp2;go_ret;exact ⟨rfl,nq,rfl⟩
 ·go_enter Tryz.func38,Tryz.ntmps38;go_wp2_with fail;refine (en va 9 14 512 64 w h0 h1 (by omega) (by omega) (by omega) (by omega) rfl rfl).mono ?_;rintro e w' ⟨rfl,nq,rfl⟩;go_wp2;go_ret;exact ⟨rfl,nq,rfl⟩
 ·go_enter Tryz.func38,Tryz.ntmps38;go_wp2_with fail;refine (en va 12 14 4096 8 w h0 h1 (by omega) (by omega) (by omega) (by omega) rfl rfl).mono ?_;rintro e w' ⟨rfl,nq,rfl⟩;go_wp2;go_ret;exact ⟨rfl,nq,rfl⟩
theorem C5 (x:EntM) (p:Bool) (w:World) (hx:BE x):
 Calls Tryz.prog 137 #[AQ x,.bool p] w fun e w'=>e=.returned (.bool (aH x p))∧Bw w w':=by
 obtain ⟨v,lv,tg,asd,gl,pt⟩:=x;obtain ⟨⟨a1,a2⟩,⟨b1,b2⟩,⟨c1,c2⟩,d1,d2⟩:=hx;simp only at a1 a2 b1 b2 c1 c2 d1 d2;unfold AQ aH;simp only;have n1:=(Below.refl w.heap.size w).alloc nle (Obj.cells #[.bool v,VI lv,VU tg,VU asd,.bool gl,VU pt] 154);cases v
 ·cases p;all_goals
   go_enter Tryz.func137,Tryz.ntmps137;go_wp2;go_quiet (fail);go_wp2;go_ret;exact ⟨aR (by simp),below_drewN n1 nq⟩
 by_cases h0n:¬(0<=lv)
 ·have h0:=h0n;have h0':decide (0<=lv)=false:=by simpa using h0
  cases p;all_goals
   go_enter Tryz.func137,Tryz.ntmps137;go_wp2;go_quiet (fail);go_wp2;go_ret;exact ⟨aR (by simp [h0']),below_drewN n1 nq⟩
 have h0:=Decidable.not_not.1 h0n;clear h0n;by_cases h2n:¬(lv<=2)
 ·have h2:=h2n;have h2':decide (lv<=2)=false:=by simpa using h2
  cases p;all_goals
   go_enter Tryz.func137,Tryz.ntmps137;go_wp2;go_quiet (fail);go_wp2;go_ret;exact ⟨aR (by simp [h2']),below_drewN n1 nq⟩
 have h2:=Decidable.not_not.1 h2n;clear h2n;obtain ⟨g5,hg5⟩:∃g5,aZ pt 32=g5:=⟨_,rfl⟩;obtain ⟨kd,hkd⟩:∃kd,aV pt lv=kd:=⟨_,rfl⟩;rw [hg5,hkd];have HC5:Hid (∀w:World,Calls Tryz.prog 41 #[VU pt,VI 5] w fun e w'=>e=.returned (.bool g5)∧∃n,w'=w.drewN n):=fun w=>by
  have:=eo pt 5 32 w d1 d2 (by omega) (by omega) rfl;rw [hg5] at this;exact this
 have HC6:Hid (∀w:World,Calls Tryz.prog 39 #[VU pt,VI lv] w fun e w'=>e=.returned (VI kd)∧∃n,w'=w.drewN n):=fun w=>by
  have:=BD pt lv w d1 d2 a1 a2;rw [hkd] at this;exact this
 clear hg5 hkd;rcases (show lv=0∨lv=1∨lv=2 by omega) with rfl | rfl | rfl
 ·by_cases htn:¬(tg<512)
  ·have ht:=htn;have ht':decide (tg<512)=false:=by simpa using ht
   cases p;all_goals
    go_enter Tryz.func137,Tryz.ntmps137;go_wp2;go_quiet (first
    | (go_at_call 62;exact Calls.quiet_of_same (ge 9 512 _ (by omega) rfl))
    | (go_at_call 41;exact Calls.quiet_of (HC5.out _))
    | (go_at_call 39;exact Calls.quiet_of (HC6.out _)))
    go_wp2;go_ret;exact ⟨aR (by simp [tW,Cj,ht']),below_drewN n1 nq⟩
  have ht:=Decidable.not_not.1 htn;clear htn;by_cases han:¬(asd<=65535)
  ·have ha:=han;have ha':decide (asd<=65535)=false:=by simpa using ha
   cases p;all_goals
    go_enter Tryz.func137,Tryz.ntmps137;go_wp2;go_quiet (first
    | (go_at_call 62;exact Calls.quiet_of_same (ge 9 512 _ (by omega) rfl))
    | (go_at_call 41;exact Calls.quiet_of (HC5.out _))
    | (go_at_call 39;exact Calls.quiet_of (HC6.out _)))
    go_wp2;go_ret;exact ⟨aR (by simp [tW,Cj,ht,ha']),below_drewN n1 nq⟩
  have ha:=Decidable.not_not.1 han;clear han;cases p <;> cases gl <;> cases g5;all_goals
   go_enter Tryz.func137,Tryz.ntmps137;go_wp2;go_quiet (first
    | (go_at_call 62;exact Calls.quiet_of_same (ge 9 512 _ (by omega) rfl))
    | (go_at_call 41;exact Calls.quiet_of (HC5.out _))
    | (go_at_call 39;exact Calls.quiet_of (HC6.out _)))
   go_wp2;go_ret;exact ⟨aR (by simp [tW,Cj,ht,ha]),below_drewN n1 nq⟩
 ·by_cases htn:¬(tg<64)
  ·have ht:=htn;have ht':decide (tg<64)=false:=by simpa using ht
   cases p;all_goals
    go_enter Tryz.func137,Tryz.ntmps137;go_wp2;go_quiet (first
    | (go_at_call 62;exact Calls.quiet_of_same (ge 6 64 _ (by omega) rfl))
    | (go_at_call 41;exact Calls.quiet_of (HC5.out _))
    | (go_at_call 39;exact Calls.quiet_of (HC6.out _)))
    go_wp2;go_ret;exact ⟨aR (by simp [tW,Cj,ht']),below_drewN n1 nq⟩
  have ht:=Decidable.not_not.1 htn;clear htn;by_cases han:¬(asd<=65535)
  ·have ha:=han;have ha':decide (asd<=65535)=false:=by simpa using ha
   cases p;all_goals
    go_enter Tryz.func137,Tryz.ntmps137;go_wp2;go_quiet (first
    | (go_at_call 62;exact Calls.quiet_of_same (ge 6 64 _ (by omega) rfl))
    | (go_at_call 41;exact Calls.quiet_of (HC5.out _))
    | (go_at_call 39;exact Calls.quiet_of (HC6.out _)))
    go_wp2;go_ret;exact ⟨aR (by simp [tW,Cj,ht,ha']),below_drewN n1 nq⟩
  have ha:=Decidable.not_not.1 han;clear han;cases p <;> cases gl <;> cases g5;all_goals
   go_enter Tryz.func137,Tryz.ntmps137;go_wp2;go_quiet (first
    | (go_at_call 62;exact Calls.quiet_of_same (ge 6 64 _ (by omega) rfl))
    | (go_at_call 41;exact Calls.quiet_of (HC5.out _))
    | (go_at_call 39;exact Calls.quiet_of (HC6.out _)))
   go_wp2;go_ret;exact ⟨aR (by simp [tW,Cj,ht,ha]),below_drewN n1 nq⟩
 ·by_cases htn:¬(tg<8)
  ·have ht:=htn;have ht':decide (tg<8)=false:=by simpa using ht
   cases p;all_goals
    go_enter Tryz.func137,Tryz.ntmps137;go_wp2;go_quiet (first
    | (go_at_call 62;exact Calls.quiet_of_same (ge 3 8 _ (by omega) rfl))
    | (go_at_call 41;exact Calls.quiet_of (HC5.out _))
    | (go_at_call 39;exact Calls.quiet_of (HC6.out _)))
    go_wp2;go_ret;exact ⟨aR (by simp [tW,Cj,ht']),below_drewN n1 nq⟩
  have ht:=Decidable.not_not.1 htn;clear htn;by_cases han:¬(asd<=65535)
  ·have ha:=han;have ha':decide (asd<=65535)=false:=by simpa using ha
   cases p;all_goals
    go_enter Tryz.func137,Tryz.ntmps137;go_wp2;go_quiet (first
    | (go_at_call 62;exact Calls.quiet_of_same (ge 3 8 _ (by omega) rfl))
    | (go_at_call 41;exact Calls.quiet_of (HC5.out _))
    | (go_at_call 39;exact Calls.quiet_of (HC6.out _)))
    go_wp2;go_ret;exact ⟨aR (by simp [tW,Cj,ht,ha']),below_drewN n1 nq⟩
  have ha:=Decidable.not_not.1 han;clear han;cases p <;> cases gl <;> cases g5;all_goals
   go_enter Tryz.func137,Tryz.ntmps137;go_wp2;go_quiet (first
    | (go_at_call 62;exact Calls.quiet_of_same (ge 3 8 _ (by omega) rfl))
    | (go_at_call 41;exact Calls.quiet_of (HC5.out _))
    | (go_at_call 39;exact Calls.quiet_of (HC6.out _)))
   go_wp2;go_ret;exact ⟨aR (by simp [tW,Cj,ht,ha]),below_drewN n1 nq⟩
end Go.Proofs.YthdgiakgepmabaaGreat
